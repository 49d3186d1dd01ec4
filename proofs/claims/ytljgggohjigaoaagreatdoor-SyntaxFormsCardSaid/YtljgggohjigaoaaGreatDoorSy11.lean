/- A file in memory: rows of expressions and blocks, each list a row of its own · The parser and its file; an expression that has ended -/
import Derived.Laws.AppendOwn
import Derived.Deep.RegionLaw
import Derived.Deep.AppendLies
import Derived.BigRegion
import Derived.Test.YtljgggohjigaoaaGreatDoorSy10
namespace Go.Proofs.YtljgggohjigaoaaGreatDoor
open Go.RowKit Go.Shelf
set_option linter.unusedVariables false

/-- The block that a row lies in, if it has one. -/
def ownB (v : Value) : List Nat := match v.ownBlock with | some g => [g] | none => []
theorem mem_ownB {v : Value} {g : Nat} : g ∈ ownB v ↔ v.ownBlock = some g := by
  unfold ownB
  cases v.ownBlock with
  | none => simp
  | some q => simp [eq_comm]
theorem ownB_nodup (v : Value) : (ownB v).Nodup := by
  unfold ownB
  cases v.ownBlock <;> simp
/-- An expression in memory. -/
structure ExM where
  e : Ex
  av : Value
  kv : Value
def ExM.cells (m : ExM) : List Value := [.int .i64 m.e.k, .string m.e.x, m.av, m.kv, .int .i64 (m.e.at_ : Int)]
def ExM.foot (m : ExM) : List Nat := ownB m.av ++ ownB m.kv
def intsV (l : List Nat) : List Value := l.map fun (i : Nat) => Value.int .i64 (i : Int)
structure ExM.Ok (lo : Nat) (W : World) (m : ExM) : Prop where
  args : W.ownsRow lo 3 1 m.av m.e.args.length (intsV m.e.args)
  keys : W.ownsRow lo 9 1 m.kv m.e.keys.length (m.e.keys.map Value.string)
def AtS.cells (a : AtS) : List Value := [.string a.n, .int .i64 (a.e : Int), .int .i64 (a.at_ : Int)]
/-- A block in memory. -/
structure BlM where
  b : Bl
  lv : Value
  av : Value
  bv : Value
def BlM.cells (m : BlM) : List Value := [.string m.b.t, m.lv, m.av, m.bv, .int .i64 (m.b.at_ : Int)]
def BlM.foot (m : BlM) : List Nat := ownB m.lv ++ (ownB m.av ++ ownB m.bv)
structure BlM.Ok (lo : Nat) (W : World) (m : BlM) : Prop where
  labels : W.ownsRow lo 9 1 m.lv m.b.labels.length (m.b.labels.map Value.string)
  attrs : W.ownsRow lo 43 3 m.av m.b.attrs.length (m.b.attrs.flatMap AtS.cells)
  blocks : W.ownsRow lo 3 1 m.bv m.b.blocks.length (intsV m.b.blocks)
/-- A file in memory: three rows. -/
structure FileM where
  ev : Value
  bv : Value
  tv : Value
  ms : List ExM
  ns : List BlM
  /-- A mark: Top stays. -/
  lk : Bool := false
def FileM.rest (m : FileM) (F : Nat) : List Nat := F :: (ownB m.bv ++ (ownB m.tv ++ (m.ns.flatMap BlM.foot ++ m.ms.flatMap ExM.foot)))
def FileM.foot (m : FileM) (F : Nat) : List Nat := ownB m.ev ++ m.rest F
structure FileOk (W : World) (F lo : Nat) (m : FileM) (f : Fi) : Prop where
  box : Blk W F #[m.ev, m.bv, m.tv] 28
  exprs : W.ownsRow lo 38 5 m.ev m.ms.length (m.ms.flatMap ExM.cells)
  blocks : W.ownsRow lo 41 5 m.bv m.ns.length (m.ns.flatMap BlM.cells)
  top : W.ownsRow lo 3 1 m.tv f.top.length (intsV f.top)
  es : m.ms.map ExM.e = f.exprs
  bs : m.ns.map BlM.b = f.blocks
  eok : ∀ x ∈ m.ms, x.Ok lo W
  bok : ∀ x ∈ m.ns, x.Ok lo W
  nodup : (m.foot F).Nodup
theorem row_same {w w' : World} {B e size n : Nat} {v : Value} {xs : List Value} (h : w.ownsRow B e size v n xs) (hs : ∀ g, v.ownBlock = some g → w'.heap[g]? = w.heap[g]?) : w'.ownsRow B e size v n xs := by
  obtain ⟨h1, h2⟩ := h
  refine ⟨h1, ?_⟩
  rcases h2 with h2 | ⟨g, cap, cur, rfl, h3, h4, h5⟩
  · exact .inl h2
  · exact .inr ⟨g, cap, cur, rfl, h3, (hs g rfl).trans h4, h5⟩
theorem row_lt {w : World} {B e size n : Nat} {v : Value} {xs : List Value} (h : w.ownsRow B e size v n xs) {g : Nat} (hg : v.ownBlock = some g) : B ≤ g ∧ g < w.heap.size := World.ownsRow.lt h g hg
theorem ExM.Ok.keep {lo : Nat} {W W' : World} {m : ExM} (h : m.Ok lo W) (hs : ∀ g ∈ m.foot, W'.heap[g]? = W.heap[g]?) : m.Ok lo W' :=
  ⟨row_same h.args (fun g hg => hs g (List.mem_append.2 (.inl (mem_ownB.2 hg)))), row_same h.keys (fun g hg => hs g (List.mem_append.2 (.inr (mem_ownB.2 hg))))⟩
theorem BlM.Ok.keep {lo : Nat} {W W' : World} {m : BlM} (h : m.Ok lo W) (hs : ∀ g ∈ m.foot, W'.heap[g]? = W.heap[g]?) : m.Ok lo W' :=
  ⟨row_same h.labels (fun g hg => hs g (List.mem_append.2 (.inl (mem_ownB.2 hg)))), row_same h.attrs (fun g hg => hs g (List.mem_append.2 (.inr (List.mem_append.2 (.inl (mem_ownB.2 hg)))))), row_same h.blocks (fun g hg => hs g (List.mem_append.2 (.inr (List.mem_append.2 (.inr (mem_ownB.2 hg))))))⟩
theorem ExM.Ok.lt {lo : Nat} {W : World} {m : ExM} (h : m.Ok lo W) : ∀ g ∈ m.foot, lo ≤ g ∧ g < W.heap.size := fun g hg => by
  rcases List.mem_append.1 hg with h1 | h1
  · exact row_lt h.args (mem_ownB.1 h1)
  · exact row_lt h.keys (mem_ownB.1 h1)
theorem BlM.Ok.lt {lo : Nat} {W : World} {m : BlM} (h : m.Ok lo W) : ∀ g ∈ m.foot, lo ≤ g ∧ g < W.heap.size := fun g hg => by
  rcases List.mem_append.1 hg with h1 | h1
  · exact row_lt h.labels (mem_ownB.1 h1)
  · rcases List.mem_append.1 h1 with h1 | h1
    · exact row_lt h.attrs (mem_ownB.1 h1)
    · exact row_lt h.blocks (mem_ownB.1 h1)
section
variable {W W' : World} {F lo : Nat} {m : FileM} {f : Fi}
theorem mem_foot {g : Nat} : g ∈ m.foot F ↔ m.ev.ownBlock = some g ∨ g = F ∨ m.bv.ownBlock = some g ∨ m.tv.ownBlock = some g ∨ (∃ x ∈ m.ns, g ∈ x.foot) ∨ ∃ x ∈ m.ms, g ∈ x.foot := by
  unfold FileM.foot FileM.rest
  simp only [List.mem_append, List.mem_cons, mem_ownB, List.mem_flatMap]
theorem FileOk.lt (h : FileOk W F lo m f) : ∀ g ∈ m.foot F, g < W.heap.size ∧ (g = F ∨ lo ≤ g) := fun g hg => by
  rcases mem_foot.1 hg with h1 | h1 | h1 | h1 | ⟨x, hx, h1⟩ | ⟨x, hx, h1⟩
  · exact ⟨(row_lt h.exprs h1).2, .inr (row_lt h.exprs h1).1⟩
  · subst h1; exact ⟨h.box.lt, .inl rfl⟩
  · exact ⟨(row_lt h.blocks h1).2, .inr (row_lt h.blocks h1).1⟩
  · exact ⟨(row_lt h.top h1).2, .inr (row_lt h.top h1).1⟩
  · exact ⟨((h.bok x hx).lt g h1).2, .inr ((h.bok x hx).lt g h1).1⟩
  · exact ⟨((h.eok x hx).lt g h1).2, .inr ((h.eok x hx).lt g h1).1⟩
/-- What isn't touched stays. -/
theorem FileOk.keep (h : FileOk W F lo m f) (hs : ∀ g ∈ m.foot F, W'.heap[g]? = W.heap[g]?) : FileOk W' F lo m f :=
  ⟨(hs F (mem_foot.2 (.inr (.inl rfl)))).trans h.box, row_same h.exprs (fun g hg => hs g (mem_foot.2 (.inl hg))), row_same h.blocks (fun g hg => hs g (mem_foot.2 (.inr (.inr (.inl hg))))), row_same h.top (fun g hg => hs g (mem_foot.2 (.inr (.inr (.inr (.inl hg)))))), h.es, h.bs,
    fun x hx => (h.eok x hx).keep (fun g hg => hs g (mem_foot.2 (.inr (.inr (.inr (.inr (.inr ⟨x, hx, hg⟩))))))), fun x hx => (h.bok x hx).keep (fun g hg => hs g (mem_foot.2 (.inr (.inr (.inr (.inr (.inl ⟨x, hx, hg⟩))))))), h.nodup⟩
/-- An expression more: behind the append, and its store. -/
theorem FileOk.addE {w3 : World} {g2 cap2 : Nat} {x : ExM} {o : Obj} (h : FileOk W F lo m f) (hF : F < lo) (hlo : lo ≤ W.heap.size) (hx : x.Ok lo W) (hxf : ∀ g ∈ x.foot, g ∉ m.foot F) (hxn : x.foot.Nodup)
    (hown : w3.ownsRow lo 38 5 (.slice (some ⟨g2, 0, none⟩) (m.ms.length + 1) cap2) (m.ms.length + 1) (m.ms.flatMap ExM.cells ++ x.cells)) (hg : (W.alloc o).grownBy w3 m.ev.ownBlock) (hat : m.ev.ownBlock = some g2 ∨ g2 = (W.alloc o).heap.size) :
    FileOk (w3.setCell ⟨F, 0, none⟩ (.slice (some ⟨g2, 0, none⟩) (m.ms.length + 1) cap2)) F lo { m with ev := .slice (some ⟨g2, 0, none⟩) (m.ms.length + 1) cap2, ms := m.ms ++ [x] } { f with exprs := f.exprs ++ [x.e] } ∧
    (∀ g ∈ ({ m with ev := .slice (some ⟨g2, 0, none⟩) (m.ms.length + 1) cap2, ms := m.ms ++ [x] } : FileM).foot F, g ∈ m.foot F ∨ g ∈ x.foot ∨ W.heap.size ≤ g) ∧
    (∀ k, k < W.heap.size → k ∉ m.foot F → (w3.setCell ⟨F, 0, none⟩ (.slice (some ⟨g2, 0, none⟩) (m.ms.length + 1) cap2)).heap[k]? = W.heap[k]?) := by
  have hs : (W.alloc o).heap.size = W.heap.size + 1 := by simp
  have hal : ∀ k, k < W.heap.size → (W.alloc o).heap[k]? = W.heap[k]? := fun k hk => (below_new W o).block k hk
  have hne : ∀ k, k ∈ m.rest F → some k ≠ m.ev.ownBlock := fun k hk e => by
    have := h.nodup
    unfold FileM.foot at this
    exact (List.nodup_append.1 this).2.2 k (mem_ownB.2 e.symm) k hk rfl
  have hrest : ∀ k, k ∈ m.rest F → k < W.heap.size := fun k hk => (h.lt k (List.mem_append.2 (.inr hk))).1
  have hst : ∀ k, k < W.heap.size → k ≠ F → some k ≠ m.ev.ownBlock → (w3.setCell ⟨F, 0, none⟩ (.slice (some ⟨g2, 0, none⟩) (m.ms.length + 1) cap2)).heap[k]? = W.heap[k]? := fun k hk h1 h2 => by
    rw [Below.heap_setCell _ _ _ _ (by exact h1)]
    exact (hg.block k (by omega) h2).trans (hal k hk)
  have hgF : g2 ≠ F := by
    rcases hat with h1 | h1
    · have := (row_lt h.exprs h1).1; omega
    · have := h.box.lt; omega
  have hFr : F ∈ m.rest F := List.mem_cons_self
  have hmem : ∀ k, k ∈ m.rest F → k ≠ F → (w3.setCell ⟨F, 0, none⟩ (.slice (some ⟨g2, 0, none⟩) (m.ms.length + 1) cap2)).heap[k]? = W.heap[k]? := fun k hk h1 => hst k (hrest k hk) h1 (hne k hk)
  have hin : ∀ {g : Nat}, (m.bv.ownBlock = some g ∨ m.tv.ownBlock = some g ∨ (∃ x ∈ m.ns, g ∈ x.foot) ∨ ∃ x ∈ m.ms, g ∈ x.foot) → g ∈ m.rest F := fun {g} hk => by
    unfold FileM.rest
    simp only [List.mem_append, List.mem_cons, mem_ownB, List.mem_flatMap]
    exact .inr hk
  have hrn : (m.rest F).Nodup := by
    have := h.nodup
    unfold FileM.foot at this
    exact (List.nodup_append.1 this).2.1
  have hnF : ∀ {g : Nat}, (m.bv.ownBlock = some g ∨ m.tv.ownBlock = some g ∨ (∃ x ∈ m.ns, g ∈ x.foot) ∨ ∃ x ∈ m.ms, g ∈ x.foot) → g ≠ F := fun {g} hk e => by
    subst e
    have := hrn
    unfold FileM.rest at this
    rw [List.nodup_cons] at this
    apply this.1
    simp only [List.mem_append, mem_ownB, List.mem_flatMap]
    exact hk
  have hkeep : ∀ {g : Nat}, (m.bv.ownBlock = some g ∨ m.tv.ownBlock = some g ∨ (∃ x ∈ m.ns, g ∈ x.foot) ∨ ∃ x ∈ m.ms, g ∈ x.foot) → (w3.setCell ⟨F, 0, none⟩ (.slice (some ⟨g2, 0, none⟩) (m.ms.length + 1) cap2)).heap[g]? = W.heap[g]? := fun hk => hmem _ (hin hk) (hnF hk)
  have hxl := hx.lt
  have hg2x : g2 ∉ x.foot := fun hk => by
    rcases hat with h1 | h1
    · exact hxf g2 hk (mem_foot.2 (.inl h1))
    · have := (hxl g2 hk).2; omega
  have hr' : (({ m with ev := .slice (some ⟨g2, 0, none⟩) (m.ms.length + 1) cap2, ms := m.ms ++ [x] } : FileM).rest F) = m.rest F ++ x.foot := by
    unfold FileM.rest
    simp [List.flatMap_append, List.append_assoc]
  have ho : ownB (.slice (some ⟨g2, 0, none⟩) (m.ms.length + 1) cap2) = [g2] := rfl
  refine ⟨⟨?_, ?_, row_same h.blocks (fun g hg => hkeep (.inl hg)), row_same h.top (fun g hg => hkeep (.inr (.inl hg))), ?_, h.bs, fun y hy => ?_, fun y hy => (h.bok y hy).keep (fun g hg => hkeep (.inr (.inr (.inl ⟨y, hy, hg⟩)))), ?_⟩, fun k hk => ?_, fun k hk hn => hst k hk (fun e => hn (by rw [e]; exact mem_foot.2 (.inr (.inl rfl)))) (fun e => hn (mem_foot.2 (.inl e.symm)))⟩
  · have hb : Blk w3 F #[m.ev, m.bv, m.tv] 28 := (hg.block F (by have := h.box.lt; omega) (hne F hFr)).trans ((hal F h.box.lt).trans h.box)
    have := hb.set 0 (.slice (some ⟨g2, 0, none⟩) (m.ms.length + 1) cap2)
    simpa using this
  · rw [List.length_append, List.flatMap_append]
    simp only [List.flatMap_cons, List.flatMap_nil, List.append_nil, List.length_cons, List.length_nil]
    exact row_same hown (fun g hg => by
      obtain rfl : g2 = g := Option.some.inj hg
      exact Below.heap_setCell _ _ _ _ (by exact hgF))
  · rw [List.map_append, h.es]; rfl
  · rcases List.mem_append.1 hy with hy | hy
    · exact (h.eok y hy).keep (fun g hg => hkeep (.inr (.inr (.inr ⟨y, hy, hg⟩))))
    · rw [List.mem_singleton] at hy
      subst hy
      exact hx.keep (fun g hg => hst g (hxl g hg).2 (fun e => hxf g hg (by rw [e]; exact mem_foot.2 (.inr (.inl rfl)))) (fun e => hxf g hg (mem_foot.2 (.inl e.symm))))
  · show (ownB _ ++ _).Nodup
    rw [hr', ho, List.nodup_append]
    refine ⟨by simp, ?_, ?_⟩
    · rw [List.nodup_append]
      exact ⟨hrn, hxn, fun a ha b hb e => by subst e; exact hxf a hb (List.mem_append.2 (.inr ha))⟩
    · intro a ha b hb e
      subst e
      rw [List.mem_singleton] at ha
      subst ha
      rcases List.mem_append.1 hb with hb | hb
      · rcases hat with h1 | h1
        · exact hne _ hb h1.symm
        · have := hrest _ hb; omega
      · exact hg2x hb
  · have hk' : k ∈ ownB (.slice (some ⟨g2, 0, none⟩) (m.ms.length + 1) cap2) ++ (m.rest F ++ x.foot) := by rw [← hr']; exact hk
    rw [ho] at hk'
    rcases List.mem_append.1 hk' with hk | hk
    · rw [List.mem_singleton] at hk
      subst hk
      rcases hat with h1 | h1
      · exact .inl (mem_foot.2 (.inl h1))
      · exact .inr (.inr (by omega))
    · rcases List.mem_append.1 hk with hk | hk
      · exact .inl (List.mem_append.2 (.inr hk))
      · exact .inr (.inl hk)
end
end Go.Proofs.YtljgggohjigaoaaGreatDoor
namespace Go.Proofs.YtljgggohjigaoaaGreatDoor
open Go.RowKit Go.Shelf
set_option linter.unusedVariables false

/-- The parser at P, in a state; what it has made in F, its rows from lo on. -/
structure PsAt (W : World) (P F T lo dp : Nat) (s : Ps) (m : FileM) : Prop where
  tok : ParAt W P F T dp s.over s.toks
  ton : T ∉ m.foot F
  good : GoodT s.toks
  file : FileOk W F lo m s.f
  far : P ∉ m.foot F
  base : F < lo ∧ lo ≤ W.heap.size
/-- All else is as it was. -/
structure Outs (W W' : World) (P F : Nat) (m : FileM) : Prop where
  os : W'.os = W.os
  tape : W'.tape = W.tape
  output : W'.output = W.output
  size : W.heap.size ≤ W'.heap.size
  block : ∀ k, k < W.heap.size → k ≠ P → k ∉ m.foot F → W'.heap[k]? = W.heap[k]?
/-- Rows that grew, or are new. -/
def Kept (m m' : FileM) : Prop := m.lk = true → m'.tv = m.tv ∧ m'.lk = true
theorem Kept.refl (m : FileM) : Kept m m := fun h => ⟨rfl, h⟩
theorem Kept.trans {a b c : FileM} (k : Kept b c) (h : Kept a b) : Kept a c := fun l => ⟨(k (h l).2).1.trans (h l).1, (k (h l).2).2⟩
structure Later (W : World) (F : Nat) (m m' : FileM) : Prop where
  at_ : ∀ g ∈ m'.foot F, g ∈ m.foot F ∨ W.heap.size ≤ g
  tv : Kept m m'
instance {W : World} {F : Nat} {m m' : FileM} : CoeFun (Later W F m m') (fun _ => ∀ g ∈ m'.foot F, g ∈ m.foot F ∨ W.heap.size ≤ g) := ⟨Later.at_⟩
/-- The same with rows that are handed over. -/
structure LaterY (W : World) (F : Nat) (m : FileM) (Y : List Nat) (m' : FileM) : Prop where
  at_ : ∀ g ∈ m'.foot F, g ∈ m.foot F ∨ g ∈ Y ∨ W.heap.size ≤ g
  tv : Kept m m'
instance {W : World} {F : Nat} {m m' : FileM} {Y : List Nat} : CoeFun (LaterY W F m Y m') (fun _ => ∀ g ∈ m'.foot F, g ∈ m.foot F ∨ g ∈ Y ∨ W.heap.size ≤ g) := ⟨LaterY.at_⟩
theorem Outs.refl (W : World) (P F : Nat) (m : FileM) : Outs W W P F m := ⟨rfl, rfl, rfl, Nat.le_refl _, fun _ _ _ _ => rfl⟩
theorem Later.refl (W : World) (F : Nat) (m : FileM) : Later W F m m := ⟨fun g hg => .inl hg, Kept.refl m⟩
theorem Outs.trans {a b c : World} {P F : Nat} {m m' : FileM} (h : Outs a b P F m) (hl : Later a F m m') (k : Outs b c P F m') : Outs a c P F m :=
  ⟨k.os.trans h.os, k.tape.trans h.tape, k.output.trans h.output, Nat.le_trans h.size k.size, fun i hi h1 h2 => (k.block i (Nat.lt_of_lt_of_le hi h.size) h1 (fun e => by
    rcases hl i e with h3 | h3
    · exact h2 h3
    · omega)).trans (h.block i hi h1 h2)⟩
theorem Later.trans {a b : World} {F : Nat} {m m' m'' : FileM} (hs : a.heap.size ≤ b.heap.size) (h : Later a F m m') (k : Later b F m' m'') : Later a F m m'' := by
  refine ⟨fun g hg => ?_, k.tv.trans h.tv⟩
  rcases k g hg with h1 | h1
  · exact h g h1
  · exact .inr (Nat.le_trans hs h1)
theorem Outs.aside {W W' : World} {P F : Nat} {m : FileM} (h : Aside P W W') : Outs W W' P F m := ⟨h.os, h.tape, h.output, h.size, fun k hk h1 _ => h.block k hk h1⟩
theorem FileOk.aside {W W' : World} {P F lo : Nat} {m : FileM} {f : Fi} (h : FileOk W F lo m f) (ha : Aside P W W') (hP : P ∉ m.foot F) : FileOk W' F lo m f := h.keep (fun g hg => ha.block g (h.lt g hg).1 (fun e => hP (by rw [← e]; exact hg)))
theorem PsAt.below {W W' : World} {P F T lo dp : Nat} {s : Ps} {m : FileM} (h : PsAt W P F T lo dp s m) (hb : Below W.heap.size W W') : PsAt W' P F T lo dp s m :=
  ⟨h.tok.below hb, h.ton, h.good, h.file.keep (fun k hk => hb.block k (h.file.lt k hk).1), h.far, h.base.1, Nat.le_trans h.base.2 hb.size⟩
/-- How a reader ends. -/
def PEnd {α : Type} (W : World) (P F T lo dp : Nat) (m : FileM) (val : α → Value) (r : PR α) (e : Ending) (w' : World) : Prop := match r with
  | .ok (a, s') => e = .returned (val a) ∧ ∃ m', PsAt w' P F T lo dp s' m' ∧ Outs W w' P F m ∧ Later W F m m'
  | .error bd => ∃ D, e = .panicked [{ v := .iface 29 (.pointer (some ⟨D, 0, none⟩)), recovered := false }] ∧ W.heap.size ≤ D ∧ Blk w' D #[.int .i64 bd.1, .string ⟨#[]⟩, .int .i64 (bd.2 : Int)] 34 ∧ Outs W w' P F m
theorem Blk.grw {w w' : World} {B : Nat} {cs : Array Value} {t : TypeId} {row : Option Nat} (h : Blk w B cs t) (hg : w.grownBy w' row) (hne : some B ≠ row) : Blk w' B cs t := (hg.block B h.lt hne).trans h
theorem Blk.grwD {w w' : World} {B : Nat} {cs : Array Value} {t : TypeId} {row : Option Nat} (h : Blk w B cs t) (hg : w.drew.grownBy w' row) (hne : some B ≠ row) : Blk w' B cs t := Blk.grw (w := w.drew) h hg hne
theorem infoE0 : (Tryz.prog.info? 38).map (fun i => (i.zero.map (·.cells.size), i.size, i.bytes)) = some (some 5, 5, 80) := by kernel_rfl
theorem infoE : ∃ (i : TypeInfo) (z : Value), Tryz.prog.info? 38 = some i ∧ i.zero = some z ∧ z.cells.size = 5 ∧ i.size = 5 ∧ i.bytes = 80 := by
  have h := infoE0
  cases hi : Tryz.prog.info? 38 with
  | none => rw [hi] at h; cases h
  | some i =>
    rw [hi] at h
    simp only [Option.map_some, Option.some.injEq, Prod.mk.injEq] at h
    obtain ⟨h1, h2, h3⟩ := h
    cases hz : i.zero with
    | none => rw [hz] at h1; cases h1
    | some z => rw [hz] at h1; exact ⟨i, z, rfl, hz, by simpa using h1, h2, h3⟩
theorem slice_of {w : World} {B e size n : Nat} {v : Value} {xs : List Value} (h : w.ownsRow B e size v n xs) : ∃ ad cap, v = .slice ad n cap := by
  obtain ⟨-, ⟨e, h0⟩ | ⟨g, cap, cur, e, -⟩⟩ := h
  · exact ⟨none, 0, by rw [e, h0]⟩
  · exact ⟨_, cap, e⟩
set_option maxRecDepth 100000 in
set_option maxHeartbeats 8000000 in
theorem add_any {W : World} {P F T lo dp : Nat} {s : Ps} {m : FileM} (h : PsAt W P F T lo dp s m) {x : ExM} (hx : x.Ok lo W) (hxf : ∀ g ∈ x.foot, g ∉ m.foot F ∧ g ≠ P ∧ g ≠ T) (hxn : x.foot.Nodup) (hroom : s.f.exprs.length ≤ 1000000000) :
    Calls Tryz.prog 105 #[.pointer (some ⟨P, 0, none⟩), .agg #[.int .i64 x.e.k, .string x.e.x, x.av, x.kv, .int .i64 (x.e.at_ : Int)]] W (fun e w' => e = .returned (.int .i64 (s.f.exprs.length : Int)) ∧ ∃ m', PsAt w' P F T lo dp { s with f := { s.f with exprs := s.f.exprs ++ [x.e] } } m' ∧ Outs W w' P F m ∧ LaterY W F m x.foot m') := by
  obtain ⟨iE, zE, hiE, hzE, hzE5, hsE, hbE⟩ := infoE
  obtain ⟨aa, ac, haa⟩ := slice_of hx.args
  obtain ⟨ka, kc, hka⟩ := slice_of hx.keys
  have hcel : x.cells = [.int .i64 x.e.k, .string x.e.x, .slice aa x.e.args.length ac, .slice ka x.e.keys.length kc, .int .i64 (x.e.at_ : Int)] := by unfold ExM.cells; rw [haa, hka]
  rw [haa, hka]
  obtain ⟨W1, hW1⟩ : ∃ W1, W.alloc (.cells #[.int .i64 x.e.k, .string x.e.x, .slice aa x.e.args.length ac, .slice ka x.e.keys.length kc, .int .i64 (x.e.at_ : Int)] 38) = W1 := ⟨_, rfl⟩
  have hb1 : Below W.heap.size W W1 := by rw [← hW1]; exact below_new _ _
  have hk1 : Blk W1 W.heap.size #[.int .i64 x.e.k, .string x.e.x, .slice aa x.e.args.length ac, .slice ka x.e.keys.length kc, .int .i64 (x.e.at_ : Int)] 38 := by rw [← hW1]; exact Blk.new _ _ _
  have hs1 : W1.heap.size = W.heap.size + 1 := by rw [← hW1]; simp
  have h1 := h.below hb1
  have hx1 : x.Ok lo W1 := hx.keep (fun g hg => hb1.block g (hx.lt g hg).2)
  obtain ⟨ea, ec, hea⟩ := slice_of h1.file.exprs
  obtain ⟨n, hn⟩ : ∃ n, m.ms.length = n := ⟨_, rfl⟩
  have hrow := h1.file.exprs.alloc (.cells #[.int .i64 x.e.k, .string x.e.x, .slice aa x.e.args.length ac, .slice ka x.e.keys.length kc, .int .i64 (x.e.at_ : Int)] 38)
  have hblk := World.alloc_heap_new W1 (.cells #[.int .i64 x.e.k, .string x.e.x, .slice aa x.e.args.length ac, .slice ka x.e.keys.length kc, .int .i64 (x.e.at_ : Int)] 38)
  rw [hs1] at hblk
  have hnr : n ≤ 1000000000 := by rw [← hn, ← List.length_map (f := ExM.e), h.file.es]; exact hroom
  have hlo := h1.base.2
  have hbx0 := h1.file.box
  have hFne : some F ≠ m.ev.ownBlock := fun e => by
    have hh := h1.file.nodup
    unfold FileM.foot at hh
    exact (List.nodup_append.1 hh).2.2 F (mem_ownB.2 e.symm) F List.mem_cons_self rfl
  have hFne2 := hFne
  rw [hea, hn] at hFne2
  have HF := Lib.hid hFne2
  have HBX := Lib.hid hbx0
  have HALL := Lib.hid (And.intro h (And.intro h1 (And.intro hx1 (And.intro hxf (And.intro hxn hcel)))))
  have HW1 := Lib.hid (And.intro hb1 (And.intro hk1 hs1))
  obtain ⟨hgP, tv, hpb, hto⟩ := h1.tok
  have p3 := hpb.cell 3
  have p3a := (hpb.alloc (.cells #[.int .i64 x.e.k, .string x.e.x, .slice aa x.e.args.length ac, .slice ka x.e.keys.length kc, .int .i64 (x.e.at_ : Int)] 38)).cell 3
  have HPB := Lib.hid hpb
  have bx0a := (hbx0.alloc (.cells #[.int .i64 x.e.k, .string x.e.x, .slice aa x.e.args.length ac, .slice ka x.e.keys.length kc, .int .i64 (x.e.at_ : Int)] 38)).cell 0
  have hPne : some P ≠ (Value.slice ea n ec).ownBlock := fun e => by
    rw [← hn, ← hea] at e
    exact h1.far (mem_foot.2 (.inl e.symm))
  have HPN := Lib.hid hPne
  have bx0 := hbx0.cell 0
  have bf0 := (hbx0.alloc (.cells #[.int .i64 x.e.k, .string x.e.x, .slice aa x.e.args.length ac, .slice ka x.e.keys.length kc, .int .i64 (x.e.at_ : Int)] 38)).frozen 0
  have v0 := hk1.cell 0
  have v1 := hk1.cell 1
  have v2 := hk1.cell 2
  have v3 := hk1.cell 3
  have v4 := hk1.cell 4
  rw [hea, hn] at bx0 bx0a hrow
  have HEA := Lib.hid (And.intro hea hn)
  clear h h1 hx hx1 hxf hxn hroom hb1 hcel hbx0 hpb hto hk1 hFne hFne2 hPne haa hka hea hn
  go_enter Tryz.func105, Tryz.ntmps105
  go_wp2_with fail
  refine have AFTER : (∀ (w3 : World) (g2 cap2 : Nat), (w3.ownsRow lo 38 5 (.slice (some ⟨g2, 0, none⟩) (n + 1) cap2) (n + 1) (m.ms.flatMap ExM.cells ++ [.int .i64 x.e.k, .string x.e.x, .slice aa x.e.args.length ac, .slice ka x.e.keys.length kc, .int .i64 (x.e.at_ : Int)])) ∧ (W1.alloc (.cells #[.int .i64 x.e.k, .string x.e.x, .slice aa x.e.args.length ac, .slice ka x.e.keys.length kc, .int .i64 (x.e.at_ : Int)] 38)).drew.grownBy w3 (Value.slice ea n ec).ownBlock ∧ ((Value.slice ea n ec).ownBlock = some g2 ∨ g2 = (W1.alloc (.cells #[.int .i64 x.e.k, .string x.e.x, .slice aa x.e.args.length ac, .slice ka x.e.keys.length kc, .int .i64 (x.e.at_ : Int)] 38)).heap.size) ∧ g2 < w3.heap.size → (?G : World → Nat → Nat → Prop) w3 g2 cap2) := ?later; ?main
  case main =>
    go_region_law (refine step_append_lies _ rfl (.tmp 15) (.tmp 17) 24 rfl lo 38 iE zE 5 80 Tryz.underlying24 hiE hzE hsE hbE hzE5 (by decide) _ _ _ rfl hrow ⟨W.heap.size + 1, 0, none⟩ 1 1 [.int .i64 x.e.k, .string x.e.x, .slice aa x.e.args.length ac, .slice ka x.e.keys.length kc, .int .i64 (x.e.at_ : Int)] rfl rfl (World.news_of_block hblk) (by intro u hu; simp at hu; rcases hu with rfl | rfl | rfl | rfl | rfl <;> rfl) (by decide) (by unfold maxLen; omega) (by omega) (by simp; omega) _ rfl ?_; intro g2 cap2 w3 hown hgrow hat hlt; have hbx3 := (HBX.out.alloc (.cells #[.int .i64 x.e.k, .string x.e.x, .slice aa x.e.args.length ac, .slice ka x.e.keys.length kc, .int .i64 (x.e.at_ : Int)] 38)).grwD hgrow HF.out; have c30 := hbx3.cell 0; have f30 := hbx3.frozen 0; have p30 := ((HPB.out.alloc (.cells #[.int .i64 x.e.k, .string x.e.x, .slice aa x.e.args.length ac, .slice ka x.e.keys.length kc, .int .i64 (x.e.at_ : Int)] 38)).grwD hgrow HPN.out).cell 3)
    all_goals exact AFTER w3 g2 cap2 ⟨hown, hgrow, hat, hlt⟩
  case later =>
    intro w3 g2 cap2 ⟨hown, hgrow, hat, hlt⟩
    obtain ⟨h, h1, hx1, hxf, hxn, hcel⟩ := HALL.out
    have hg' : (W1.alloc (.cells #[.int .i64 x.e.k, .string x.e.x, .slice aa x.e.args.length ac, .slice ka x.e.keys.length kc, .int .i64 (x.e.at_ : Int)] 38)).grownBy w3 m.ev.ownBlock := by
      rw [HEA.out.1, HEA.out.2]
      exact ⟨hgrow.os, hgrow.tape, hgrow.output, hgrow.size, hgrow.block⟩
    have hat' : m.ev.ownBlock = some g2 ∨ g2 = (W1.alloc (.cells #[.int .i64 x.e.k, .string x.e.x, .slice aa x.e.args.length ac, .slice ka x.e.keys.length kc, .int .i64 (x.e.at_ : Int)] 38)).heap.size := by
      rw [HEA.out.1, HEA.out.2]
      exact hat
    have hown' : w3.ownsRow lo 38 5 (.slice (some ⟨g2, 0, none⟩) (m.ms.length + 1) cap2) (m.ms.length + 1) (m.ms.flatMap ExM.cells ++ x.cells) := by
      rw [HEA.out.2, hcel]
      exact hown
    have hadd := FileOk.addE h1.file h.base.1 h1.base.2 hx1 (fun g hg => (hxf g hg).1) hxn hown' hg' hat'
    rw [HEA.out.2] at hadd
    obtain ⟨wF, hwF⟩ : ∃ wF, w3.setCell ⟨F, 0, none⟩ (.slice (some ⟨g2, 0, none⟩) (n + 1) cap2) = wF := ⟨_, rfl⟩
    rw [hwF] at hadd ⊢
    obtain ⟨hf4, hft4, hst4⟩ := hadd
    have hsz4 : W1.heap.size ≤ wF.heap.size := by
      rw [← hwF]
      have := hg'.size
      simp at this ⊢
      omega
    have hrk := h1.tok.ranks
    have hp4 : ParAt wF P F T dp s.over s.toks := h1.tok.same hsz4 (hst4 P hrk.1 h1.far) (hst4 T hrk.2.1 h1.ton)
    have hP4 : Blk wF P #[tv, .bool s.over, .int .i64 (dp : Int), .pointer (some ⟨F, 0, none⟩)] 64 := (hst4 P hrk.1 h1.far).trans HPB.out
    have hb4 := hf4.box
    have q3 := hP4.cell 3
    have q0 := hb4.cell 0
    have HEND := Lib.hid (And.intro hf4 (And.intro hft4 (And.intro hst4 (And.intro hp4 hsz4))))
    have HOS : Hid (wF.os = W.os ∧ wF.tape = W.tape ∧ wF.output = W.output) := Lib.hid (by
      rw [← hwF]
      exact ⟨hgrow.os.trans HW1.out.1.os, hgrow.tape.trans HW1.out.1.tape, hgrow.output.trans HW1.out.1.output⟩)
    have e1 : ((n : Int) + 1) - 1 = (n : Int) := by omega
    have HLN : Hid ((s.f.exprs.length : Int) = (n : Int)) := Lib.hid (by rw [← HEA.out.2, ← List.length_map (f := ExM.e), h.file.es])
    clear hf4 hft4 hst4 hp4 hP4 hb4 hwF hg' hat' hown' hown hgrow hat hlt h h1 hx1 hxf hxn hcel p3 p3a bx0 bx0a bf0 v0 v1 v2 v3 v4 hrow hblk hW1
    go_wp2_with fail
    go_ret
    obtain ⟨hf4, hft4, hst4, hp4, hsz4⟩ := HEND.out
    obtain ⟨h, h1, hx1, hxf, hxn, hcel⟩ := HALL.out
    have hs := HW1.out.2.2
    refine ⟨by rw [HLN.out]; rfl, _, ⟨hp4, fun hT => ?_, h.good, hf4, fun hP => ?_, h.base.1, Nat.le_trans h1.base.2 hsz4⟩, ⟨HOS.out.1, HOS.out.2.1, HOS.out.2.2, by omega, fun k hk hkP hkf => (hst4 k (by omega) hkf).trans (HW1.out.1.block k hk)⟩, ⟨fun g hg => ?_, fun h => ⟨rfl, h⟩⟩⟩
    · rcases hft4 T hT with h2 | h2 | h2
      · exact h.ton h2
      · exact (hxf T h2).2.2 rfl
      · have := h.tok.ranks; omega
    · rcases hft4 P hP with h2 | h2 | h2
      · exact h.far h2
      · exact (hxf P h2).2.1 rfl
      · have := h.tok.ranks; omega
    · rcases hft4 g hg with h2 | h2 | h2
      · exact .inl h2
      · exact .inr (.inl h2)
      · exact .inr (.inr (by omega))
end Go.Proofs.YtljgggohjigaoaaGreatDoor
