/- An expression under way that grows; what is read one level deeper · Arguments, one by one · What stands in an index · What the readers share: a new expression of new arguments, one level deeper -/
import Derived.Deep.RegionWith
import Derived.Deep.RegionHeld
import Derived.Test.YtljgggohjigaoaaGreatDoorSy19
namespace Go.Proofs.YtljgggohjigaoaaGreatDoor
open Go.RowKit Go.Shelf
set_option linter.unusedVariables false

theorem grown_lc {w w3 : World} {o : Obj} {row : Option Nat} {Y : List Nat} (hg : (w.alloc o).grownBy w3 row) (hY : ∀ g, row = some g → g ∈ Y) : Lc w w3 Y :=
  ⟨hg.os, hg.tape, hg.output, by have := hg.size; simp at this; omega, fun k hk hn => (hg.block k (by simp; omega) (fun e => hn (hY k e.symm))).trans (Below.heap_alloc w o k hk)⟩
section
variable {w : World} {P F T lo dp N E : Nat} {m1 : FileM} {s : Ps} {x : ExM}
/-- An argument more. -/
theorem UnE.push (h : UnE w P F T lo N m1 E x) (hp : PsAt w P F T lo dp s m1) (hN : N ≤ w.heap.size) {o : Obj} {w3 : World} {g2 cap2 n i : Nat} (hn : x.e.args.length = n)
    (hown : w3.ownsRow lo 3 1 (.slice (some ⟨g2, 0, none⟩) (n + 1) cap2) (n + 1) (intsV x.e.args ++ [.int .i64 (i : Int)])) (hg : (w.alloc o).grownBy w3 x.av.ownBlock) (hat : x.av.ownBlock = some g2 ∨ g2 = (w.alloc o).heap.size) :
    UnE (w3.setCell ⟨E, 2, none⟩ (.slice (some ⟨g2, 0, none⟩) (n + 1) cap2)) P F T lo N m1 E ⟨{ x.e with args := x.e.args ++ [i] }, .slice (some ⟨g2, 0, none⟩) (n + 1) cap2, x.kv⟩ ∧ Lc w (w3.setCell ⟨E, 2, none⟩ (.slice (some ⟨g2, 0, none⟩) (n + 1) cap2)) (E :: ownB x.av) := by
  have hsz : (w.alloc o).heap.size = w.heap.size + 1 := by simp
  have hl3 : Lc w w3 (ownB x.av) := grown_lc hg (fun g e => mem_ownB.2 e)
  have hEa : E ∉ ownB x.av := fun e => (h.foot E (List.mem_append.2 (.inl e))).2.2.2.1 rfl
  have hg2 : g2 ∉ m1.foot F ∧ g2 ≠ P ∧ g2 ≠ T ∧ g2 ≠ E ∧ N ≤ g2 ∧ g2 ∉ ownB x.kv := by
    rcases hat with h1 | h1
    · have h2 := mem_ownB.2 h1
      have h3 := h.foot g2 (List.mem_append.2 (.inl h2))
      refine ⟨h3.1, h3.2.1, h3.2.2.1, h3.2.2.2.1, h3.2.2.2.2, fun h4 => ?_⟩
      have h5 := h.nodup
      unfold ExM.foot at h5
      exact (List.nodup_append.1 h5).2.2 g2 h2 g2 h4 rfl
    · have hrk := hp.tok.ranks
      have hE := h.loc.blk.lt
      refine ⟨fun h4 => by have := (hp.file.lt _ h4).1; omega, by omega, by omega, by omega, by omega, fun h4 => ?_⟩
      have := (h.ok.lt g2 (List.mem_append.2 (.inr h4))).2
      omega
  have hloc := (h.loc.lc hl3 hEa).put 2 (.slice (some ⟨g2, 0, none⟩) (n + 1) cap2)
  have hil : (x.e.args ++ [i]).length = n + 1 := by simp [hn]
  refine ⟨⟨by simpa using hloc, ⟨?_, ?_⟩, fun g hgm => ?_, ?_⟩, (hl3.mono (fun k hk => List.mem_cons_of_mem _ hk)).trans (Lc.set _ _ _ _ List.mem_cons_self)⟩
  · show World.ownsRow _ lo 3 1 _ (x.e.args ++ [i]).length (intsV (x.e.args ++ [i]))
    rw [hil]
    have hin : intsV (x.e.args ++ [i]) = intsV x.e.args ++ [.int .i64 (i : Int)] := by simp [intsV]
    rw [hin]
    exact row_same hown (fun g e => by
      obtain rfl : g2 = g := Option.some.inj e
      exact Below.heap_setCell _ _ _ _ (by exact hg2.2.2.2.1))
  · refine row_same h.ok.keys (fun g e => ?_)
    have h2 := mem_ownB.2 e
    rw [Below.heap_setCell _ _ _ _ (by exact (h.foot g (List.mem_append.2 (.inr h2))).2.2.2.1)]
    refine hl3.block g (row_lt h.ok.keys e).2 (fun h3 => ?_)
    have h5 := h.nodup
    unfold ExM.foot at h5
    exact (List.nodup_append.1 h5).2.2 g h3 g h2 rfl
  · rcases List.mem_append.1 hgm with h1 | h1
    · obtain rfl : g2 = g := Option.some.inj (mem_ownB.1 h1)
      exact ⟨hg2.1, hg2.2.1, hg2.2.2.1, hg2.2.2.2.1, hg2.2.2.2.2.1⟩
    · exact h.foot g (List.mem_append.2 (.inr h1))
  · show (ownB (.slice (some ⟨g2, 0, none⟩) (n + 1) cap2) ++ ownB x.kv).Nodup
    have ho : ownB (.slice (some ⟨g2, 0, none⟩) (n + 1) cap2) = [g2] := rfl
    rw [ho]
    simp only [List.cons_append, List.nil_append, List.nodup_cons]
    exact ⟨hg2.2.2.2.2.2, ownB_nodup _⟩
/-- A key more. -/
theorem UnE.pushKey (h : UnE w P F T lo N m1 E x) (hp : PsAt w P F T lo dp s m1) (hN : N ≤ w.heap.size) {o : Obj} {w3 : World} {g2 cap2 n : Nat} {t : ByteArray} (hn : x.e.keys.length = n)
    (hown : w3.ownsRow lo 9 1 (.slice (some ⟨g2, 0, none⟩) (n + 1) cap2) (n + 1) (x.e.keys.map Value.string ++ [.string t])) (hg : (w.alloc o).grownBy w3 x.kv.ownBlock) (hat : x.kv.ownBlock = some g2 ∨ g2 = (w.alloc o).heap.size) :
    UnE (w3.setCell ⟨E, 3, none⟩ (.slice (some ⟨g2, 0, none⟩) (n + 1) cap2)) P F T lo N m1 E ⟨{ x.e with keys := x.e.keys ++ [t] }, x.av, .slice (some ⟨g2, 0, none⟩) (n + 1) cap2⟩ ∧ Lc w (w3.setCell ⟨E, 3, none⟩ (.slice (some ⟨g2, 0, none⟩) (n + 1) cap2)) (E :: ownB x.kv) := by
  have hsz : (w.alloc o).heap.size = w.heap.size + 1 := by simp
  have hl3 : Lc w w3 (ownB x.kv) := grown_lc hg (fun g e => mem_ownB.2 e)
  have hEa : E ∉ ownB x.kv := fun e => (h.foot E (List.mem_append.2 (.inr e))).2.2.2.1 rfl
  have hg2 : g2 ∉ m1.foot F ∧ g2 ≠ P ∧ g2 ≠ T ∧ g2 ≠ E ∧ N ≤ g2 ∧ g2 ∉ ownB x.av := by
    rcases hat with h1 | h1
    · have h2 := mem_ownB.2 h1
      have h3 := h.foot g2 (List.mem_append.2 (.inr h2))
      refine ⟨h3.1, h3.2.1, h3.2.2.1, h3.2.2.2.1, h3.2.2.2.2, fun h4 => ?_⟩
      have h5 := h.nodup
      unfold ExM.foot at h5
      exact (List.nodup_append.1 h5).2.2 g2 h4 g2 h2 rfl
    · have hrk := hp.tok.ranks
      have hE := h.loc.blk.lt
      refine ⟨fun h4 => by have := (hp.file.lt _ h4).1; omega, by omega, by omega, by omega, by omega, fun h4 => ?_⟩
      have := (h.ok.lt g2 (List.mem_append.2 (.inl h4))).2
      omega
  have hloc := (h.loc.lc hl3 hEa).put 3 (.slice (some ⟨g2, 0, none⟩) (n + 1) cap2)
  have hil : (x.e.keys ++ [t]).length = n + 1 := by simp [hn]
  refine ⟨⟨by simpa using hloc, ⟨?_, ?_⟩, fun g hgm => ?_, ?_⟩, (hl3.mono (fun k hk => List.mem_cons_of_mem _ hk)).trans (Lc.set _ _ _ _ List.mem_cons_self)⟩
  · refine row_same h.ok.args (fun g e => ?_)
    have h2 := mem_ownB.2 e
    rw [Below.heap_setCell _ _ _ _ (by exact (h.foot g (List.mem_append.2 (.inl h2))).2.2.2.1)]
    refine hl3.block g (row_lt h.ok.args e).2 (fun h3 => ?_)
    have h5 := h.nodup
    unfold ExM.foot at h5
    exact (List.nodup_append.1 h5).2.2 g h2 g h3 rfl
  · show World.ownsRow _ lo 9 1 _ (x.e.keys ++ [t]).length ((x.e.keys ++ [t]).map Value.string)
    rw [hil]
    have hin : (x.e.keys ++ [t]).map Value.string = x.e.keys.map Value.string ++ [.string t] := by simp
    rw [hin]
    exact row_same hown (fun g e => by
      obtain rfl : g2 = g := Option.some.inj e
      exact Below.heap_setCell _ _ _ _ (by exact hg2.2.2.2.1))
  · rcases List.mem_append.1 hgm with h1 | h1
    · exact h.foot g (List.mem_append.2 (.inl h1))
    · obtain rfl : g2 = g := Option.some.inj (mem_ownB.1 h1)
      exact ⟨hg2.1, hg2.2.1, hg2.2.2.1, hg2.2.2.2.1, hg2.2.2.2.2.1⟩
  · show (ownB x.av ++ ownB (.slice (some ⟨g2, 0, none⟩) (n + 1) cap2)).Nodup
    have ho : ownB (.slice (some ⟨g2, 0, none⟩) (n + 1) cap2) = [g2] := rfl
    rw [ho, List.nodup_append]
    exact ⟨ownB_nodup _, by simp, fun a ha b hb e => by rw [List.mem_singleton] at hb; subst hb; subst e; exact hg2.2.2.2.2.2 ha⟩
end
/-- A walk with an expression under way. -/
structure UnS (W w : World) (P F T lo dp d : Nat) (m : FileM) (X : List Nat) (s : Ps) (m1 : FileM) (N E : Nat) (x : ExM) : Prop where
  un : Un W w P F T lo dp d m X s m1
  ue : UnE w P F T lo N m1 E x
  mine : ∀ k, k = E ∨ k ∈ x.foot → 4 ≤ k ∧ (k ∈ X ∨ W.heap.size ≤ k)
  le : N ≤ W.heap.size
section
variable {W w w' : World} {P F T lo dp d N E : Nat} {m m1 m2 : FileM} {X : List Nat} {s s2 : Ps} {x : ExM}
theorem UnS.step (h : UnS W w P F T lo dp d m X s m1 N E x) (k : Stepped W w w' P F T lo dp d m X m1 s2 m2) : UnS W w' P F T lo dp d m X s2 m2 N E x := ⟨k.un, h.ue.step k.outs k.later, h.mine, h.le⟩
theorem UnS.free (h : UnS W w P F T lo dp d m X s m1 N E x) {k : Nat} (hk : k = E ∨ k ∈ x.foot) : Free W P F T X m1 k := by
  rcases hk with rfl | hk
  · exact ⟨h.ue.loc.neP, h.ue.loc.neT, h.ue.loc.out, h.mine _ (.inl rfl)⟩
  · have h1 := h.ue.foot k hk
    exact ⟨h1.2.1, h1.2.2.1, h1.1, h.mine _ (.inr hk)⟩
theorem UnS.alloc (h : UnS W w P F T lo dp d m X s m1 N E x) (o : Obj) : UnS W (w.alloc o) P F T lo dp d m X s m1 N E x := ⟨h.un.alloc o, h.ue.lc (Lc.alloc w o []) (by simp) (by simp), h.mine, h.le⟩
theorem UnS.below (h : UnS W w P F T lo dp d m X s m1 N E x) (hb : Below w.heap.size w w') : UnS W w' P F T lo dp d m X s m1 N E x := ⟨h.un.below hb, h.ue.lc (Lc.of hb []) (by simp) (by simp), h.mine, h.le⟩
theorem UnS.setK (h : UnS W w P F T lo dp d m X s m1 N E x) (k : Int) : UnS W (w.setCell ⟨E, 0, none⟩ (.int .i64 k)) P F T lo dp d m X s m1 N E { x with e := { x.e with k := k } } := ⟨h.un.set (h.free (.inl rfl)) _ _, h.ue.setK k, h.mine, h.le⟩
theorem UnS.setX (h : UnS W w P F T lo dp d m X s m1 N E x) (t : ByteArray) : UnS W (w.setCell ⟨E, 1, none⟩ (.string t)) P F T lo dp d m X s m1 N E { x with e := { x.e with x := t } } := ⟨h.un.set (h.free (.inl rfl)) _ _, h.ue.setX t, h.mine, h.le⟩
theorem UnS.setAt (h : UnS W w P F T lo dp d m X s m1 N E x) (a : Nat) : UnS W (w.setCell ⟨E, 4, none⟩ (.int .i64 (a : Int))) P F T lo dp d m X s m1 N E { x with e := { x.e with at_ := a } } := ⟨h.un.set (h.free (.inl rfl)) _ _, h.ue.setAt a, h.mine, h.le⟩
theorem UnS.setArgs (h : UnS W w P F T lo dp d m X s m1 N E x) (hk : x.kv = .slice none 0 0) {l : List Nat} {av : Value} (hr : OwnL w P F T lo W.heap.size m1 3 1 av l.length (intsV l)) (hE : av.ownBlock ≠ some E) : UnS W (w.setCell ⟨E, 2, none⟩ av) P F T lo dp d m X s m1 N E ⟨{ x.e with args := l }, av, x.kv⟩ :=
  ⟨h.un.set (h.free (.inl rfl)) _ _, h.ue.setArgs hk ⟨hr.row, fun g hg => ⟨(hr.out g hg).1, (hr.out g hg).2.1, (hr.out g hg).2.2.1, Nat.le_trans h.le (hr.out g hg).2.2.2⟩⟩ hE, fun k hk2 => by
    rcases hk2 with rfl | hk2
    · exact h.mine _ (.inl rfl)
    · rcases List.mem_append.1 hk2 with h1 | h1
      · have h2 := (hr.out k (mem_ownB.1 h1)).2.2.2
        have h3 := h.un.env.far
        have h4 := h.un.ps.base
        have h5 := row_lt hr.row (mem_ownB.1 h1)
        exact ⟨by omega, .inr h2⟩
      · exact h.mine _ (.inr (List.mem_append.2 (.inr h1))), h.le⟩
theorem UnS.push (h : UnS W w P F T lo dp d m X s m1 N E x) {o : Obj} {w3 : World} {g2 cap2 n i : Nat} (hn : x.e.args.length = n)
    (hown : w3.ownsRow lo 3 1 (.slice (some ⟨g2, 0, none⟩) (n + 1) cap2) (n + 1) (intsV x.e.args ++ [.int .i64 (i : Int)])) (hg : (w.alloc o).grownBy w3 x.av.ownBlock) (hat : x.av.ownBlock = some g2 ∨ g2 = (w.alloc o).heap.size) :
    UnS W (w3.setCell ⟨E, 2, none⟩ (.slice (some ⟨g2, 0, none⟩) (n + 1) cap2)) P F T lo dp d m X s m1 N E ⟨{ x.e with args := x.e.args ++ [i] }, .slice (some ⟨g2, 0, none⟩) (n + 1) cap2, x.kv⟩ ∧ Lc w (w3.setCell ⟨E, 2, none⟩ (.slice (some ⟨g2, 0, none⟩) (n + 1) cap2)) (E :: ownB x.av) := by
  have hp := h.ue.push h.un.ps (Nat.le_trans h.le h.un.outs.size) hn hown hg hat
  have hs := h.un.outs.size
  refine ⟨⟨h.un.lc hp.2 (fun k hk => ?_), hp.1, fun k hk => ?_, h.le⟩, hp.2⟩
  · rcases List.mem_cons.1 hk with rfl | hk
    · exact h.free (.inl rfl)
    · exact h.free (.inr (List.mem_append.2 (.inl hk)))
  · rcases hk with rfl | hk
    · exact h.mine _ (.inl rfl)
    · rcases List.mem_append.1 hk with h1 | h1
      · obtain rfl : g2 = k := Option.some.inj (mem_ownB.1 h1)
        rcases hat with h2 | h2
        · exact h.mine _ (.inr (List.mem_append.2 (.inl (mem_ownB.2 h2))))
        · have h4 := h.un.env.ready.1
          simp at h2
          exact ⟨by omega, .inr (by omega)⟩
      · exact h.mine _ (.inr (List.mem_append.2 (.inr h1)))
theorem UnS.pushKey (h : UnS W w P F T lo dp d m X s m1 N E x) {o : Obj} {w3 : World} {g2 cap2 n : Nat} {t : ByteArray} (hn : x.e.keys.length = n)
    (hown : w3.ownsRow lo 9 1 (.slice (some ⟨g2, 0, none⟩) (n + 1) cap2) (n + 1) (x.e.keys.map Value.string ++ [.string t])) (hg : (w.alloc o).grownBy w3 x.kv.ownBlock) (hat : x.kv.ownBlock = some g2 ∨ g2 = (w.alloc o).heap.size) :
    UnS W (w3.setCell ⟨E, 3, none⟩ (.slice (some ⟨g2, 0, none⟩) (n + 1) cap2)) P F T lo dp d m X s m1 N E ⟨{ x.e with keys := x.e.keys ++ [t] }, x.av, .slice (some ⟨g2, 0, none⟩) (n + 1) cap2⟩ ∧ Lc w (w3.setCell ⟨E, 3, none⟩ (.slice (some ⟨g2, 0, none⟩) (n + 1) cap2)) (E :: ownB x.kv) := by
  have hp := h.ue.pushKey h.un.ps (Nat.le_trans h.le h.un.outs.size) hn hown hg hat
  have hs := h.un.outs.size
  refine ⟨⟨h.un.lc hp.2 (fun k hk => ?_), hp.1, fun k hk => ?_, h.le⟩, hp.2⟩
  · rcases List.mem_cons.1 hk with rfl | hk
    · exact h.free (.inl rfl)
    · exact h.free (.inr (List.mem_append.2 (.inr hk)))
  · rcases hk with rfl | hk
    · exact h.mine _ (.inl rfl)
    · rcases List.mem_append.1 hk with h1 | h1
      · exact h.mine _ (.inr (List.mem_append.2 (.inl h1)))
      · obtain rfl : g2 = k := Option.some.inj (mem_ownB.1 h1)
        rcases hat with h2 | h2
        · exact h.mine _ (.inr (List.mem_append.2 (.inr (mem_ownB.2 h2))))
        · have h4 := h.un.env.ready.1
          simp at h2
          exact ⟨by omega, .inr (by omega)⟩
/-- A closure's ending. -/
theorem UnS.k {α : Type} {ex : α → Ex} {a : α} {val : α → Value} (h : UnS W w P F T lo dp d m X s m1 N E x) (he : x.e = ex a) : KEnd W P F T lo dp m X (StE P F T lo N E ex) (.ok (a, s)) val (.returned (val a)) w := h.un.k ⟨x, he, h.ue⟩
end
/-- What is read where d levels are left: one level deeper. -/
structure Subs (F lo dp d : Nat) (nx : Sub) : Prop where
  left : Left24 dp nx
  ok : SubOk d nx
  sub : ∀ p, nx = some p → ∃ d', d = d' + 1 ∧ Dec d' 0 p.1 ∧ Dec d' 0 p.2 ∧ (∀ P T, Rds P F T lo (dp + 1) d' 75 #[.pointer (some ⟨P, 0, none⟩)] p.1) ∧ ∀ P T, Rds P F T lo (dp + 1) d' 119 #[.pointer (some ⟨P, 0, none⟩)] p.2
/-- How args ends. -/
def ArgsEnd (W : World) (P F T lo dp d : Nat) (m : FileM) (r : PR (List Nat)) (e : Ending) (w' : World) : Prop := match r with
  | .ok (l, s2) => ∃ av m2, e = .returned av ∧ Un W w' P F T lo dp d m [] s2 m2 ∧ OwnL w' P F T lo W.heap.size m2 3 1 av l.length (intsV l)
  | .error bd => Bad W P F m [] bd e w'
theorem infoInt0 : (Tryz.prog.info? 3).map (fun i => (i.zero, i.size, i.bytes)) = some (some (.int .i64 0), 1, 8) := by kernel_rfl
theorem infoStr0 : (Tryz.prog.info? 9).map (fun i => (i.zero, i.size, i.bytes)) = some (some (.string ⟨#[]⟩), 1, 16) := by kernel_rfl
theorem info_of {t : TypeId} {z : Value} {a b : Nat} (h : (Tryz.prog.info? t).map (fun i => (i.zero, i.size, i.bytes)) = some (some z, a, b)) : ∃ i : TypeInfo, Tryz.prog.info? t = some i ∧ i.zero = some z ∧ i.size = a ∧ i.bytes = b := by
  cases hi : Tryz.prog.info? t with
  | none => rw [hi] at h; cases h
  | some i =>
    rw [hi] at h
    simp only [Option.map_some, Option.some.injEq, Prod.mk.injEq] at h
    exact ⟨i, rfl, h.1, h.2.1, h.2.2⟩
end Go.Proofs.YtljgggohjigaoaaGreatDoor
namespace Go.Proofs.YtljgggohjigaoaaGreatDoor
open Go.RowKit Go.Shelf
set_option linter.unusedVariables false

theorem toks_wts {l : List Tk} (h : ∀ t ∈ l, t.k ≠ 0) : l.length ≤ wts l := by
  induction l with
  | nil => simp
  | cons t l ih =>
    have h1 := wt_pos (h t (by simp))
    have h2 := ih (fun u hu => h u (by simp [hu]))
    unfold wts at h2 ⊢
    simp only [List.map_cons, List.sum_cons, List.length_cons]
    omega
theorem Un.room {W w : World} {P F T lo dp d : Nat} {m m1 : FileM} {X : List Nat} {s : Ps} (h : Un W w P F T lo dp d m X s m1) : s.toks.length ≤ 1000000001 := by
  obtain ⟨l', e, h1, h2, h3, h4⟩ := h.ps.good
  have h5 := toks_wts h4
  have h6 := h.fit.pot
  have h7 : wts s.toks = wts l' + wts [e] := by rw [h1, wts_append]
  unfold Go.Proofs.YtljgggohjigaoaaGreatDoor.pot at h6
  rw [h1]
  simp
  omega
theorem skip_true {w : ByteArray} {s s' : Ps} (h : skipM w s = .ok (true, s')) : s' = takeS s ∧ isW w (next s) = true := by
  unfold skipM at h
  split at h
  · rename_i hi; cases h; exact ⟨rfl, hi⟩
  · cases h
set_option maxRecDepth 100000 in
set_option maxHeartbeats 4000000 in
theorem args_any {W : World} {P F T lo dp d : Nat} {s : Ps} {m : FileM} {ex : PM Nat} (en : ByteArray) (hE : Rds P F T lo dp d 75 #[.pointer (some ⟨P, 0, none⟩)] ex) (hD : Dec d 0 ex) (h : PsAt W P F T lo dp s m) (he : Env W P F) (hf : Fit d s) :
    Calls Tryz.prog 171 #[.pointer (some ⟨P, 0, none⟩), .string en] W (ArgsEnd W P F T lo dp d m (argsM en ex (s.toks.length + 1) [] s)) := by
  obtain ⟨iI, hiI, hzI, hsI, hbI⟩ := info_of infoInt0
  have HEX := Lib.hid (And.intro hE hD)
  have HU0 := Lib.hid (Un.start (X := []) h he hf)
  have hroom := HU0.out.room
  have hbase := h.base.2
  obtain ⟨R, hR⟩ : ∃ R, argsM en ex (s.toks.length + 1) [] s = R := ⟨_, rfl⟩
  have HR := Lib.hid hR
  rw [hR]
  obtain ⟨n0, hn0⟩ : ∃ n0, s.toks.length = n0 := ⟨_, rfl⟩
  rw [hn0] at hroom
  have HN0 := Lib.hid hn0
  clear h he hf hE hD hR hn0
  go_enter Tryz.func171, Tryz.ntmps171
  go_wp2_with fail
  go_loopg [5] (n0 + 1) (fun gf s5 wx => ∃ (l : List Nat) (s' : Ps) (m' : FileM), Hid (Un W wx P F T lo dp d m [] s' m') ∧ Hid (OwnL wx P F T lo W.heap.size m' 3 1 s5 l.length (intsV l)) ∧ Hid (argsM en ex gf l s' = R) ∧ s'.toks.length < gf ∧ l.length + gf ≤ n0 + 1)
  case atStart => exact ⟨[], s, m, HU0, Lib.hid (OwnL.nil _ _ _ _ _ _ _ _ _), by rw [← HN0.out]; exact HR, by rw [HN0.out]; omega, by simp⟩
  case round =>
    obtain ⟨l, s', m', HU, HO, HRL, hlen, hll⟩ := hrel
    obtain ⟨g', rfl⟩ : ∃ g', gk = g' + 1 := ⟨gk - 1, by omega⟩
    obtain ⟨n, hn⟩ : ∃ n, l.length = n := ⟨_, rfl⟩
    have HN := Lib.hid hn
    rw [hn] at hll HO
    obtain ⟨ad, cap, rfl⟩ := slice_of HO.out.row
    clear hn HU0 HR
    obtain ⟨b, hb⟩ : ∃ b, isW en (next s') = b := ⟨_, rfl⟩
    have HIS := HU.out.is en
    rw [hb] at HIS
    have HIS := Lib.hid HIS
    go_wp2_with fail
    go_at_call 102; refine HIS.out.mono ?_
    rintro e w3 ⟨rfl, hs3⟩
    have H3 := Lib.hid hs3
    clear hs3
    cases b with
    | true =>
      have hend : R = .ok (l, peekS s') := by
        rw [← HRL.out]
        unfold argsM
        rw [if_pos hb]
      have HEND := Lib.hid hend
      clear hend hb
      go_wp2_with fail
      go_ret
      rw [HEND.out]
      exact ⟨_, m', rfl, H3.out.un, by rw [HN.out]; exact HO.out.step H3.out.outs H3.out.later⟩
    | false =>
      have HRL2 : Hid (bindP ex (fun i => bindP (skipM (wb [44])) fun c s' => if c then argsM en ex g' (l ++ [i]) s' else .ok (l ++ [i], s')) (peekS s') = R) := Lib.hid (by
        rw [← HRL.out]
        conv => rhs; unfold argsM
        rw [if_neg (by rw [hb]; decide)])
      have hrd := H3.out.un.reads HEX.out.1 HEX.out.2
      cases hm : ex (peekS s') with
      | error bd =>
        rw [hm] at hrd
        have HRD := Lib.hid hrd
        have HRE := Lib.hid (bind_err hm HRL2.out)
        clear hrd hm hb
        go_wp2_with fail
        go_at_call 75; refine HRD.out.mono ?_
        rintro e w4 ⟨D, rfl, hk⟩
        refine ⟨rfl, ?_⟩
        rw [HRE.out]
        exact ⟨D, rfl, hk⟩
      | ok y =>
        obtain ⟨i, s2⟩ := y
        rw [hm] at hrd
        have HRD := Lib.hid hrd
        have HR2 := Lib.hid (bind_ok hm HRL2.out)
        have hl2 : s2.toks.length ≤ s'.toks.length := by
          have h1 := (HEX.out.2 (peekS s') H3.out.un.fit.snd i s2 hm).1.length_le
          have h2 := (peek_sfx s').length_le
          omega
        clear hrd hm hb
        go_wp2_with fail
        go_at_call 75; refine HRD.out.mono ?_
        rintro e w4 ⟨rfl, m2, hs4⟩
        have H4 := Lib.hid hs4
        have HO4 := Lib.hid ((HO.out.step H3.out.outs H3.out.later).step hs4.outs hs4.later)
        have hnv : natV i = .int .i64 (i : Int) := rfl
        rw [hnv]
        have hrow := HO4.out.row.alloc (.cells #[.int .i64 (i : Int)] 3)
        have hblk := World.alloc_heap_new w4 (.cells #[.int .i64 (i : Int)] 3)
        have hlo4 : lo ≤ w4.heap.size := hs4.un.ps.base.2
        clear hs4 hnv
        go_wp2_with (at_builtin; refine wpList_append_lies _ rfl (.tmp 10) (.tmp 13) 26 rfl lo 3 iI (.int .i64 0) 1 8 Tryz.underlying26 hiI hzI hsI hbI rfl (by decide) _ _ _ rfl hrow ⟨w4.heap.size, 0, none⟩ 1 1 [.int .i64 (i : Int)] rfl rfl (World.news_of_block hblk) (by intro u hu; simp at hu; subst hu; rfl) (by decide) (by unfold maxLen; omega) (by omega) (by simp; omega) _ rfl ?_; intro g2 cap2 w5 hown5 hgrow5 hat5 hlt5)
        have hlc := grown_lc (Y := ownB (.slice ad n cap)) hgrow5 (fun g e => mem_ownB.2 e)
        have hun5 := H4.out.un.lc hlc (fun k hk => by
          have h1 := HO4.out.out k (mem_ownB.1 hk)
          have h2 := H4.out.un.env.far
          have h3 := H4.out.un.ps.base
          have h4 := row_lt HO4.out.row (mem_ownB.1 hk)
          exact ⟨h1.2.1, h1.2.2.1, h1.1, by omega, .inr h1.2.2.2⟩)
        have HO5 : Hid (OwnL w5 P F T lo W.heap.size m2 3 1 (.slice (some ⟨g2, 0, none⟩) (n + 1) cap2) (n + 1) (intsV (l ++ [i]))) := Lib.hid ⟨by
            have hin : intsV (l ++ [i]) = intsV l ++ [.int .i64 (i : Int)] := by simp [intsV]
            rw [hin]; exact hown5, fun g hg => by
            obtain rfl : g2 = g := Option.some.inj hg
            rcases hat5 with h1 | h1
            · exact HO4.out.out g2 h1
            · have h2 := H4.out.un.ps.tok.ranks
              have h3 := H4.out.un.outs.size
              simp at h1
              exact ⟨fun hm => by have := (H4.out.un.ps.file.lt _ hm).1; omega, by omega, by omega, by omega⟩⟩
        have HSK := hun5.skip (b := ⟨#[44]⟩) (by decide)
        have HU5 := Lib.hid hun5
        cases hm2 : skipM (⟨#[44]⟩ : ByteArray) s2 with
        | error bd =>
          exfalso
          unfold skipM at hm2
          split at hm2 <;> cases hm2
        | ok y =>
          obtain ⟨c, s3⟩ := y
          rw [hm2] at HSK
          have HSK := Lib.hid HSK
          have HR3 := Lib.hid (bind_ok hm2 HR2.out)
          have hlt3 : c = true → s3.toks.length < s2.toks.length := fun e => by
            subst e
            obtain ⟨rfl, hi⟩ := skip_true hm2
            exact take_lt (HU5.out.fit.kind (by decide) hi)
          clear hun5 hm2 hown5 hgrow5 hat5 hlc hrow hblk
          go_wp2_with fail
          go_at_call 74; refine HSK.out.mono ?_
          rintro e w6 ⟨rfl, m3, hs6⟩
          have H6 := Lib.hid hs6
          have HO6 := Lib.hid (HO5.out.step hs6.outs hs6.later)
          clear hs6
          cases c with
          | true =>
            have hlt3 := hlt3 rfl
            go_wp2_with fail
            go_roundg g'
            case measure => omega
            case rel => exact ⟨l ++ [i], s3, m3, Lib.hid H6.out.un, by simp only [List.length_append, List.length_cons, List.length_nil]; rw [HN.out]; exact HO6, Lib.hid (by have := HR3.out; simpa using this), by omega, by simp only [List.length_append, List.length_cons, List.length_nil]; rw [HN.out]; omega⟩
          | false =>
            have hend : R = .ok (l ++ [i], s3) := by rw [← HR3.out]; rfl
            have HEND := Lib.hid hend
            clear hend
            go_wp2_with fail
            go_ret
            rw [HEND.out]
            exact ⟨_, m3, rfl, H6.out.un, by simp only [List.length_append, List.length_cons, List.length_nil]; rw [HN.out]; exact HO6.out⟩
end Go.Proofs.YtljgggohjigaoaaGreatDoor
namespace Go.Proofs.YtljgggohjigaoaaGreatDoor
open Go.RowKit Go.Shelf
set_option linter.unusedVariables false
set_option linter.unusedSimpArgs false

def idxE (one : Nat) (ex : PM Nat) : PM (Bool × List Nat) := bindP (skipM (wb [42])) fun st => if st then fun s => .ok ((true, [one]), s) else bindP ex fun i s => .ok ((false, [one, i]), s)
set_option maxRecDepth 100000 in
set_option maxHeartbeats 4000000 in
theorem indexed1_any {W : World} {P F T lo dp d N E Bp one : Nat} {s : Ps} {m : FileM} {X : List Nat} {ex : PM Nat} {ad : Option Addr} {cap : Nat} (hE : Rds P F T lo dp d 75 #[.pointer (some ⟨P, 0, none⟩)] ex) (hD : Dec d 0 ex) (h : UnS W W P F T lo dp d m X s m N E ⟨⟨11, ⟨#[]⟩, [one], [], 0⟩, .slice ad 1 cap, .slice none 0 0⟩) (hB : Loc W P F T m Bp #[.pointer (some ⟨P, 0, none⟩)] 88) (hNB : Bp < N ∧ Bp ≠ E) :
    Calls Tryz.prog 164 #[.pointer (some ⟨Bp, 0, none⟩), .pointer (some ⟨E, 0, none⟩)] W (KEnd W P F T lo dp m X (StE P F T lo N E (fun (r : Bool × List Nat) => ⟨if r.1 then 30 else 11, ⟨#[]⟩, r.2, [], 0⟩)) (idxE one ex s) (fun _ => .tuple #[])) := by
  obtain ⟨iI, hiI, hzI, hsI, hbI⟩ := info_of infoInt0
  have HS := Lib.hid h
  have HB := Lib.hid hB
  have HNB := Lib.hid hNB
  have HEX := Lib.hid (And.intro hE hD)
  have HSK := h.un.skip (b := ⟨#[42]⟩) (by decide)
  have c0 := hB.blk.cell 0
  obtain ⟨R, hR⟩ : ∃ R, idxE one ex s = R := ⟨_, rfl⟩
  have HR : Hid (bindP (skipM ⟨#[42]⟩) (fun st => if st then fun s => .ok ((true, [one]), s) else bindP ex fun i s => .ok ((false, [one, i]), s)) s = R) := Lib.hid hR
  rw [hR]
  cases hm : skipM (⟨#[42]⟩ : ByteArray) s with
  | error bd =>
    exfalso
    unfold skipM at hm
    split at hm <;> cases hm
  | ok y =>
    obtain ⟨c, s2⟩ := y
    rw [hm] at HSK
    have HSK := Lib.hid HSK
    have HR2 := Lib.hid (bind_ok hm HR.out)
    clear h hB hE hD hm hR hNB
    go_enter Tryz.func164, Tryz.ntmps164
    go_wp2_with fail
    go_at_call 74; refine HSK.out.mono ?_
    rintro e w2 ⟨rfl, m2, hs2⟩
    have H2 := Lib.hid (HS.out.step hs2)
    have HB2 := Lib.hid (HB.out.step hs2.outs hs2.later)
    clear hs2
    cases c with
    | true =>
      have k0 := H2.out.ue.loc.blk.cell 0
      have f0 := H2.out.ue.loc.blk.frozen 0
      go_wp2_with fail
      go_end0
      have hend : R = .ok ((true, [one]), s2) := by rw [← HR2.out]; rfl
      rw [hend]
      exact (H2.out.setK 30).k rfl
    | false =>
      have HRa : Hid (bindP ex (fun i s => .ok ((false, [one, i]), s)) s2 = R) := HR2
      have HNa : Hid ([one].length = 1) := Lib.hid rfl
      have hdra := H2.out.below (Below.refl _ w2).drew
      have HDRa := Lib.hid hdra
      have HBDa := Lib.hid (HB2.out.lc (Lc.of (Below.refl _ w2).drew []) (by simp))
      have p0a := HB2.out.blk.cell 0
      have a2a := H2.out.ue.loc.blk.cell 2
      have hrda := hdra.un.reads HEX.out.1 HEX.out.2
      clear hdra
      cases hma : ex s2 with
      | error bd =>
        rw [hma] at hrda
        have HRDa := Lib.hid hrda
        have HREa := Lib.hid (bind_err hma HRa.out)
        clear hrda hma
        go_wp2_with fail
        refine wp_region_held_drew (S := fun w' => w'.cell? ⟨Bp, 0, none⟩ = some (.pointer (some ⟨P, 0, none⟩)) ∧ w'.cell? ⟨E, 2, none⟩ = some (.slice ad 1 cap)) (by kernel_rfl) ⟨p0a, a2a⟩ (fun hHeld => ?_)
        refine wpAnyH_take (i := 0) (oi := _) (v := ?qa_v0) rfl (by kernel_rfl) (by kernel_rfl) (by kernel_rfl) (fun _ _ _ h => h) (Or.inl ⟨by rfl, ?qa_y0⟩) (by assumption) ?qa_r0
        case qa_y0 => (intro w hSw; (try dsimp only at hSw); go_simp; (try with_reducible rfl))
        try simp only [Act.put, List.setIfInBounds_toArray, List.set_cons_zero, List.set_cons_succ]
        refine wpAnyH_take (i := 1) (oi := _) (v := ?qa_v1) rfl (by kernel_rfl) (by kernel_rfl) (by kernel_rfl) (fun _ _ _ h => h) (Or.inl ⟨by rfl, ?qa_y1⟩) (by assumption) ?qa_r1
        case qa_y1 => (intro w hSw; (try dsimp only at hSw); go_simp; (try with_reducible rfl))
        try simp only [Act.put, List.setIfInBounds_toArray, List.set_cons_zero, List.set_cons_succ]
        refine wpAnyH_take (i := 2) (oi := _) (v := ?qa_v2) rfl (by kernel_rfl) (by kernel_rfl) (by kernel_rfl) (fun _ _ _ h => h) (Or.inl ⟨by rfl, ?qa_y2⟩) (by assumption) ?qa_r2
        case qa_y2 => (intro w hSw; (try dsimp only at hSw); go_simp; (try with_reducible rfl))
        try simp only [Act.put, List.setIfInBounds_toArray, List.set_cons_zero, List.set_cons_succ]
        refine wpAnyH_ready (rs := [3]) (by kernel_rfl) (by simp) ?_
        refine AllReadyH.cons (o := _) rfl (fun K hK => ?_) AllReadyH.nil
        go_simp
        go_at_call 75; refine HRDa.out.mono ?_; rintro e w4 ⟨D, rfl, hk⟩
        refine ⟨rfl, ?_⟩
        rw [HREa.out]
        exact ⟨D, rfl, hk⟩
      | ok ya =>
        obtain ⟨ia, s3a⟩ := ya
        rw [hma] at hrda
        have HRDa := Lib.hid hrda
        have HRoa := Lib.hid (bind_ok hma HRa.out)
        have HEAa : Hid (E ∉ ownB (.slice ad 1 cap)) := Lib.hid (fun e => (H2.out.ue.foot E (List.mem_append.2 (.inl e))).2.2.2.1 rfl)
        clear hrda hma
        go_wp2_with fail
        refine have AFTERa : (∀ (w4 w5 : World) (g2 cap2 : Nat), (∃ m3, Stepped W w2.drew w4 P F T lo dp d m X m2 s3a m3 ∧ w5.ownsRow lo 3 1 (.slice (some ⟨g2, 0, none⟩) (1 + 1) cap2) (1 + 1) (intsV [one] ++ [.int .i64 (ia : Int)]) ∧ (w4.alloc (.cells #[.int .i64 (ia : Int)] 3)).grownBy w5 (Value.slice ad 1 cap).ownBlock ∧ ((Value.slice ad 1 cap).ownBlock = some g2 ∨ g2 = (w4.alloc (.cells #[.int .i64 (ia : Int)] 3)).heap.size)) → (?G : World → World → Nat → Nat → Prop) w4 w5 g2 cap2) := ?latera; ?maina
        case maina =>
          go_region_law (first
            | (go_simp; go_at_call 75; refine HRDa.out.mono ?_; rintro e w4 ⟨rfl, m3, hs4⟩; have hnv : natV ia = .int .i64 (ia : Int) := rfl; have H4 := Lib.hid (HDRa.out.step hs4); have hB4 := HBDa.out.step hs4.outs hs4.later; have a24 := H4.out.ue.loc.blk.cell 2; have a24a := (H4.out.ue.loc.blk.alloc (.cells #[.int .i64 (ia : Int)] 3)).cell 2; have hrow := H4.out.ue.ok.args.alloc (.cells #[.int .i64 (ia : Int)] 3); have hrow := (HNa.out ▸ hrow : (w4.alloc (.cells #[.int .i64 (ia : Int)] 3)).ownsRow lo 3 1 (.slice ad 1 cap) 1 (intsV [one])); have hblk := World.alloc_heap_new w4 (.cells #[.int .i64 (ia : Int)] 3); have hlo4 : lo ≤ w4.heap.size := hs4.un.ps.base.2)
            | (refine step_append_lies _ rfl (.tmp 6) (.tmp 9) 26 rfl lo 3 iI (.int .i64 0) 1 8 Tryz.underlying26 hiI hzI hsI hbI rfl (by decide) _ _ _ rfl hrow ⟨w4.heap.size, 0, none⟩ 1 1 [.int .i64 (ia : Int)] rfl rfl (World.news_of_block hblk) (by intro u hu; simp at hu; subst hu; rfl) (by decide) (by unfold maxLen; omega) (by omega) (by simp; omega) _ rfl ?_; intro g2 cap2 w5 hown hgrow hat hlt; have hE5 := H4.out.ue.loc.lc (grown_lc (Y := ownB (.slice ad 1 cap)) hgrow (fun g e => mem_ownB.2 e)) HEAa.out; have c52 := hE5.blk.cell 2; have f52 := hE5.blk.frozen 2))
          all_goals exact AFTERa w4 w5 g2 cap2 ⟨m3, hs4, hown, hgrow, hat⟩
        case latera =>
          rintro w4 w5 ga ca ⟨m3a, hs4, hown, hgrow, hat⟩
          have h4a := HDRa.out.step hs4
          have hpa := h4a.push (n := 1) HNa.out hown hgrow hat
          have HBa := Lib.hid ((HBDa.out.step hs4.outs hs4.later).lc hpa.2 (fun hk => by
            rcases List.mem_cons.1 hk with h1 | h1
            · exact HNB.out.2 h1
            · have := (h4a.ue.foot Bp (List.mem_append.2 (.inl h1))).2.2.2.2
              have := HNB.out.1
              omega))
          have HSa := Lib.hid hpa.1
          have HNao : Hid (([one] ++ [ia]).length = 1 + 1) := Lib.hid (by simp [HNa.out])
          clear hs4 hown hgrow hat hpa h4a p0a a2a
          obtain ⟨w6a, hw6a⟩ : ∃ w6, w5.setCell ⟨E, 2, none⟩ (.slice (some ⟨ga, 0, none⟩) (1 + 1) ca) = w6 := ⟨_, rfl⟩
          rw [hw6a] at HBa HSa ⊢
          clear hw6a
          go_wp2_with fail
          go_end0
          rw [← HRoa.out]
          exact HSa.out.k rfl
end Go.Proofs.YtljgggohjigaoaaGreatDoor
namespace Go.Proofs.YtljgggohjigaoaaGreatDoor
open Go.RowKit Go.Shelf
set_option linter.unusedVariables false

theorem Fit.like {d : Nat} {s s' : Ps} (h : Fit d s) (ht : s'.toks = s.toks) (hf : s'.f = s.f) : Fit d s' := ⟨by rw [ht]; exact h.snd, by rw [ht]; exact h.txt, by rw [ht]; exact h.pos, by have := h.pot; unfold Go.Proofs.YtljgggohjigaoaaGreatDoor.pot at this ⊢; rw [ht, hf]; exact this⟩
section
variable {W w w' : World} {P F T lo dp d N : Nat} {m m1 m2 : FileM} {X : List Nat} {s s2 : Ps}
theorem OwnL.mono {N' : Nat} {e : TypeId} {size n : Nat} {v : Value} {xs : List Value} (h : OwnL w P F T lo N m1 e size v n xs) (hN : N' ≤ N) : OwnL w P F T lo N' m1 e size v n xs := ⟨h.row, fun g hg => ⟨(h.out g hg).1, (h.out g hg).2.1, (h.out g hg).2.2.1, Nat.le_trans hN (h.out g hg).2.2.2⟩⟩
theorem UnE.mono {N' E : Nat} {x : ExM} (h : UnE w P F T lo N m1 E x) (hN : N' ≤ N) : UnE w P F T lo N' m1 E x := ⟨h.loc, h.ok, fun g hg => ⟨(h.foot g hg).1, (h.foot g hg).2.1, (h.foot g hg).2.2.1, (h.foot g hg).2.2.2.1, Nat.le_trans hN (h.foot g hg).2.2.2.2⟩, h.nodup⟩
theorem OwnL.lit (h : PsAt w P F T lo dp s m1) (hN : N ≤ w.heap.size) (l : List Nat) (hl : l.length ≤ 1000) : OwnL (w.alloc (.cells (intsV l).toArray 3)) P F T lo N m1 3 1 (.slice (some ⟨w.heap.size, 0, none⟩) l.length l.length) l.length (intsV l) := by
  have hil : (intsV l).length = l.length := by simp [intsV]
  have hrk := h.tok.ranks
  refine ⟨?_, fun g hg => ?_⟩
  · have := World.ownsRow_lit (base := lo) (e := 3) (size := 1) w (intsV l).toArray l.length h.base.2 (by unfold maxLen; omega) (by simp [hil])
    simpa using this
  · obtain rfl : w.heap.size = g := Option.some.inj hg
    exact ⟨fun hm => by have := (h.file.lt _ hm).1; omega, by omega, by omega, hN⟩
/-- A new expression whose arguments are a row of one's own. -/
theorem UnE.ofRow (h : PsAt w P F T lo dp s m1) (k : Int) (x : ByteArray) {l : List Nat} {av : Value} (hr : OwnL w P F T lo N m1 3 1 av l.length (intsV l)) (a : Nat) : UnE (w.alloc (.cells #[.int .i64 k, .string x, av, .slice none 0 0, .int .i64 (a : Int)] 38)) P F T lo N m1 w.heap.size ⟨⟨k, x, l, [], a⟩, av, .slice none 0 0⟩ :=
  ⟨Loc.new h _ _, ⟨hr.row.alloc _, World.ownsRow_nil _ _ _ _⟩, fun g hg => (by
    rcases List.mem_append.1 hg with h1 | h1
    · have h2 := hr.out g (mem_ownB.1 h1)
      have h3 := row_lt hr.row (mem_ownB.1 h1)
      exact ⟨h2.1, h2.2.1, h2.2.2.1, by omega, h2.2.2.2⟩
    · cases h1), by unfold ExM.foot; simpa [ownB, Value.ownBlock] using ownB_nodup av⟩
theorem Loc.alloc {B : Nat} {cs : Array Value} {ty : TypeId} (h : Loc w P F T m1 B cs ty) (o : Obj) : Loc (w.alloc o) P F T m1 B cs ty := h.lc (Lc.alloc w o []) (by simp)
theorem OwnL.alloc {e : TypeId} {size n : Nat} {v : Value} {xs : List Value} (h : OwnL w P F T lo N m1 e size v n xs) (o : Obj) : OwnL (w.alloc o) P F T lo N m1 e size v n xs := h.lc (Lc.alloc w o []) (by simp)
/-- A closure begins with the expression that it holds. -/
theorem UnS.enter {d' dp' E : Nat} {x : ExM} {s' : Ps} (hu : UnE w P F T lo N m E x) (ha : Aside P w w') (hp : PsAt w' P F T lo dp' s' m) (he : Env w P F) (hf : Fit d' s') (hE4 : 4 ≤ E) (hN4 : 4 ≤ N) (hN : N ≤ w.heap.size) : UnS w' w' P F T lo dp' d' m (E :: x.foot) s' m N E x :=
  ⟨Un.start hp (he.aside ha) hf, hu.aside ha, fun k hk => by
    rcases hk with rfl | hk
    · exact ⟨hE4, .inl List.mem_cons_self⟩
    · exact ⟨Nat.le_trans hN4 (hu.foot k hk).2.2.2.2, .inl (List.mem_cons_of_mem _ hk)⟩, Nat.le_trans hN ha.size⟩
theorem Loc.aside {B : Nat} {cs : Array Value} {ty : TypeId} (h : Loc w P F T m1 B cs ty) (ha : Aside P w w') : Loc w' P F T m1 B cs ty := h.step (Outs.aside ha) (Later.refl _ _ _)
end
end Go.Proofs.YtljgggohjigaoaaGreatDoor
