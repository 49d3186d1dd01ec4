/- Keys put one by one into an object: what the document's many does with them · What the document's many has made: a list, an object -/
import Derived.Test.YtnmfoedfllmclaaGreatDoorJr09
import Derived.Test.YtnmfoedfllmclaaGreatDoorJr26
import Derived.Test.YtnmfoedfllmclaaGreatDoorJr28
import Derived.Test.YtnmfoedfllmclaaGreatDoorJr39
import Derived.Test.YtnmfoedfllmclaaGreatDoorJr40
namespace Go.Proofs.YtnmfoedfllmclaaGreatDoor
open Go.RowKit
set_option linter.unusedVariables false

theorem valD_on (d : Nat) : GoesOn 1 (valD d) := fun R n x R' n' h => by
  rcases val_sim d R n with e | ⟨T, R2, n2, e1, hb, e2⟩
  · exact valJ_on d R n x R' n' (e.trans h)
  · rw [e2] at h; cases h
theorem putAll_app {κ α : Type} {lt : κ → κ → Bool} [DecidableEq κ] (m : List (κ × α)) : ∀ (l acc : List (κ × α)), putAll lt acc (l ++ m) = match putAll lt acc l with | none => none | some z => putAll lt z m
  | [], acc => by simp [putAll]
  | p :: l, acc => by
    rw [List.cons_append]
    have e1 : putAll lt acc (p :: (l ++ m)) = if p.1 ∈ acc.map Prod.fst then none else putAll lt (insP lt p acc) (l ++ m) := by conv => lhs; unfold putAll
    have e2 : putAll lt acc (p :: l) = if p.1 ∈ acc.map Prod.fst then none else putAll lt (insP lt p acc) l := by conv => lhs; unfold putAll
    rw [e1, e2]
    split
    · rfl
    · exact putAll_app m l _
/-- Pairs, put one by one: the keys in order, the items beside them. -/
def KeysOf (st : List (ByteArray × VT)) (ks : List ByteArray) (its : List VT) : Prop := docObj (st.map Prod.fst) (st.map Prod.snd) = some (ks.zip its) ∧ ks.length = its.length
theorem zip_fst_snd (st : List (ByteArray × VT)) : (st.map Prod.fst).zip (st.map Prod.snd) = st := by
  induction st with
  | nil => rfl
  | cons p l ih => simp [ih]
theorem KeysOf.nil : KeysOf [] [] [] := ⟨rfl, rfl⟩
theorem KeysOf.made {st : List (ByteArray × VT)} {ks : List ByteArray} {its : List VT} (h : KeysOf st ks its) : madeT st = .node 6 false ⟨#[]⟩ its ks := by
  unfold madeT
  rw [h.1]
  show objT (ks.zip its) = _
  unfold objT
  rw [List.map_fst_zip (by have := h.2; omega), List.map_snd_zip (by have := h.2; omega)]
theorem KeysOf.perm {st : List (ByteArray × VT)} {ks : List ByteArray} {its : List VT} (h : KeysOf st ks its) : (ks.zip its).Perm st := by
  have h1 := h.1
  unfold docObj at h1
  rw [zip_fst_snd] at h1
  have := (putAll_some (lt := bLt) (fun a b c h h' => bLt_trans h h') (fun a b h => bLt_total h) st [] _ h1 List.Pairwise.nil).2
  simpa using this
theorem KeysOf.mem {st : List (ByteArray × VT)} {ks : List ByteArray} {its : List VT} (h : KeysOf st ks its) {k : ByteArray} : k ∈ ks ↔ k ∈ st.map Prod.fst := by
  rw [← (h.perm.map Prod.fst).mem_iff, List.map_fst_zip (by have := h.2; omega)]
theorem KeysOf.len {st : List (ByteArray × VT)} {ks : List ByteArray} {its : List VT} (h : KeysOf st ks its) : ks.length = st.length := by
  have h1 := h.perm.length_eq
  have h2 := h.2
  simp at h1
  omega
theorem KeysOf.put {st : List (ByteArray × VT)} {ks : List ByteArray} {its : List VT} (h : KeysOf st ks its) {k : ByteArray} (hk : k ∉ ks) (X : VT) : KeysOf (st ++ [(k, X)]) (insK k (dropK k ks)) (insI k X (dropK k ks) (dropI k ks its)) := by
  have hn : ∀ b ∈ ks, (b.toList == k.toList) = false := fun b hb => by
    cases he : (b.toList == k.toList) with
    | false => rfl
    | true => exact absurd (key_eq.1 he ▸ hb) hk
  rw [dropK_none hn, dropI_none h.2 hn]
  refine ⟨?_, ?_⟩
  · have h1 := h.1
    unfold docObj at h1 ⊢
    rw [zip_fst_snd] at h1 ⊢
    rw [putAll_app, h1]
    simp only [putAll]
    rw [if_neg (by rw [List.map_fst_zip (by have := h.2; omega)]; exact hk), zip_ins _ _ _ _ h.2]
  · rw [insI_length _ _ _ _ h.2]
theorem at_no {ks : List ByteArray} {k : ByteArray} (h : AtIs ks k (-1)) : k ∉ ks := by
  rcases h with ⟨-, h⟩ | ⟨j, hj, h1, h2⟩
  · intro hm
    obtain ⟨i, hi, rfl⟩ := List.getElem_of_mem hm
    have := h i hi
    rw [key_eq.2 rfl] at this
    cases this
  · omega
theorem at_yes {ks : List ByteArray} {k : ByteArray} {r : Int} (h : AtIs ks k r) (hr : 0 ≤ r) : k ∈ ks := by
  rcases h with ⟨h, -⟩ | ⟨j, hj, h1, h2⟩
  · omega
  · rw [← key_eq.1 h2]
    exact List.getElem_mem hj
theorem at_low {ks : List ByteArray} {k : ByteArray} {r : Int} (h : AtIs ks k r) (hr : ¬ 0 ≤ r) : k ∉ ks := by
  rcases h with ⟨h, h2⟩ | ⟨j, hj, h1, h2⟩
  · exact at_no (.inl ⟨rfl, h2⟩)
  · omega
end Go.Proofs.YtnmfoedfllmclaaGreatDoor
namespace Go.Proofs.YtnmfoedfllmclaaGreatDoor
open Go.RowKit Go.Shelf Go.Sort
set_option linter.unusedVariables false

/-- From block L on all that was there is as it was. -/
def Above (L : Nat) (w w' : World) : Prop := w.heap.size ≤ w'.heap.size ∧ ∀ g, L ≤ g → g < w.heap.size → w'.heap[g]? = w.heap[g]?
theorem Above.refl (L : Nat) (w : World) : Above L w w := ⟨Nat.le_refl _, fun _ _ _ => rfl⟩
theorem Above.call {L : Nat} {w w1 w2 : World} (h : Above L w w1) (hb : Below w1.heap.size w1 w2) : Above L w w2 :=
  ⟨Nat.le_trans h.1 hb.size, fun g h1 h2 => (hb.block g (Nat.lt_of_lt_of_le h2 h.1)).trans (h.2 g h1 h2)⟩
theorem Above.set {L : Nat} {w w1 : World} (h : Above L w w1) {p : Addr} (hp : p.block < L ∨ w.heap.size ≤ p.block) (u : Value) : Above L w (w1.setCell p u) :=
  ⟨by simpa using h.1, fun g h1 h2 => by rw [Below.heap_setCell _ _ _ _ (by intro e; rcases hp with hp | hp <;> omega)]; exact h.2 g h1 h2⟩
theorem Above.set5 {L : Nat} {w w1 : World} (h : Above L w w1) {B : Nat} (hp : B < L ∨ w.heap.size ≤ B) (b0 b1 b2 b3 b4 : Value) : Above L w (((((w1.setCell ⟨B, 0, none⟩ b0).setCell ⟨B, 1, none⟩ b1).setCell ⟨B, 2, none⟩ b2).setCell ⟨B, 3, none⟩ b3).setCell ⟨B, 4, none⟩ b4) :=
  ((((h.set (p := ⟨B, 0, none⟩) hp b0).set (p := ⟨B, 1, none⟩) hp b1).set (p := ⟨B, 2, none⟩) hp b2).set (p := ⟨B, 3, none⟩) hp b3).set (p := ⟨B, 4, none⟩) hp b4
theorem Above.alloc {L : Nat} {w w1 : World} (h : Above L w w1) (o : Obj) : Above L w (w1.alloc o) := h.call ((Below.refl _ w1).alloc (Nat.le_refl _) o)
theorem Above.blk {L B : Nat} {w w' : World} {cs : Array Value} {ty : TypeId} (h : Above L w w') (hB : L ≤ B) (hb : Blk w B cs ty) : Blk w' B cs ty := (h.2 B hB hb.lt).trans hb
theorem DocV.low {W wx w' : World} {t : ByteArray} {a n c x : Nat} (h : DocV W wx t a n c x) (hb : Below (W.heap.size + 3) wx w') : DocV W w' t a n c x :=
  ⟨⟨(hb.block _ (by omega)).trans h.1.1, (hb.block _ (by omega)).trans h.1.2.1, h.1.2.2.1.trans (hb.mono (by omega)), h.1.2.2.2⟩, (hb.block _ (by omega)).trans h.2⟩
/-- Behind an append to what the function made, and its store. -/
theorem DocV.grown {W w3 w4 : World} {t : ByteArray} {a n c x : Nat} {o : Obj} {row : Option Nat} (h : DocV W w3 t a n c x) (hg : (w3.alloc o).grownBy w4 row) (hr : ∀ q, row = some q → W.heap.size + 3 < q) (u : Value) : DocV W (w4.setCell ⟨W.heap.size + 3, 3, none⟩ u) t a n c x := by
  have h2 := h.2.lt
  have hs : (w3.alloc o).heap.size = w3.heap.size + 1 := by simp
  have h1 : Below (W.heap.size + 3) w3 (w3.alloc o) := (Below.refl _ w3).alloc (by omega) o
  have h3 : Below (W.heap.size + 3) w3 w4 := below_grows h1 hg (by omega) (fun q e => by have := hr q e; omega)
  exact h.low (h3.setCell (Nat.le_refl _) _)
/-- The list, in the block behind the results. -/
structure ListD (H : Nat) (wr : World) (iv : Value) (yy : List It) : Prop where
  box : Blk wr (H + 3) #[.int .i64 5, .bool false, .string ⟨#[]⟩, iv, .slice none 0 0] 26
  row : wr.ownsRow (H + 4) 26 5 iv yy.length (yy.flatMap It.cells)
  far : ∀ e ∈ yy, FarIt (H + 3) wr (.slice none 0 0) iv e
section
variable {H : Nat} {wr w' : World} {iv : Value} {yy : List It}
theorem ListD.keep (h : ListD H wr iv yy) (ha : Above (H + 3) wr w') : ListD H w' iv yy :=
  ⟨ha.blk (Nat.le_refl _) h.box, row_same h.row (fun g h1 h2 _ => ha.2 g (by omega) h2), fun e he => (h.far e he).go ha.1 (fun g h1 h2 _ _ => ha.2 g (by omega) h2) (fun g e => .inl e) (fun g e => .inl e)⟩
theorem ListD.base (h : ListD H wr iv yy) : ∀ q, iv.ownBlock = some q → H + 4 ≤ q ∧ q < wr.heap.size := fun q e => World.ownsRow.lt h.row q e
theorem ListD.slice (h : ListD H wr iv yy) : ∃ ad cap, iv = .slice ad yy.length cap := by
  obtain ⟨-, ⟨e, h0⟩ | ⟨g, cap, cur, e, -⟩⟩ := h.row
  · exact ⟨none, 0, by rw [e, h0]⟩
  · exact ⟨_, cap, e⟩
theorem ListD.append {w3 w4 : World} {g2 cap2 : Nat} {e : It} {a' : Array Value} {t' : TypeId} (h : ListD H w3 iv yy) (he : FarIt (H + 3) w3 (.slice none 0 0) iv e)
    (hown : w4.ownsRow (H + 4) 26 5 (.slice (some ⟨g2, 0, none⟩) (yy.length + 1) cap2) (yy.length + 1) (yy.flatMap It.cells ++ e.cells)) (hg : (w3.alloc (.cells a' t')).grownBy w4 iv.ownBlock) (hat : iv.ownBlock = some g2 ∨ g2 = (w3.alloc (.cells a' t')).heap.size) :
    ListD H (w4.setCell ⟨H + 3, 3, none⟩ (.slice (some ⟨g2, 0, none⟩) (yy.length + 1) cap2)) (.slice (some ⟨g2, 0, none⟩) (yy.length + 1) cap2) (yy ++ [e]) := by
  have hb := h.base
  have hlt := h.box.lt
  have hs : (w3.alloc (.cells a' t')).heap.size = w3.heap.size + 1 := by simp
  have hal : Below w3.heap.size w3 (w3.alloc (.cells a' t')) := below_new0 _ _
  have hbx := ((h.box.below hal).grows hg (fun e => by have := hb _ e.symm; omega)).set 3 (.slice (some ⟨g2, 0, none⟩) (yy.length + 1) cap2)
  have hge : H + 4 ≤ g2 := by
    rcases hat with h | h
    · exact (hb _ h).1
    · omega
  have hsz : w3.heap.size ≤ w4.heap.size := by have := hg.size; omega
  have hgo : ∀ e, FarIt (H + 3) w3 (.slice none 0 0) iv e → FarIt (H + 3) (w4.setCell ⟨H + 3, 3, none⟩ (.slice (some ⟨g2, 0, none⟩) (yy.length + 1) cap2)) (.slice none 0 0) (.slice (some ⟨g2, 0, none⟩) (yy.length + 1) cap2) e := fun e hf => hf.go (by simpa using hsz) (fun q h1 h2 _ h3 => by
      rw [Below.heap_setCell _ _ _ _ (by show q ≠ H + 3; omega)]
      exact (hg.block q (by omega) h3).trans (hal.block q h2)) (fun q e => .inl e) (fun q e => by
      obtain rfl : g2 = q := Option.some.inj e
      rcases hat with h | h
      · exact .inl h
      · exact .inr (by omega))
  refine ⟨by simpa using hbx, ?_, fun x hx => ?_⟩
  · rw [List.length_append, List.flatMap_append]
    simp only [List.flatMap_cons, List.flatMap_nil, List.append_nil]
    exact row_set hown _ _ (by intro e; have e2 : g2 = H + 3 := Option.some.inj e; omega)
  · rcases List.mem_append.1 hx with hx | hx
    · exact hgo x (h.far x hx)
    · rw [List.mem_singleton] at hx
      subst hx
      exact hgo _ he
theorem ListD.fresh {lo : Nat} (h : ListD H wr iv yy) (hl : lo ≤ H + 4) (hn : yy.length ≤ 1000000) : Fresh lo wr.heap.size wr (.agg #[.int .i64 5, .bool false, .string ⟨#[]⟩, iv, .slice none 0 0]) (listT (yy.map It.T)) := by
  obtain ⟨ad, cap, rfl⟩ := h.slice
  have hi := itemsF_of_row h.row hn (fun e he => by
    obtain ⟨lo', hi', h1, h2, h3, -⟩ := h.far e he
    exact h3.keep (fun _ _ _ => rfl) (by omega) h2)
  have hk : StrsF (H + 4) wr.heap.size wr (.slice none 0 0) [] := ⟨none, 0, rfl, by simp, by simp, fun hp => absurd hp (by simp)⟩
  have hl2 : (yy.map It.T).length = yy.length := by simp
  have := fresh_of (k := 5) (b := false) (t := ⟨#[]⟩) (lo0 := lo) (w3 := wr) hk hi (by rw [hl2]; omega) (fun _ _ _ => rfl) (fun _ _ _ => rfl) hl hl (Nat.le_refl _) (Nat.le_refl _)
  rw [hl2] at this
  exact this
end
theorem Grown.slices {lo : Nat} {W : World} {kv iv : Value} {ks : List ByteArray} {yy : List It} (h : Grown lo W kv iv ks yy) : (∃ ad cap, iv = .slice ad yy.length cap) ∧ ∃ ad cap, kv = .slice ad ks.length cap := by
  refine ⟨?_, ?_⟩
  · obtain ⟨-, ⟨e, h0⟩ | ⟨g, cap, cur, e, -⟩⟩ := h.2
    · exact ⟨none, 0, by rw [e, h0]⟩
    · exact ⟨_, cap, e⟩
  · obtain ⟨-, ⟨e, h0⟩ | ⟨g, cap, cur, e, -⟩⟩ := h.1
    · exact ⟨none, 0, by rw [e, h0]⟩
    · exact ⟨_, cap, e⟩
/-- The object, in the block behind the results. -/
structure ObjD (H : Nat) (wr : World) (iv kv : Value) (ks : List ByteArray) (yy : List It) : Prop where
  box : Blk wr (H + 3) #[.int .i64 6, .bool false, .string ⟨#[]⟩, iv, kv] 26
  grown : Grown (H + 4) wr kv iv ks yy
  ok : ∀ e ∈ yy, Fresh (H + 4) wr.heap.size wr e.val e.T
  len : ks.length = yy.length
section
variable {H : Nat} {wr w' : World} {iv kv : Value} {ks : List ByteArray} {yy : List It}
theorem ObjD.keep (h : ObjD H wr iv kv ks yy) (ha : Above (H + 3) wr w') : ObjD H w' iv kv ks yy :=
  ⟨ha.blk (Nat.le_refl _) h.box, ⟨row_same h.grown.1 (fun g h1 h2 _ => ha.2 g (by omega) h2), row_same h.grown.2 (fun g h1 h2 _ => ha.2 g (by omega) h2)⟩, fun e he => (h.ok e he).keep (fun g h1 h2 => ha.2 g (by omega) h2) (Nat.le_refl _) ha.1, h.len⟩
theorem ObjD.slices (h : ObjD H wr iv kv ks yy) : (∃ ad cap, iv = .slice ad yy.length cap) ∧ ∃ ad cap, kv = .slice ad ks.length cap := by
  refine ⟨?_, ?_⟩
  · obtain ⟨-, ⟨e, h0⟩ | ⟨g, cap, cur, e, -⟩⟩ := h.grown.2
    · exact ⟨none, 0, by rw [e, h0]⟩
    · exact ⟨_, cap, e⟩
  · obtain ⟨-, ⟨e, h0⟩ | ⟨g, cap, cur, e, -⟩⟩ := h.grown.1
    · exact ⟨none, 0, by rw [e, h0]⟩
    · exact ⟨_, cap, e⟩
theorem ObjD.fresh {lo : Nat} (h : ObjD H wr iv kv ks yy) (hl : lo ≤ H + 4) (hn : yy.length ≤ 1000000) : Fresh lo wr.heap.size wr (.agg #[.int .i64 6, .bool false, .string ⟨#[]⟩, iv, kv]) (.node 6 false ⟨#[]⟩ (yy.map It.T) ks) := by
  obtain ⟨⟨ad, cap, rfl⟩, -⟩ := h.slices
  have hi := itemsF_of_row h.grown.2 hn h.ok
  have hk := strsF_row2 h.grown.1 (by have := h.len; omega)
  have hl2 : (yy.map It.T).length = yy.length := by simp
  have := fresh_of (k := 6) (b := false) (t := ⟨#[]⟩) (lo0 := lo) (w3 := wr) hk hi (by rw [hl2]; omega) (fun _ _ _ => rfl) (fun _ _ _ => rfl) hl hl (Nat.le_refl _) (Nat.le_refl _)
  rw [hl2] at this
  exact this
theorem ObjD.strs (h : ObjD H wr iv kv ks yy) (hn : yy.length ≤ 1000000) : StrsAt wr.heap.size wr kv ks := (strsF_row2 h.grown.1 (by have := h.len; omega)).at
theorem ObjD.items (h : ObjD H wr iv kv ks yy) (hn : yy.length ≤ 1000000) : ItemsAt wr.heap.size wr iv yy := items_of_row h.grown.2 (by omega) (fun e he => (h.ok e he).at)
/-- Behind Put, and its store. -/
theorem ObjD.put {w3 w4 : World} {iv' kv' : Value} {k : ByteArray} {e : It} (h : ObjD H w3 iv kv ks yy) (he : Fresh (H + 4) w3.heap.size w3 e.val e.T) (hb : Below w3.heap.size w3 w4) (hg : Grown w3.heap.size w4 kv' iv' (insK k (dropK k ks)) (insI k e (dropK k ks) (dropI k ks yy))) :
    ObjD H (((((w4.setCell ⟨H + 3, 0, none⟩ (.int .i64 6)).setCell ⟨H + 3, 1, none⟩ (.bool false)).setCell ⟨H + 3, 2, none⟩ (.string ⟨#[]⟩)).setCell ⟨H + 3, 3, none⟩ iv').setCell ⟨H + 3, 4, none⟩ kv') iv' kv' (insK k (dropK k ks)) (insI k e (dropK k ks) (dropI k ks yy)) := by
  have hlt := h.box.lt
  have hl := h.len
  have hup : ∀ {v : Value} {E : TypeId} {s n : Nat} {us : List Value} {W : World}, W.ownsRow w3.heap.size E s v n us → W.ownsRow (H + 4) E s v n us := fun {v E s n us W} h => by
    obtain ⟨a, b | ⟨g, cap, cur, b1, b2, b3⟩⟩ := h
    · exact ⟨a, .inl b⟩
    · exact ⟨a, .inr ⟨g, cap, cur, b1, by omega, b3⟩⟩
  have hfar : ∀ {v : Value} {E : TypeId} {s n : Nat} {us : List Value}, w4.ownsRow w3.heap.size E s v n us → v.ownBlock ≠ some (H + 3) := fun h e => by have := (World.ownsRow.lt h _ e).1; omega
  refine ⟨(h.box.below hb).set5 _ _ _ _ _, ⟨hup (row_set5 hg.1 (H + 3) _ _ _ _ _ (hfar hg.1)), hup (row_set5 hg.2 (H + 3) _ _ _ _ _ (hfar hg.2))⟩, fun x hx => ?_, ?_⟩
  · have hk : ∀ y : It, Fresh (H + 4) w3.heap.size w3 y.val y.T → Fresh (H + 4) (((((w4.setCell ⟨H + 3, 0, none⟩ (.int .i64 6)).setCell ⟨H + 3, 1, none⟩ (.bool false)).setCell ⟨H + 3, 2, none⟩ (.string ⟨#[]⟩)).setCell ⟨H + 3, 3, none⟩ iv').setCell ⟨H + 3, 4, none⟩ kv').heap.size (((((w4.setCell ⟨H + 3, 0, none⟩ (.int .i64 6)).setCell ⟨H + 3, 1, none⟩ (.bool false)).setCell ⟨H + 3, 2, none⟩ (.string ⟨#[]⟩)).setCell ⟨H + 3, 3, none⟩ iv').setCell ⟨H + 3, 4, none⟩ kv') y.val y.T := fun y hy =>
      hy.keep (fun g h1 h2 => (heap5 w4 (by omega) _ _ _ _ _).trans (hb.block g h2)) (Nat.le_refl _) (by simpa using hb.size)
    rcases insI_sub _ _ _ _ _ hx with rfl | hx
    · exact hk _ he
    · exact hk _ (h.ok _ (dropI_sub _ _ _ _ hx))
  · rw [insI_length _ _ _ _ (dropI_length k ks yy hl).symm]
end
/-- What is still to come is what comes in all; or an error is there. -/
def Going {α : Type} (t : ByteArray) (c0 x0 : Nat) (X Y : Except Bad α) (P : Prop) (c x : Nat) : Prop := (c = c0 ∧ x = x0 ∧ X = Y ∧ P) ∨ (c ≠ 0 ∧ ∃ bd : Bad, X = .error bd ∧ ((c : Nat) : Int) = bd.1 ∧ x = t.size - bd.2)
theorem Going.mono {α : Type} {t : ByteArray} {c0 x0 c x : Nat} {X Y Y' : Except Bad α} {P P' : Prop} (h : Going t c0 x0 X Y P c x) (hY : P → Y = Y' ∧ P') : Going t c0 x0 X Y' P' c x := by
  rcases h with ⟨h1, h2, h3, h4⟩ | h
  · exact .inl ⟨h1, h2, h3.trans (hY h4).1, (hY h4).2⟩
  · exact .inr h
/-- Behind the value: comma, or end. -/
def tailJ {σ : Type} (rd : σ → RdJ σ) (q : UInt8) (f : Nat) (st : σ) : RdJ σ := fun R n =>
  if Lib.hasPrefix (skipB R) [q] then .ok (st, (skipB R).drop 1, n)
  else if Lib.hasPrefix (skipB R) [44] then seqJ rd q f st ((skipB R).drop 1) n
  else .error (30, (skipB R).length)
theorem seqJ_tail {σ : Type} {rd : σ → RdJ σ} {q : UInt8} {f : Nat} {st st' : σ} {R R' : List UInt8} {n n' : Nat} (h : rd st R n = .ok (st', R', n')) : seqJ rd q (f + 1) st R n = tailJ rd q f st' R' n' := by
  conv => lhs; unfold seqJ
  unfold tailJ
  rw [h]
theorem tailJ_end {σ : Type} {rd : σ → RdJ σ} {q : UInt8} {f n : Nat} {st : σ} {R R2 : List UInt8} (hs : skipB R = R2) (h : headZ R2 = (q.toNat : Int)) : tailJ rd q f st R n = .ok (st, R2.drop 1, n) := by
  unfold tailJ
  rw [hs, if_pos]
  obtain ⟨r, rfl⟩ := head_is h
  simp [Lib.hasPrefix, List.isPrefixOf]
theorem pre_not {R : List UInt8} {q : UInt8} (h : ¬ headZ R = (q.toNat : Int)) : Lib.hasPrefix R [q] = false := by
  cases R with
  | nil => rfl
  | cons c r =>
    have hne : ¬ q = c := by rintro rfl; exact h rfl
    simp [Lib.hasPrefix, List.isPrefixOf, hne]
theorem pre_is {R : List UInt8} {q : UInt8} (h : headZ R = (q.toNat : Int)) : Lib.hasPrefix R [q] = true := by
  obtain ⟨r, rfl⟩ := head_is h
  simp [Lib.hasPrefix, List.isPrefixOf]
theorem tailJ_more {σ : Type} {rd : σ → RdJ σ} {q : UInt8} {f n : Nat} {st : σ} {R R2 : List UInt8} (hs : skipB R = R2) (h : ¬ headZ R2 = (q.toNat : Int)) (h2 : headZ R2 = 44) : tailJ rd q f st R n = seqJ rd q f st (R2.drop 1) n := by
  unfold tailJ
  rw [hs, if_neg (by rw [pre_not h]; decide), if_pos (pre_is (q := 44) h2)]
theorem tailJ_bad {σ : Type} {rd : σ → RdJ σ} {q : UInt8} {f n : Nat} {st : σ} {R R2 : List UInt8} (hs : skipB R = R2) (h : ¬ headZ R2 = (q.toNat : Int)) (h2 : ¬ headZ R2 = 44) : tailJ rd q f st R n = .error (30, R2.length) := by
  unfold tailJ
  rw [hs, if_neg (by rw [pre_not h]; decide), if_neg (by rw [pre_not (q := 44) h2]; decide)]
/-- An error is laid down, if there is none yet. -/
theorem fail_both {t : ByteArray} {a n c x : Nat} (k y : Nat) : ∃ k' y', failS t a n c x k y = stV t a n k' y' ∧ (c = 0 → k' = k ∧ y' = y) ∧ (c ≠ 0 → k' = c ∧ y' = x) := by
  by_cases h : c = 0
  · exact ⟨k, y, if_pos h, fun _ => ⟨rfl, rfl⟩, fun h2 => absurd h h2⟩
  · exact ⟨c, x, if_neg h, fun h2 => absurd h2 h, fun _ => ⟨rfl, rfl⟩⟩
theorem VlE.going {W w' : World} {t : ByteArray} {c0 x0 : Nat} {r : Except Bad (VT × List UInt8 × Nat)} {e : Ending} (h : VlE W t c0 x0 r e w') : Below W.heap.size W w' ∧ ∃ (b n k x : Nat) (v : Value) (T : VT), e = .returned (.tuple #[stV t b n k x, v]) ∧ Fresh W.heap.size w'.heap.size w' v T ∧ b ≤ t.size ∧ n ≤ 2000 ∧ Going t c0 x0 r (.ok (T, rest t b, n)) True k x := by
  obtain ⟨hb, hr⟩ := h
  refine ⟨hb, ?_⟩
  cases r with
  | error bd =>
    obtain ⟨b, n, k, v, T, h1, h2, h3, h4, h5, h6⟩ := hr
    exact ⟨b, n, k, t.size - bd.2, v, T, h1, h6, h2, h3, .inr ⟨h4, bd, rfl, h5, rfl⟩⟩
  | ok y =>
    obtain ⟨T, R', n'⟩ := y
    obtain ⟨b, v, h1, h2, h3, h4, h5⟩ := hr
    exact ⟨b, n', c0, x0, v, T, h1, h5, h2, h4, .inl ⟨rfl, rfl, by rw [h3], trivial⟩⟩
/-- The ways in which many ends. -/
theorem Going.fails {α : Type} {W w' : World} {t : ByteArray} {c0 x0 c x b n k' y' len : Nat} {X : Except Bad α} {P : Prop} {r : Except Bad (VT × List UInt8 × Nat)} (h : Going t c0 x0 X (.error (30, len)) P c x) (h0 : c0 = 0) (hk : c = 0 → k' = 30 ∧ y' = b) (hk2 : c ≠ 0 → k' = c ∧ y' = x) (hlen : len = t.size - b) (hbt : b ≤ t.size) (hn : n ≤ 2000) (hr : ∀ bd, X = .error bd → r = .error bd) (hb : Below W.heap.size W w') {v : Value} {T : VT} (hF : Fresh W.heap.size w'.heap.size w' v T) :
    VlE W t c0 x0 r (.returned (.tuple #[stV t b n k' y', v])) w' := by
  unfold VlE
  refine ⟨hb, ?_⟩
  rcases h with ⟨h1, h2, h3, -⟩ | ⟨h1, bd, h2, h3, h4⟩
  · obtain ⟨rfl, rfl⟩ := hk (h1.trans h0)
    rw [hr _ h3]
    exact ⟨y', n, 30, v, T, by rw [hlen, show t.size - (t.size - y') = y' by omega], hbt, hn, by decide, rfl, hF⟩
  · obtain ⟨rfl, rfl⟩ := hk2 h1
    rw [hr _ h2]
    exact ⟨b, n, k', v, T, by rw [h4], hbt, hn, h1, h3, hF⟩
theorem Going.wrong {α : Type} {W w' : World} {t : ByteArray} {c0 x0 c x b n : Nat} {X Y : Except Bad α} {P : Prop} {r : Except Bad (VT × List UInt8 × Nat)} (h : Going t c0 x0 X Y P c x) (h0 : c0 = 0) (hc : c ≠ 0) (hbt : b ≤ t.size) (hn : n ≤ 2000) (hr : ∀ bd, X = .error bd → r = .error bd) (hb : Below W.heap.size W w') {v : Value} {T : VT} (hF : Fresh W.heap.size w'.heap.size w' v T) :
    VlE W t c0 x0 r (.returned (.tuple #[stV t b n c x, v])) w' := by
  unfold VlE
  refine ⟨hb, ?_⟩
  rcases h with ⟨h1, h2, h3, -⟩ | ⟨h1, bd, h2, h3, h4⟩
  · omega
  · rw [hr _ h2]
    exact ⟨b, n, c, v, T, by rw [h4], hbt, hn, h1, h3, hF⟩
theorem Going.done {α : Type} {W w' : World} {t : ByteArray} {c0 x0 c x b n : Nat} {X : Except Bad α} {y : α} {T : VT} {R' : List UInt8} {P : Prop} {r : Except Bad (VT × List UInt8 × Nat)} (h : Going t c0 x0 X (.ok y) P c x) (hy : X = .ok y → P → r = .ok (T, R', n)) (hR : rest t b = R') (hbt : b ≤ t.size) (hn : n ≤ 2000) (hr : ∀ bd, X = .error bd → r = .error bd) (hb : Below W.heap.size W w') {v : Value} (hF : Fresh W.heap.size w'.heap.size w' v T) :
    VlE W t c0 x0 r (.returned (.tuple #[stV t b n c x, v])) w' := by
  unfold VlE
  refine ⟨hb, ?_⟩
  rcases h with ⟨h1, h2, h3, h4⟩ | ⟨h1, bd, h2, h3, h4⟩
  · rw [hy h3 h4, h1, h2]
    exact ⟨b, v, rfl, hbt, hR, hn, hF⟩
  · rw [hr _ h2]
    exact ⟨b, n, c, v, T, by rw [h4], hbt, hn, h1, h3, hF⟩
/-- One item more. -/
theorem Going.item {t : ByteArray} {c0 x0 k x e f b1 n1 b n : Nat} {X : Except Bad (List VT × List UInt8 × Nat)} {st : List VT} {T : VT} (hX : X = seqJ (itemJ (valD e)) 93 (f + 1) st (rest t b1) n1) (hP : st.length ≤ n1 ∧ (rest t b1).length < f + 1) (h : Going t c0 x0 (valD e (rest t b1) n1) (.ok (T, rest t b, n)) True k x) :
    Going t c0 x0 X (tailJ (itemJ (valD e)) 93 f (st ++ [T]) (rest t b) n) ((st ++ [T]).length ≤ n ∧ (rest t b).length ≤ f) k x := by
  rcases h with ⟨h1, h2, h3, -⟩ | ⟨h1, bd, h2, h3, h4⟩
  · refine .inl ⟨h1, h2, ?_, ?_⟩
    · rw [hX]
      exact seqJ_tail (by unfold itemJ; rw [h3])
    · have := valD_on e _ _ _ _ _ h3
      rw [List.length_append]
      simp
      omega
  · refine .inr ⟨h1, bd, ?_, h3, h4⟩
    rw [hX]
    exact seqJ_err (by unfold itemJ; rw [h2])
theorem QdE.going {W w' : World} {t : ByteArray} {n c0 x0 : Nat} {r : Except Bad (ByteArray × List UInt8)} {e : Ending} (h : QdE W t n c0 x0 r e w') : Below W.heap.size W w' ∧ ∃ (b k x : Nat) (s : ByteArray), e = .returned (.tuple #[stV t b n k x, .string s]) ∧ b ≤ t.size ∧ Going t c0 x0 r (.ok (s, rest t b)) True k x := by
  obtain ⟨hb, hr⟩ := h
  refine ⟨hb, ?_⟩
  cases r with
  | error bd =>
    obtain ⟨b, k, h1, h2, h3, h4⟩ := hr
    exact ⟨b, k, t.size - bd.2, ⟨#[]⟩, h1, h2, .inr ⟨h3, bd, rfl, h4, rfl⟩⟩
  | ok y =>
    obtain ⟨s, R'⟩ := y
    obtain ⟨b, h1, h2, h3⟩ := hr
    exact ⟨b, c0, x0, s, h1, h2, .inl ⟨rfl, rfl, by rw [h3], trivial⟩⟩
/-- Behind the colon. -/
def valTail (e f : Nat) (st : List (ByteArray × VT)) (s : ByteArray) : RdJ (List (ByteArray × VT)) := fun R n => match valD e R n with
  | .error b => .error b
  | .ok (T, R', n') => tailJ (pairJ (valD e)) 125 f (st ++ [(s, T)]) R' n'
/-- Behind the key. -/
def keyTail (e f : Nat) (st : List (ByteArray × VT)) (s : ByteArray) : RdJ (List (ByteArray × VT)) := fun R n =>
  if Lib.hasPrefix (skipB R) [58] then valTail e f st s ((skipB R).drop 1) n else .error (30, (skipB R).length)
theorem seqJ_pair {e f n : Nat} {st : List (ByteArray × VT)} {R R1 : List UInt8} {s : ByteArray} (h : keyJ (st.map Prod.fst) R = .ok (s, R1)) : seqJ (pairJ (valD e)) 125 (f + 1) st R n = keyTail e f st s R1 n := by
  unfold keyTail valTail
  cases hc : Lib.hasPrefix (skipB R1) [58] with
  | false => rw [if_neg (by decide)]; exact seqJ_err (pairJ_colon h hc)
  | true =>
    rw [if_pos rfl]
    cases hv : valD e ((skipB R1).drop 1) n with
    | error b => exact seqJ_err (pairJ_val h hc hv)
    | ok y =>
      obtain ⟨T, R', n'⟩ := y
      exact seqJ_tail (pairJ_ok h hc hv)
/-- The document's value, behind an error or not. -/
theorem val_both {e b n k x f : Nat} {c0 x0 : Nat} {dep : Int} {t : ByteArray} {P : Prop} (hb : b ≤ t.size) (hs : t.size ≤ 65536) (hn : n ≤ 2000) (h0 : c0 = 0)
    (hv : ∀ (W : World) (a n : Nat), a ≤ t.size → n ≤ 2000 → Calls Tryz.prog 25 #[stV t a n c0 x0, .int .i64 dep] W (VlE W t c0 x0 (valD e (rest t a) n))) {XX : Except Bad (List (ByteArray × VT) × List UInt8 × Nat)} {st : List (ByteArray × VT)} {s : ByteArray}
    (hG : Going t c0 x0 XX (valTail e f st s (rest t b) n) P k x) (W : World) :
    Calls Tryz.prog 25 #[stV t b n k x, .int .i64 dep] W (fun en w' => Below W.heap.size W w' ∧ ∃ (b' n' k' x' : Nat) (v : Value) (T : VT), en = .returned (.tuple #[stV t b' n' k' x', v]) ∧ Fresh W.heap.size w'.heap.size w' v T ∧ b' ≤ t.size ∧ n' ≤ 2000 ∧ Going t c0 x0 XX (tailJ (pairJ (valD e)) 125 f (st ++ [(s, T)]) (rest t b') n') (P ∧ n + 1 ≤ n' ∧ (rest t b').length ≤ (rest t b).length) k' x') := by
  rcases hG with ⟨h1, h2, h3, h4⟩ | ⟨h1, bd, h2, h3, h4⟩
  · rw [h1, h2]
    refine (hv W b n hb hn).mono ?_
    intro en w' hv8
    obtain ⟨hb8, b8, n8, k8, x8, v8, T8, rfl, hF8, hbt8, hn8, hG8⟩ := hv8.going
    refine ⟨hb8, b8, n8, k8, x8, v8, T8, rfl, hF8, hbt8, hn8, ?_⟩
    rcases hG8 with ⟨g1, g2, g3, -⟩ | ⟨g1, bd, g2, g3, g4⟩
    · have ho := valD_on e _ _ _ _ _ g3
      exact .inl ⟨g1, g2, by rw [h3]; unfold valTail; rw [g3], h4, ho.2, ho.1⟩
    · exact .inr ⟨g1, bd, by rw [h3]; unfold valTail; rw [g2], g3, g4⟩
  · refine (rvalue_bad h1 hb hs W).mono ?_
    rintro en w' ⟨⟨b', rfl, hb'⟩, hB⟩
    exact ⟨hB, b', n, k, x, _, _, rfl, nil_is _ _ _, hb', hn, .inr ⟨h1, bd, h2, h3, h4⟩⟩
end Go.Proofs.YtnmfoedfllmclaaGreatDoor
