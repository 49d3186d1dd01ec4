/- Rows of items, whatever they are; an object that grows in new memory · Keys dropped and put, as lists -/
import Derived.Test.YtcbcjeabpjjhbaaGreatDoorJb07
import Derived.Test.YtcbcjeabpjjhbaaGreatDoorJb08
namespace Go.Proofs.YtcbcjeabpjjhbaaGreatDoor
open Go.RowKit Go.Sort Go.Shelf
set_option linter.unusedVariables false

/-- An item: its cells, and the tree that it is. -/
structure It where
  k : Int
  b : Bool
  t : ByteArray
  x : Value
  y : Value
  T : VT
def It.cells (e : It) : List Value := [.int .i64 e.k, .bool e.b, .string e.t, e.x, e.y]
def It.val (e : It) : Value := .agg #[.int .i64 e.k, .bool e.b, .string e.t, e.x, e.y]
theorem It.cells_length (e : It) : e.cells.length = 5 := rfl
def It.Ok (B : Nat) (W : World) (e : It) : Prop := Is B W e.val e.T
/-- A list of items that stand there. -/
def ItemsAt (B : Nat) (W : World) (v : Value) (ys : List It) : Prop := ∃ ad cap, v = .slice ad ys.length cap ∧ ys.length ≤ cap ∧ ys.length ≤ 140737488355328 ∧ (0 < ys.length → ∃ g o, ad = some ⟨g, o, none⟩ ∧ g < B ∧ ∀ j (h : j < ys.length), Five W g (o + j * 5) (.int .i64 ys[j].k) (.bool ys[j].b) (.string ys[j].t) ys[j].x ys[j].y) ∧ ∀ e ∈ ys, e.Ok B W
theorem ItemsAt.below {B : Nat} {W W' : World} {v : Value} {ys : List It} (h : ItemsAt B W v ys) (hb : Below B W W') : ItemsAt B W' v ys := by
  obtain ⟨ad, cap, h1, h2, h3, h4, h5⟩ := h
  refine ⟨ad, cap, h1, h2, h3, fun hp => ?_, fun e he => (h5 e he).later hb⟩
  obtain ⟨g, o, h6, h7, h8⟩ := h4 hp
  exact ⟨g, o, h6, h7, fun j hj => (h8 j hj).below h7 hb⟩
theorem ItemsAt.mono {B B' : Nat} {W : World} {v : Value} {ys : List It} (h : ItemsAt B W v ys) (hB : B ≤ B') : ItemsAt B' W v ys := by
  obtain ⟨ad, cap, h1, h2, h3, h4, h5⟩ := h
  refine ⟨ad, cap, h1, h2, h3, fun hp => ?_, fun e he => (h5 e he).wide hB⟩
  obtain ⟨g, o, h6, h7, h8⟩ := h4 hp
  exact ⟨g, o, h6, by omega, h8⟩
theorem Is.parts {B : Nat} {W : World} {v : Value} {k : Int} {b : Bool} {t : ByteArray} {its : List VT} {ks : List ByteArray} (h : Is B W v (.node k b t its ks)) :
    ∃ kv iv ys, v = .agg #[.int .i64 k, .bool b, .string t, iv, kv] ∧ StrsAt B W kv ks ∧ ItemsAt B W iv ys ∧ ys.map It.T = its := by
  cases h with
  | mk k b t its ks ad cap kv g o ik ib it ii iv hk hc hn ha hcell hrec =>
    have hl : ((List.finRange its.length).map fun (j : Fin its.length) => It.mk (ik j) (ib j) (it j) (ii j) (iv j) its[j]).length = its.length := by simp
    refine ⟨kv, _, (List.finRange its.length).map fun (j : Fin its.length) => It.mk (ik j) (ib j) (it j) (ii j) (iv j) its[j], rfl, hk, ⟨ad, cap, by rw [hl], by rw [hl]; exact hc, by rw [hl]; exact hn, fun hp => ?_, fun e he => ?_⟩, ?_⟩
    · rw [hl] at hp
      refine ⟨g, o, (ha hp).1, (ha hp).2, fun j hj => ?_⟩
      rw [hl] at hj
      have := hcell j hj
      simpa using this
    · obtain ⟨j, -, rfl⟩ := List.mem_map.1 he
      exact hrec j j.2
    · rw [List.map_map]
      apply List.ext_getElem
      · simp
      · intro i h1 h2
        simp
theorem Is.of_parts {B : Nat} {W : World} {k : Int} {b : Bool} {t : ByteArray} {ys : List It} {ks : List ByteArray} {kv iv : Value} (hk : StrsAt B W kv ks) (hi : ItemsAt B W iv ys) : Is B W (.agg #[.int .i64 k, .bool b, .string t, iv, kv]) (.node k b t (ys.map It.T) ks) := by
  obtain ⟨ad, cap, rfl, h2, h3, h4, h5⟩ := hi
  have hl : (ys.map It.T).length = ys.length := by simp
  rcases Nat.eq_zero_or_pos ys.length with h0 | h0
  · obtain rfl : ys = [] := List.length_eq_zero_iff.1 h0
    exact Is.mk k b t [] ks ad cap kv 0 0 (fun _ => 0) (fun _ => false) (fun _ => ⟨#[]⟩) (fun _ => undef) (fun _ => undef) hk (by simp) (by simp) (fun h => absurd h (by simp)) (fun j h => absurd h (by simp)) (fun j h => absurd h (by simp))
  · obtain ⟨g, o, rfl, h7, h8⟩ := h4 h0
    have e0 : It := ys[0]
    have hm := Is.mk (B := B) (W := W) k b t (ys.map It.T) ks (some ⟨g, o, none⟩) cap kv g o (fun j => (ys.getD j e0).k) (fun j => (ys.getD j e0).b) (fun j => (ys.getD j e0).t) (fun j => (ys.getD j e0).x) (fun j => (ys.getD j e0).y) hk (by rw [hl]; exact h2) (by rw [hl]; exact h3) (fun _ => ⟨rfl, h7⟩)
      (fun j hj => by
        rw [hl] at hj
        have := h8 j hj
        rw [show ys.getD j e0 = ys[j] by simp [List.getD, hj]]
        exact this)
      (fun j hj => by
        have hj' := hj
        rw [hl] at hj'
        rw [show ys.getD j e0 = ys[j] by simp [List.getD, hj'], List.getElem_map]
        exact h5 _ (List.getElem_mem hj'))
    rw [hl] at hm
    exact hm
theorem It.Ok.shape {B : Nat} {W : World} {e : It} (h : e.Ok B W) : ∃ ai ni ci ak nk ck, e.x = .slice ai ni ci ∧ e.y = .slice ak nk ck := by
  obtain ⟨k1, b1, t1, ai, ni, ci, ak, nk2, ck2, esh⟩ := Is.shape h
  unfold It.val at esh
  simp only [Value.agg.injEq, Array.mk.injEq, List.cons.injEq, and_true] at esh
  exact ⟨_, _, _, _, _, _, esh.2.2.2.1, esh.2.2.2.2⟩
theorem flat5_at {xs : List It} {j i : Nat} (hj : j < xs.length) (hi : i < 5) : (xs.flatMap It.cells)[j * 5 + i]? = (xs[j].cells)[i]? := by
  induction xs generalizing j with
  | nil => simp at hj
  | cons x l ih =>
    cases j with
    | zero =>
      rw [List.flatMap_cons, Nat.zero_mul, Nat.zero_add, List.getElem?_append_left (by rw [It.cells_length]; exact hi)]
      rfl
    | succ j =>
      have hjl : j < l.length := by simpa using hj
      rw [List.flatMap_cons, show (j + 1) * 5 + i = 5 + (j * 5 + i) by omega, List.getElem?_append_right (by rw [It.cells_length]; omega), It.cells_length, Nat.add_sub_cancel_left, ih hjl]
      rfl
theorem flat5_length (xs : List It) : (xs.flatMap It.cells).length = xs.length * 5 := by
  induction xs with
  | nil => rfl
  | cons x l ih => rw [List.flatMap_cons, List.length_append, ih, It.cells_length, List.length_cons]; omega
/-- A row in new memory is a list of items. -/
theorem items_of_row {B : Nat} {W : World} {v : Value} {xs : List It} (h : W.ownsRow B 26 5 v xs.length (xs.flatMap It.cells)) (hn : xs.length ≤ 140737488355328) (hok : ∀ e ∈ xs, e.Ok W.heap.size W) : ItemsAt W.heap.size W v xs := by
  obtain ⟨hx, ⟨rfl, h0⟩ | ⟨g, cap, cur, rfl, hg, hblk, hnc, hcm, hcs, htk⟩⟩ := h
  · have : xs = [] := List.length_eq_zero_iff.1 h0
    subst this
    exact ⟨none, 0, rfl, by simp, by simp, fun h => absurd h (by simp), fun e he => by cases he⟩
  · refine ⟨_, cap, rfl, hnc, hn, fun _ => ⟨g, 0, rfl, (Array.getElem?_eq_some_iff.1 hblk).1, fun j hj => ?_⟩, hok⟩
    have hc : ∀ i, i < 5 → W.cell? ⟨g, 0 + j * 5 + i, none⟩ = (xs[j].cells)[i]? := fun i hi => by
      have h4 : (cur.toList.take (xs.length * 5))[j * 5 + i]? = (xs.flatMap It.cells)[j * 5 + i]? := by rw [htk]
      rw [List.getElem?_take_of_lt (by omega), flat5_at hj hi, Array.getElem?_toList] at h4
      rw [Nat.zero_add]
      simp only [World.cell?, hblk]
      first | exact h4 | simpa using h4
    exact ⟨hc 0 (by omega), hc 1 (by omega), hc 2 (by omega), hc 3 (by omega), hc 4 (by omega)⟩

/-- Two rows in new memory. -/
def Grown (lo : Nat) (W : World) (kv iv : Value) (kk : List ByteArray) (xx : List It) : Prop := W.ownsRow lo 9 1 kv kk.length (kk.map Value.string) ∧ W.ownsRow lo 26 5 iv xx.length (xx.flatMap It.cells)
theorem Grown.is {lo B : Nat} {w W : World} {kv iv : Value} {kk : List ByteArray} {xx : List It} {k : Int} {b : Bool} {t : ByteArray} (h : Grown lo W kv iv kk xx) (hb : Below B w W) (hB : B ≤ W.heap.size) (hk : kk.length ≤ 140737488355328) (hx : xx.length ≤ 140737488355328) (hok : ∀ e ∈ xx, e.Ok B w) : Is W.heap.size W (.agg #[.int .i64 k, .bool b, .string t, iv, kv]) (.node k b t (xx.map It.T) kk) :=
  Is.of_parts (strs_of_row h.1 hk) (items_of_row h.2 hx (fun e he => ((hok e he).later hb).wide hB))

/-- An object that grows: R the result's block, O the object's, L the last block that stands fast; F what stands fast. -/
structure GrowAt (w wr : World) (R O L : Nat) (F : Addr → Value → Prop) (kk : List ByteArray) (xx : List It) (kv iv : Value) : Prop where
  res : Blk wr R nil5 26
  box : Blk wr O #[.int .i64 6, .bool false, .string ⟨#[]⟩, iv, kv] 26
  keys : wr.ownsRow w.heap.size 9 1 kv kk.length (kk.map Value.string)
  items : wr.ownsRow w.heap.size 26 5 iv xx.length (xx.flatMap It.cells)
  fix : ∀ a u, F a u → wr.cell? a = some u
  far : ∀ a u, F a u → a.block ≤ L ∧ a.block ≠ O
  below : Below w.heap.size w wr
  kfar : ∀ g, kv.ownBlock = some g → L < g
  ifar : ∀ g, iv.ownBlock = some g → L < g
  apart : ∀ g, kv.ownBlock = some g → iv.ownBlock ≠ some g
  size : L < wr.heap.size
  ranks : w.heap.size ≤ R ∧ R ≤ L ∧ w.heap.size ≤ O ∧ O ≤ L ∧ R ≠ O

section
variable {w wr : World} {R O L : Nat} {F : Addr → Value → Prop} {kk : List ByteArray} {xx : List It} {kv iv : Value}
theorem GrowAt.drew (h : GrowAt w wr R O L F kk xx kv iv) : GrowAt w wr.drew R O L F kk xx kv iv :=
  ⟨h.res, h.box, h.keys, h.items, h.fix, h.far, h.below.drew, h.kfar, h.ifar, h.apart, h.size, h.ranks⟩
theorem GrowAt.drewN (h : GrowAt w wr R O L F kk xx kv iv) (n : Nat) : GrowAt w (wr.drewN n) R O L F kk xx kv iv :=
  ⟨h.res, h.box, h.keys, h.items, h.fix, h.far, ⟨h.below.os, h.below.tape, h.below.output, h.below.size, h.below.block⟩, h.kfar, h.ifar, h.apart, h.size, h.ranks⟩
theorem GrowAt.later {W : World} (h : GrowAt w wr R O L F kk xx kv iv) (hb : Below wr.heap.size wr W) : GrowAt w W R O L F kk xx kv iv :=
  ⟨h.res.below hb, h.box.below hb, row_below h.keys hb, row_below h.items hb, fun a u hf => (hb.cell (Nat.lt_of_le_of_lt (h.far a u hf).1 h.size)).trans (h.fix a u hf), h.far, h.below.trans (hb.mono h.below.size), h.kfar, h.ifar, h.apart, Nat.lt_of_lt_of_le h.size hb.size, h.ranks⟩
/-- Behind a key's append and store. -/
theorem GrowAt.key {w3 : World} {g2 cap2 : Nat} {t : ByteArray} {t' : TypeId} (h : GrowAt w wr R O L F kk xx kv iv)
    (hown : w3.ownsRow w.heap.size 9 1 (.slice (some ⟨g2, 0, none⟩) (kk.length + 1) cap2) (kk.length + 1) (kk.map Value.string ++ [.string t])) (hg : (wr.alloc (.cells #[.string t] t')).grownBy w3 kv.ownBlock) (hat : kv.ownBlock = some g2 ∨ g2 = (wr.alloc (.cells #[.string t] t')).heap.size) (hlt : g2 < w3.heap.size) :
    GrowAt w (w3.setCell ⟨O, 4, none⟩ (.slice (some ⟨g2, 0, none⟩) (kk.length + 1) cap2)) R O L F (kk ++ [t]) xx (.slice (some ⟨g2, 0, none⟩) (kk.length + 1) cap2) iv := by
  have hr := h.ranks
  have hs := h.size
  have hsz : (wr.alloc (.cells #[.string t] t')).heap.size = wr.heap.size + 1 := by simp
  have hbl := h.below.size
  have hal : Below wr.heap.size wr (wr.alloc (.cells #[.string t] t')) := below_new _ _
  have hD2 : L < g2 := by
    rcases hat with h1 | h1
    · exact h.kfar _ h1
    · omega
  have hi2 : iv.ownBlock ≠ some g2 := by
    rcases hat with h1 | h1
    · exact h.apart _ h1
    · intro e
      have := World.ownsRow.lt h.items g2 e
      omega
  have hnk : ∀ g, iv.ownBlock = some g → some g ≠ kv.ownBlock := fun g e e2 => h.apart g e2.symm e
  have hO : Blk w3 O #[.int .i64 6, .bool false, .string ⟨#[]⟩, iv, kv] 26 := (h.box.below hal).grows hg (ne_row h.kfar (by omega))
  have hR : Blk w3 R nil5 26 := (h.res.below hal).grows hg (ne_row h.kfar (by omega))
  have hp : ∀ a u, F a u → w3.cell? a = some u := fun a u hf => by
    have hfa := h.far a u hf
    exact (hg.cell_far a (by rw [hsz]; omega) (ne_row h.kfar hfa.1)).trans ((hal.cell (by omega)).trans (h.fix a u hf))
  have hb3 : Below w.heap.size w w3 := below_grows (h.below.alloc hbl _) hg (by rw [hsz]; omega) (fun g e => by have := h.kfar g e; omega)
  have hbx := hO.set 4 (.slice (some ⟨g2, 0, none⟩) (kk.length + 1) cap2)
  refine ⟨hR.other (p := ⟨O, 4, none⟩) (by show R ≠ O; omega) _, by simpa using hbx, ?_, ?_, fun a u hf => ?_, h.far, hb3.setCell (p := ⟨O, 4, none⟩) (by show _ ≤ O; omega) _, fun g e => ?_, h.ifar, fun g e => ?_, ?_, hr⟩
  · rw [List.length_append, List.map_append]
    exact row_set hown _ _ (by intro e; cases e; omega)
  · exact row_set (row_grows (row_below h.items hal) hg hnk) _ _ (by intro e; have := h.ifar _ e; simp at this; omega)
  · rw [World.cell?_setCell_other _ _ _ _ (by intro e; subst e; exact (h.far _ u hf).2 rfl)]
    exact hp a u hf
  · cases e; exact hD2
  · cases e; exact hi2
  · simp; omega
/-- Behind an item's append and store. -/
theorem GrowAt.item {w3 : World} {g2 cap2 : Nat} {e : It} {a' : Array Value} {t' : TypeId} (h : GrowAt w wr R O L F kk xx kv iv)
    (hown : w3.ownsRow w.heap.size 26 5 (.slice (some ⟨g2, 0, none⟩) (xx.length + 1) cap2) (xx.length + 1) (xx.flatMap It.cells ++ e.cells)) (hg : (wr.alloc (.cells a' t')).grownBy w3 iv.ownBlock) (hat : iv.ownBlock = some g2 ∨ g2 = (wr.alloc (.cells a' t')).heap.size) (hlt : g2 < w3.heap.size) :
    GrowAt w (w3.setCell ⟨O, 3, none⟩ (.slice (some ⟨g2, 0, none⟩) (xx.length + 1) cap2)) R O L F kk (xx ++ [e]) kv (.slice (some ⟨g2, 0, none⟩) (xx.length + 1) cap2) := by
  have hr := h.ranks
  have hs := h.size
  have hsz : (wr.alloc (.cells a' t')).heap.size = wr.heap.size + 1 := by simp
  have hbl := h.below.size
  have hal : Below wr.heap.size wr (wr.alloc (.cells a' t')) := below_new _ _
  have hD2 : L < g2 := by
    rcases hat with h1 | h1
    · exact h.ifar _ h1
    · omega
  have hi2 : kv.ownBlock ≠ some g2 := by
    rcases hat with h1 | h1
    · exact fun e => h.apart _ e h1
    · intro e
      have := World.ownsRow.lt h.keys g2 e
      omega
  have hnk : ∀ g, kv.ownBlock = some g → some g ≠ iv.ownBlock := fun g e e2 => h.apart g e e2.symm
  have hO : Blk w3 O #[.int .i64 6, .bool false, .string ⟨#[]⟩, iv, kv] 26 := (h.box.below hal).grows hg (ne_row h.ifar (by omega))
  have hR : Blk w3 R nil5 26 := (h.res.below hal).grows hg (ne_row h.ifar (by omega))
  have hp : ∀ a u, F a u → w3.cell? a = some u := fun a u hf => by
    have hfa := h.far a u hf
    exact (hg.cell_far a (by rw [hsz]; omega) (ne_row h.ifar hfa.1)).trans ((hal.cell (by omega)).trans (h.fix a u hf))
  have hb3 : Below w.heap.size w w3 := below_grows (h.below.alloc hbl _) hg (by rw [hsz]; omega) (fun g e => by have := h.ifar g e; omega)
  have hbx := hO.set 3 (.slice (some ⟨g2, 0, none⟩) (xx.length + 1) cap2)
  refine ⟨hR.other (p := ⟨O, 3, none⟩) (by show R ≠ O; omega) _, by simpa using hbx, ?_, ?_, fun a u hf => ?_, h.far, hb3.setCell (p := ⟨O, 3, none⟩) (by show _ ≤ O; omega) _, h.kfar, fun g e => ?_, fun g e e2 => ?_, ?_, hr⟩
  · exact row_set (row_grows (row_below h.keys hal) hg hnk) _ _ (by intro e; have := h.kfar _ e; simp at this; omega)
  · rw [List.length_append, List.flatMap_append]
    simp only [List.flatMap_cons, List.flatMap_nil, List.append_nil]
    exact row_set hown _ _ (by intro e; cases e; omega)
  · rw [World.cell?_setCell_other _ _ _ _ (by intro e; subst e; exact (h.far _ u hf).2 rfl)]
    exact hp a u hf
  · cases e; exact hD2
  · cases e2; exact hi2 e
  · simp; omega
end
end Go.Proofs.YtcbcjeabpjjhbaaGreatDoor
namespace Go.Proofs.YtcbcjeabpjjhbaaGreatDoor
open Go.RowKit
set_option linter.unusedVariables false

def dropK (key : ByteArray) : List ByteArray → List ByteArray
  | [] => []
  | a :: l => if (a.toList == key.toList) = true then dropK key l else a :: dropK key l
def dropI {α : Type} (key : ByteArray) : List ByteArray → List α → List α
  | a :: l, y :: m => if (a.toList == key.toList) = true then dropI key l m else y :: dropI key l m
  | _, _ => []
def insK (key : ByteArray) : List ByteArray → List ByteArray
  | [] => [key]
  | a :: l => if bLt key a = true then key :: a :: l else a :: insK key l
def insI {α : Type} (key : ByteArray) (x : α) : List ByteArray → List α → List α
  | a :: l, y :: m => if bLt key a = true then x :: y :: m else y :: insI key x l m
  | _, _ => [x]
theorem dropK_step {key : ByteArray} {ks : List ByteArray} {j : Nat} (h : j < ks.length) : dropK key (ks.drop j) = if (ks[j].toList == key.toList) = true then dropK key (ks.drop (j + 1)) else ks[j] :: dropK key (ks.drop (j + 1)) := by
  rw [List.drop_eq_getElem_cons h]
  conv => lhs; unfold dropK
theorem dropI_step {α : Type} {key : ByteArray} {ks : List ByteArray} {ys : List α} {j : Nat} (h : j < ks.length) (h' : j < ys.length) : dropI key (ks.drop j) (ys.drop j) = if (ks[j].toList == key.toList) = true then dropI key (ks.drop (j + 1)) (ys.drop (j + 1)) else ys[j] :: dropI key (ks.drop (j + 1)) (ys.drop (j + 1)) := by
  rw [List.drop_eq_getElem_cons h, List.drop_eq_getElem_cons h']
  conv => lhs; unfold dropI
theorem insK_step {key : ByteArray} {ks : List ByteArray} {j : Nat} (h : j < ks.length) : insK key (ks.drop j) = if bLt key ks[j] = true then key :: ks.drop j else ks[j] :: insK key (ks.drop (j + 1)) := by
  conv => lhs; rw [List.drop_eq_getElem_cons h]; unfold insK
  rw [← List.drop_eq_getElem_cons h]
theorem insI_step {α : Type} {key : ByteArray} {x : α} {ks : List ByteArray} {ys : List α} {j : Nat} (h : j < ks.length) (h' : j < ys.length) : insI key x (ks.drop j) (ys.drop j) = if bLt key ks[j] = true then x :: ys.drop j else ys[j] :: insI key x (ks.drop (j + 1)) (ys.drop (j + 1)) := by
  conv => lhs; rw [List.drop_eq_getElem_cons h, List.drop_eq_getElem_cons h']; unfold insI
  rw [← List.drop_eq_getElem_cons h']
theorem dropK_le (key : ByteArray) : ∀ ks : List ByteArray, (dropK key ks).length ≤ ks.length
  | [] => by simp [dropK]
  | a :: l => by have := dropK_le key l; unfold dropK; split <;> simp <;> omega
theorem dropI_length {α : Type} (key : ByteArray) : ∀ (ks : List ByteArray) (ys : List α), ks.length = ys.length → (dropI key ks ys).length = (dropK key ks).length
  | [], [], _ => by simp [dropI, dropK]
  | [], _ :: _, h => by simp at h
  | _ :: _, [], h => by simp at h
  | a :: l, y :: m, h => by
    have := dropI_length key l m (by simpa using h)
    unfold dropI dropK
    split <;> simp [this]
theorem insK_length (key : ByteArray) : ∀ ks : List ByteArray, (insK key ks).length = ks.length + 1
  | [] => by simp [insK]
  | a :: l => by have := insK_length key l; unfold insK; split <;> simp [this]
theorem insI_length {α : Type} (key : ByteArray) (x : α) : ∀ (ks : List ByteArray) (ys : List α), ks.length = ys.length → (insI key x ks ys).length = (insK key ks).length
  | [], [], _ => by simp [insI, insK]
  | [], _ :: _, h => by simp at h
  | _ :: _, [], h => by simp at h
  | a :: l, y :: m, h => by
    have h' : l.length = m.length := by simpa using h
    have := insI_length key x l m h'
    unfold insI insK
    split <;> simp [this, h']
theorem dropI_map {α β : Type} (f : α → β) (key : ByteArray) : ∀ (ks : List ByteArray) (ys : List α), (dropI key ks ys).map f = dropI key ks (ys.map f)
  | [], _ => by simp [dropI]
  | _ :: _, [] => by simp [dropI]
  | a :: l, y :: m => by
    have := dropI_map f key l m
    simp only [List.map_cons]
    unfold dropI
    split <;> simp [this]
theorem insI_map {α β : Type} (f : α → β) (key : ByteArray) (x : α) : ∀ (ks : List ByteArray) (ys : List α), (insI key x ks ys).map f = insI key (f x) ks (ys.map f)
  | [], _ => by simp [insI]
  | _ :: _, [] => by simp [insI]
  | a :: l, y :: m => by
    have := insI_map f key x l m
    simp only [List.map_cons]
    unfold insI
    split <;> simp [this]
theorem dropI_sub {α : Type} (key : ByteArray) : ∀ (ks : List ByteArray) (ys : List α) (e : α), e ∈ dropI key ks ys → e ∈ ys
  | [], _, _, h => by simp [dropI] at h
  | _ :: _, [], _, h => by simp [dropI] at h
  | a :: l, y :: m, e, h => by
    unfold dropI at h
    split at h
    · exact List.mem_cons_of_mem _ (dropI_sub key l m e h)
    · rcases List.mem_cons.1 h with rfl | h
      · exact List.mem_cons_self
      · exact List.mem_cons_of_mem _ (dropI_sub key l m e h)
theorem insI_sub {α : Type} (key : ByteArray) (x : α) : ∀ (ks : List ByteArray) (ys : List α) (e : α), e ∈ insI key x ks ys → e = x ∨ e ∈ ys
  | [], _, _, h => by simp [insI] at h; exact .inl h
  | _ :: _, [], _, h => by simp [insI] at h; exact .inl h
  | a :: l, y :: m, e, h => by
    unfold insI at h
    split at h
    · exact List.mem_cons.1 h
    · rcases List.mem_cons.1 h with rfl | h
      · exact .inr List.mem_cons_self
      · rcases insI_sub key x l m e h with h | h
        · exact .inl h
        · exact .inr (List.mem_cons_of_mem _ h)
end Go.Proofs.YtcbcjeabpjjhbaaGreatDoor
