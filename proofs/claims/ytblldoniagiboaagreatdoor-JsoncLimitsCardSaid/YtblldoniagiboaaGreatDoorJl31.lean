/- A row whose last element is written; a list's state, ahead of that and behind it -/
import Derived.Test.YtblldoniagiboaaGreatDoorJl14
import Derived.Test.YtblldoniagiboaaGreatDoorJl21
import Derived.Test.YtblldoniagiboaaGreatDoorJl28
import Derived.Test.YtblldoniagiboaaGreatDoorJl29
import Derived.Test.YtblldoniagiboaaGreatDoorJl30
namespace Go.Proofs.YtblldoniagiboaaGreatDoor
open Go.RowKit Go.Shelf Go.Sort
set_option linter.unusedVariables false

/-- How value ends. -/
def VEnds (W : World) (P : Nat) (t : ByteArray) (r : Except Bad (VT × List UInt8 × Nat)) (e : Ending) (w' : World) : Prop :=
  match r with
  | .ok (T, R', n') => ∃ v a', e = .returned v ∧ Fresh W.heap.size w'.heap.size w' v T ∧ smallT T ∧ Went W w' P t a' n' ∧ rest t a' = R'
  | .error b => Thrown W P t b e w'
abbrev nilV : Value := .slice none 0 0
def zero5 : List Value := [.int .i64 0, .bool false, .string ⟨#[]⟩, .slice none 0 0, .slice none 0 0]
theorem infoV5 : (Tryz.prog.info? 26).map (fun i => (i.zero, i.size, i.bytes)) = some (some (.agg #[.int .i64 0, .bool false, .string ⟨#[]⟩, .slice none 0 0, .slice none 0 0]), 5, 80) := by kernel_rfl
theorem row_last {X : World} {B g k cap E : Nat} {xs ys : List Value} (h : X.ownsRow B E 5 (.slice (some ⟨g, 0, none⟩) (k + 1) cap) (k + 1) (xs ++ ys)) (hx : xs.length = k * 5) (c0 c1 c2 c3 c4 : Value) :
    (set5 X g (k * 5) c0 c1 c2 c3 c4).ownsRow B E 5 (.slice (some ⟨g, 0, none⟩) (k + 1) cap) (k + 1) (xs ++ [c0, c1, c2, c3, c4]) := by
  obtain ⟨hl, h1 | ⟨g', cap', cur, h1, h2, h3, h4, h5, h6, h7⟩⟩ := h
  · omega
  · cases h1
    refine ⟨by simp [hx]; omega, .inr ⟨g, cap, put5 cur (k * 5) c0 c1 c2 c3 c4, rfl, h2, Blk.put5 h3 (k * 5) c0 c1 c2 c3 c4, h4, h5, by rw [put5_size]; exact h6, ?_⟩⟩
    have hsz : (k + 1) * 5 ≤ cur.size := by rw [h6]; exact Nat.mul_le_mul_right _ h4
    have hat := put5_at (cur := cur) (i := k * 5) (a0 := c0) (a1 := c1) (a2 := c2) (a3 := c3) (a4 := c4) (by omega)
    apply List.ext_getElem?
    intro q
    rcases Nat.lt_or_ge q (k * 5) with hq | hq
    · rw [List.getElem?_take_of_lt (by omega), List.getElem?_append_left (by omega), Array.getElem?_toList, put5_far (.inl hq)]
      have h8 : (cur.toList.take ((k + 1) * 5))[q]? = (xs ++ ys)[q]? := by rw [h7]
      rw [List.getElem?_take_of_lt (by omega), List.getElem?_append_left (by omega), Array.getElem?_toList] at h8
      exact h8
    · rcases Nat.lt_or_ge q ((k + 1) * 5) with hq2 | hq2
      · rw [List.getElem?_take_of_lt hq2, List.getElem?_append_right (by omega), Array.getElem?_toList, hx]
        rcases (show q = k * 5 ∨ q = k * 5 + 1 ∨ q = k * 5 + 2 ∨ q = k * 5 + 3 ∨ q = k * 5 + 4 by omega) with rfl | rfl | rfl | rfl | rfl
        · rw [hat.1, Nat.sub_self]; rfl
        · rw [hat.2.1, Nat.add_sub_cancel_left]; rfl
        · rw [hat.2.2.1, Nat.add_sub_cancel_left]; rfl
        · rw [hat.2.2.2.1, Nat.add_sub_cancel_left]; rfl
        · rw [hat.2.2.2.2, Nat.add_sub_cancel_left]; rfl
      · rw [List.getElem?_eq_none (by simp; omega), List.getElem?_eq_none (by simp [hx]; omega)]
theorem set_comm (w : World) {p q : Addr} (h : p.block ≠ q.block) (u v : Value) : (w.setCell p u).setCell q v = (w.setCell q v).setCell p u := by
  have : ((w.heap.modify p.block fun o => match o with
      | .cells c elem frozen => .cells (if p.spot.isSome then c else c.setIfInBounds p.off u) elem frozen
      | o => o).modify q.block fun o => match o with
      | .cells c elem frozen => .cells (if q.spot.isSome then c else c.setIfInBounds q.off v) elem frozen
      | o => o) = ((w.heap.modify q.block fun o => match o with
      | .cells c elem frozen => .cells (if q.spot.isSome then c else c.setIfInBounds q.off v) elem frozen
      | o => o).modify p.block fun o => match o with
      | .cells c elem frozen => .cells (if p.spot.isSome then c else c.setIfInBounds p.off u) elem frozen
      | o => o) := by
    apply Array.ext_getElem?
    intro i
    simp only [Array.getElem?_modify]
    by_cases h1 : p.block = i
    · have h2 : ¬ q.block = i := fun e => h (h1.trans e.symm)
      simp [h1, h2]
    · by_cases h2 : q.block = i
      · simp [h1, h2]
      · simp [h1, h2]
  unfold World.setCell
  simp only
  congr 1
theorem set5_comm (w : World) {g i B o : Nat} (h : B ≠ g) (u c0 c1 c2 c3 c4 : Value) : set5 (w.setCell ⟨B, o, none⟩ u) g i c0 c1 c2 c3 c4 = (set5 w g i c0 c1 c2 c3 c4).setCell ⟨B, o, none⟩ u := by
  unfold set5
  rw [set_comm w (p := ⟨B, o, none⟩) (q := ⟨g, i, none⟩) h, set_comm _ (p := ⟨B, o, none⟩) (q := ⟨g, i + 1, none⟩) h, set_comm _ (p := ⟨B, o, none⟩) (q := ⟨g, i + 2, none⟩) h, set_comm _ (p := ⟨B, o, none⟩) (q := ⟨g, i + 3, none⟩) h, set_comm _ (p := ⟨B, o, none⟩) (q := ⟨g, i + 4, none⟩) h]
theorem held_set5 {W : World} {g i A B : Nat} {p q : Value} (h : W.cell? ⟨A, 0, none⟩ = some p ∧ W.cell? ⟨B, 0, none⟩ = some q) (hA : ¬ A = g) (hB : ¬ B = g) (c0 c1 c2 c3 c4 : Value) : (((((W.setCell ⟨g, i, none⟩ c0).setCell ⟨g, i + 1, none⟩ c1).setCell ⟨g, i + 2, none⟩ c2).setCell ⟨g, i + 3, none⟩ c3).setCell ⟨g, i + 4, none⟩ c4).cell? ⟨A, 0, none⟩ = some p ∧ (((((W.setCell ⟨g, i, none⟩ c0).setCell ⟨g, i + 1, none⟩ c1).setCell ⟨g, i + 2, none⟩ c2).setCell ⟨g, i + 3, none⟩ c3).setCell ⟨g, i + 4, none⟩ c4).cell? ⟨B, 0, none⟩ = some q :=
  ⟨(cell_same (set5_other W g i c0 c1 c2 c3 c4 hA) 0).trans h.1, (cell_same (set5_other W g i c0 c1 c2 c3 c4 hB) 0).trans h.2⟩
theorem held_set {W : World} {A B D : Nat} {p q u : Value} (h : W.cell? ⟨A, 0, none⟩ = some p ∧ W.cell? ⟨B, 0, none⟩ = some q) (hA : ¬ A = D) (hB : ¬ B = D) : (W.setCell ⟨D, 0, none⟩ u).cell? ⟨A, 0, none⟩ = some p ∧ (W.setCell ⟨D, 0, none⟩ u).cell? ⟨B, 0, none⟩ = some q :=
  ⟨(cell_same (Below.heap_setCell W ⟨D, 0, none⟩ u A hA) 0).trans h.1, (cell_same (Below.heap_setCell W ⟨D, 0, none⟩ u B hB) 0).trans h.2⟩
theorem AsideB.setFar {H R : Nat} {W w : World} {p : Addr} (h : AsideB H R W w) (hB : H ≤ p.block) (u : Value) : AsideB H R W (w.setCell p u) :=
  ⟨h.os, h.tape, h.output, by simpa using h.size, fun k hk hr => by rw [Below.heap_setCell w p u k (by omega)]; exact h.block k hk hr⟩
theorem AsideB.set5 {H R B : Nat} {W w : World} (h : AsideB H R W w) (hB : H ≤ B) (i : Nat) (b0 b1 b2 b3 b4 : Value) : AsideB H R W (set5 w B i b0 b1 b2 b3 b4) :=
  ((((h.setFar (p := ⟨B, i, none⟩) hB b0).setFar (p := ⟨B, i + 1, none⟩) hB b1).setFar (p := ⟨B, i + 2, none⟩) hB b2).setFar (p := ⟨B, i + 3, none⟩) hB b3).setFar (p := ⟨B, i + 4, none⟩) hB b4
/-- What a list's closure has. -/
structure ListAt (H P : Nat) (dep : Int) (W : World) (v : Value) (yy : List It) : Prop where
  rp : Blk W H #[.pointer (some ⟨P, 0, none⟩)] 121
  dp : Blk W (H + 1) #[.int .i64 dep] 3
  res : Blk W (H + 2) nil5 26
  box : Blk W (H + 3) #[v] 23
  row : W.ownsRow (H + 4) 26 5 v yy.length (yy.flatMap It.cells)
  far : ∀ e ∈ yy, FarIt (H + 3) W nilV v e
  small : ∀ e ∈ yy, smallT e.T
theorem ListAt.aside {H P : Nat} {dep : Int} {W W' : World} {v : Value} {yy : List It} (h : ListAt H P dep W v yy) (ha : Aside P W W') (hP : P < H) : ListAt H P dep W' v yy :=
  ⟨h.rp.aside ha (by omega), h.dp.aside ha (by omega), h.res.aside ha (by omega), h.box.aside ha (by omega), row_aside h.row ha (by omega), fun e he => (h.far e he).go ha.size (fun g h1 h2 _ _ => ha.block g h2 (by omega)) (fun g e => .inl e) (fun g e => .inl e), h.small⟩
def ListSt (H P : Nat) (dep : Int) (W : World) (its : List VT) (n : Nat) : Prop := ∃ v yy, ListAt H P dep W v yy ∧ yy.map It.T = its ∧ its.length ≤ n

/-- An element more, not yet written; v is what the variable holds still. -/
structure ListPre (H P : Nat) (dep : Int) (W : World) (v : Value) (g cap : Nat) (yy : List It) : Prop where
  rp : Blk W H #[.pointer (some ⟨P, 0, none⟩)] 121
  dp : Blk W (H + 1) #[.int .i64 dep] 3
  res : Blk W (H + 2) nil5 26
  box : Blk W (H + 3) #[v] 23
  row : W.ownsRow (H + 4) 26 5 (.slice (some ⟨g, 0, none⟩) (yy.length + 1) cap) (yy.length + 1) (yy.flatMap It.cells ++ zero5)
  far : ∀ e ∈ yy, FarIt (H + 3) W nilV (.slice (some ⟨g, 0, none⟩) (yy.length + 1) cap) e
  small : ∀ e ∈ yy, smallT e.T
section
variable {H P : Nat} {dep : Int} {W W' : World} {v : Value} {g cap : Nat} {yy : List It}
theorem ListPre.aside (h : ListPre H P dep W v g cap yy) (ha : Aside P W W') (hP : P < H) : ListPre H P dep W' v g cap yy :=
  ⟨h.rp.aside ha (by omega), h.dp.aside ha (by omega), h.res.aside ha (by omega), h.box.aside ha (by omega), row_aside h.row ha (by omega), fun e he => (h.far e he).go ha.size (fun g h1 h2 _ _ => ha.block g h2 (by omega)) (fun g e => .inl e) (fun g e => .inl e), h.small⟩
theorem ListPre.base (h : ListPre H P dep W v g cap yy) : H + 4 ≤ g ∧ g < W.heap.size := World.ownsRow.lt h.row g rfl
/-- Behind an append to what stands there. -/
theorem ListAt.append (h : ListAt H P dep W v yy) (hown : W'.ownsRow (H + 4) 26 5 (.slice (some ⟨g, 0, none⟩) (yy.length + 1) cap) (yy.length + 1) (yy.flatMap It.cells ++ zero5)) (hg : W.grownBy W' v.ownBlock) (hat : v.ownBlock = some g ∨ g = W.heap.size) : ListPre H P dep W' v g cap yy := by
  have hb : ∀ q, v.ownBlock = some q → H + 4 ≤ q ∧ q < W.heap.size := fun q e => World.ownsRow.lt h.row q e
  have hne : ∀ B, B < H + 4 → some B ≠ v.ownBlock := fun B hB e => by have := hb B e.symm; omega
  refine ⟨h.rp.grows hg (hne _ (by omega)), h.dp.grows hg (hne _ (by omega)), h.res.grows hg (hne _ (by omega)), h.box.grows hg (hne _ (by omega)), hown, fun e he => (h.far e he).go hg.size (fun q h1 h2 _ h3 => hg.block q h2 h3) (fun q e => .inl e) (fun q e => ?_), h.small⟩
  obtain rfl : g = q := Option.some.inj e
  rcases hat with h | h
  · exact .inl h
  · exact .inr (by omega)
/-- The element written, then the variable. -/
theorem ListPre.done {y : It} (h : ListPre H P dep W v g cap yy) (hy : FarIt (H + 3) W nilV (.slice (some ⟨g, 0, none⟩) (yy.length + 1) cap) y) (hs : smallT y.T) :
    ListAt H P dep ((set5 W g (yy.length * 5) (.int .i64 y.k) (.bool y.b) (.string y.t) y.x y.y).setCell ⟨H + 3, 0, none⟩ (.slice (some ⟨g, 0, none⟩) (yy.length + 1) cap)) (.slice (some ⟨g, 0, none⟩) (yy.length + 1) cap) (yy ++ [y]) := by
  have hb := h.base
  have hk5 : ∀ B, B ≠ g → (set5 W g (yy.length * 5) (.int .i64 y.k) (.bool y.b) (.string y.t) y.x y.y).heap[B]? = W.heap[B]? := fun B hB => set5_other W g _ _ _ _ _ _ hB
  have hbk : ∀ {B : Nat} {cs : Array Value} {ty : TypeId}, Blk W B cs ty → B ≠ g → Blk (set5 W g (yy.length * 5) (.int .i64 y.k) (.bool y.b) (.string y.t) y.x y.y) B cs ty := fun hB hne => (hk5 _ hne).trans hB
  have hrow := row_last h.row (by rw [flat5_length]) (.int .i64 y.k) (.bool y.b) (.string y.t) y.x y.y
  have hfin : ∀ q, H + 3 < q → q < W.heap.size → some q ≠ (Value.slice (some ⟨g, 0, none⟩) (yy.length + 1) cap).ownBlock → (((set5 W g (yy.length * 5) (.int .i64 y.k) (.bool y.b) (.string y.t) y.x y.y).setCell ⟨H + 3, 0, none⟩ (.slice (some ⟨g, 0, none⟩) (yy.length + 1) cap))).heap[q]? = W.heap[q]? := fun q h1 h2 h3 => by
    rw [Below.heap_setCell _ _ _ _ (by show q ≠ H + 3; omega)]
    exact hk5 q (fun e => h3 (by rw [e]; rfl))
  have hsz : W.heap.size ≤ ((set5 W g (yy.length * 5) (.int .i64 y.k) (.bool y.b) (.string y.t) y.x y.y).setCell ⟨H + 3, 0, none⟩ (.slice (some ⟨g, 0, none⟩) (yy.length + 1) cap)).heap.size := by simp [set5]
  refine ⟨(hbk h.rp (by omega)).other (p := ⟨H + 3, 0, none⟩) (by show H ≠ H + 3; omega) _, (hbk h.dp (by omega)).other (p := ⟨H + 3, 0, none⟩) (by show H + 1 ≠ H + 3; omega) _, (hbk h.res (by omega)).other (p := ⟨H + 3, 0, none⟩) (by show H + 2 ≠ H + 3; omega) _, ?_, ?_, fun e he => ?_, fun e he => ?_⟩
  · have := (hbk h.box (by omega)).set 0 (.slice (some ⟨g, 0, none⟩) (yy.length + 1) cap)
    simpa using this
  · rw [List.length_append, List.flatMap_append]
    simp only [List.flatMap_cons, List.flatMap_nil, List.append_nil]
    exact row_set hrow _ _ (by intro e; have e2 : g = H + 3 := Option.some.inj e; omega)
  · rcases List.mem_append.1 he with he | he
    · exact (h.far e he).go hsz (fun q h1 h2 _ h3 => hfin q h1 h2 h3) (fun q e => .inl e) (fun q e => .inl e)
    · rw [List.mem_singleton] at he
      subst he
      exact hy.go hsz (fun q h1 h2 _ h3 => hfin q h1 h2 h3) (fun q e => .inl e) (fun q e => .inl e)
  · rcases List.mem_append.1 he with he | he
    · exact h.small e he
    · rw [List.mem_singleton] at he
      subst he
      exact hs
/-- A new value's memory, behind a call. -/
theorem far_new {lo hi : Nat} {y : It} (hf : Fresh lo hi W y.val y.T) (hL : H + 3 < lo) (hhi : hi ≤ W.heap.size) (hv : ∀ q, v.ownBlock = some q → q < lo ∨ hi ≤ q) : FarIt (H + 3) W nilV v y := ⟨lo, hi, hL, hhi, hf, fun q e => (by cases e), hv⟩
theorem pre_cells (h : ListPre H P dep W v g cap yy) : H + 4 ≤ g ∧ W.cell? ⟨g, yy.length * 5, none⟩ = some (.int .i64 0) ∧ W.cell? ⟨g, yy.length * 5 + 1, none⟩ = some (.bool false) ∧ W.cell? ⟨g, yy.length * 5 + 2, none⟩ = some (.string ⟨#[]⟩) ∧ W.cell? ⟨g, yy.length * 5 + 3, none⟩ = some (.slice none 0 0) ∧ W.cell? ⟨g, yy.length * 5 + 4, none⟩ = some (.slice none 0 0) ∧ W.frozen? ⟨g, yy.length * 5, none⟩ = false ∧ W.frozen? ⟨g, yy.length * 5 + 1, none⟩ = false ∧ W.frozen? ⟨g, yy.length * 5 + 2, none⟩ = false ∧ W.frozen? ⟨g, yy.length * 5 + 3, none⟩ = false ∧ W.frozen? ⟨g, yy.length * 5 + 4, none⟩ = false := by
  have hl : (yy.flatMap It.cells).length = yy.length * 5 := flat5_length yy
  have hc : ∀ i u, zero5[i]? = some u → W.cell? ⟨g, yy.length * 5 + i, none⟩ = some u := fun i u hu => by
    have := World.ownsRow.cells h.row (g := g) rfl (yy.length * 5 + i) u (by rw [List.getElem?_append_right (by omega), hl, Nat.add_sub_cancel_left]; exact hu)
    rwa [Lib.add_plain, Nat.zero_add] at this
  have hf : ∀ i, W.frozen? ⟨g, i, none⟩ = false := fun i => by
    obtain ⟨-, h1 | ⟨g', cap', cur, h1, h2, h3, -⟩⟩ := h.row
    · omega
    · cases h1; exact Blk.frozen h3 i
  exact ⟨h.base.1, hc 0 _ rfl, hc 1 _ rfl, hc 2 _ rfl, hc 3 _ rfl, hc 4 _ rfl, hf _, hf _, hf _, hf _, hf _⟩
end
end Go.Proofs.YtblldoniagiboaaGreatDoor
