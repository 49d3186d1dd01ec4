/- A row whose last element is written; a list's state, ahead of that and behind it · An object's state: ahead of a key, behind it, and behind an item -/
import Derived.Deep.AppendLies
import Derived.Test.YtcbcjeabpjjhbaaGreatDoorJb11
import Derived.Test.YtcbcjeabpjjhbaaGreatDoorJb17
import Derived.Test.YtcbcjeabpjjhbaaGreatDoorJb25
import Derived.Test.YtcbcjeabpjjhbaaGreatDoorJb26
import Derived.Test.YtcbcjeabpjjhbaaGreatDoorJb27
namespace Go.Proofs.YtcbcjeabpjjhbaaGreatDoor
open Go.RowKit Go.Shelf Go.Sort
set_option linter.unusedVariables false

/-- How value ends. -/
def VEnds (W : World) (P : Nat) (t : ByteArray) (r : Except Bad (VT × List UInt8 × Nat)) (e : Ending) (w' : World) : Prop :=
  match r with
  | .ok (T, R', n') => ∃ v a', e = .returned v ∧ Fresh W.heap.size w'.heap.size w' v T ∧ smallT T ∧ Went W w' P t a' n' ∧ rest t a' = R'
  | .error b => Thrown W P t b e w'
abbrev nilV : Value := .slice none 0 0
def zero5 : List Value := [.int .i64 0, .bool false, .string ⟨#[]⟩, .slice none 0 0, .slice none 0 0]
theorem infoV5 : (Tryz.prog.info? 26).map (fun i => (i.zero, i.size, i.bytes)) = some (some (.agg #[.int .i64 0, .bool false, .string ⟨#[]⟩, .slice none 0 0, .slice none 0 0]), 5, 80) := by kernel_rfl
theorem row_last {X : World} {B g k cap E : Nat} {xs ys : List Value} (h : X.ownsRow B E 5 (.slice (some ⟨g, 0, none⟩) (k + 1) cap) (k + 1) (xs ++ ys)) (hx : xs.length = k * 5) (c0 c1 c2 c3 c4 : Value) :
    (set5 X g (k * 5) c0 c1 c2 c3 c4).ownsRow B E 5 (.slice (some ⟨g, 0, none⟩) (k + 1) cap) (k + 1) (xs ++ [c0, c1, c2, c3, c4]) := by
  obtain ⟨hl, h1 | ⟨g', cap', cur, h1, h2, h3, h4, h5, h6, h7⟩⟩ := h
  · omega
  · cases h1
    refine ⟨by simp [hx]; omega, .inr ⟨g, cap, put5 cur (k * 5) c0 c1 c2 c3 c4, rfl, h2, Blk.put5 h3 (k * 5) c0 c1 c2 c3 c4, h4, h5, by rw [put5_size]; exact h6, ?_⟩⟩
    have hsz : (k + 1) * 5 ≤ cur.size := by rw [h6]; exact Nat.mul_le_mul_right _ h4
    have hat := put5_at (cur := cur) (i := k * 5) (a0 := c0) (a1 := c1) (a2 := c2) (a3 := c3) (a4 := c4) (by omega)
    apply List.ext_getElem?
    intro q
    rcases Nat.lt_or_ge q (k * 5) with hq | hq
    · rw [List.getElem?_take_of_lt (by omega), List.getElem?_append_left (by omega), Array.getElem?_toList, put5_far (.inl hq)]
      have h8 : (cur.toList.take ((k + 1) * 5))[q]? = (xs ++ ys)[q]? := by rw [h7]
      rw [List.getElem?_take_of_lt (by omega), List.getElem?_append_left (by omega), Array.getElem?_toList] at h8
      exact h8
    · rcases Nat.lt_or_ge q ((k + 1) * 5) with hq2 | hq2
      · rw [List.getElem?_take_of_lt hq2, List.getElem?_append_right (by omega), Array.getElem?_toList, hx]
        rcases (show q = k * 5 ∨ q = k * 5 + 1 ∨ q = k * 5 + 2 ∨ q = k * 5 + 3 ∨ q = k * 5 + 4 by omega) with rfl | rfl | rfl | rfl | rfl
        · rw [hat.1, Nat.sub_self]; rfl
        · rw [hat.2.1, Nat.add_sub_cancel_left]; rfl
        · rw [hat.2.2.1, Nat.add_sub_cancel_left]; rfl
        · rw [hat.2.2.2.1, Nat.add_sub_cancel_left]; rfl
        · rw [hat.2.2.2.2, Nat.add_sub_cancel_left]; rfl
      · rw [List.getElem?_eq_none (by simp; omega), List.getElem?_eq_none (by simp [hx]; omega)]
theorem set_comm (w : World) {p q : Addr} (h : p.block ≠ q.block) (u v : Value) : (w.setCell p u).setCell q v = (w.setCell q v).setCell p u := by
  have : ((w.heap.modify p.block fun o => match o with
      | .cells c elem frozen => .cells (if p.spot.isSome then c else c.setIfInBounds p.off u) elem frozen
      | o => o).modify q.block fun o => match o with
      | .cells c elem frozen => .cells (if q.spot.isSome then c else c.setIfInBounds q.off v) elem frozen
      | o => o) = ((w.heap.modify q.block fun o => match o with
      | .cells c elem frozen => .cells (if q.spot.isSome then c else c.setIfInBounds q.off v) elem frozen
      | o => o).modify p.block fun o => match o with
      | .cells c elem frozen => .cells (if p.spot.isSome then c else c.setIfInBounds p.off u) elem frozen
      | o => o) := by
    apply Array.ext_getElem?
    intro i
    simp only [Array.getElem?_modify]
    by_cases h1 : p.block = i
    · have h2 : ¬ q.block = i := fun e => h (h1.trans e.symm)
      simp [h1, h2]
    · by_cases h2 : q.block = i
      · simp [h1, h2]
      · simp [h1, h2]
  unfold World.setCell
  simp only
  congr 1
theorem set5_comm (w : World) {g i B o : Nat} (h : B ≠ g) (u c0 c1 c2 c3 c4 : Value) : set5 (w.setCell ⟨B, o, none⟩ u) g i c0 c1 c2 c3 c4 = (set5 w g i c0 c1 c2 c3 c4).setCell ⟨B, o, none⟩ u := by
  unfold set5
  rw [set_comm w (p := ⟨B, o, none⟩) (q := ⟨g, i, none⟩) h, set_comm _ (p := ⟨B, o, none⟩) (q := ⟨g, i + 1, none⟩) h, set_comm _ (p := ⟨B, o, none⟩) (q := ⟨g, i + 2, none⟩) h, set_comm _ (p := ⟨B, o, none⟩) (q := ⟨g, i + 3, none⟩) h, set_comm _ (p := ⟨B, o, none⟩) (q := ⟨g, i + 4, none⟩) h]
theorem held_set5 {W : World} {g i A B : Nat} {p q : Value} (h : W.cell? ⟨A, 0, none⟩ = some p ∧ W.cell? ⟨B, 0, none⟩ = some q) (hA : ¬ A = g) (hB : ¬ B = g) (c0 c1 c2 c3 c4 : Value) : (((((W.setCell ⟨g, i, none⟩ c0).setCell ⟨g, i + 1, none⟩ c1).setCell ⟨g, i + 2, none⟩ c2).setCell ⟨g, i + 3, none⟩ c3).setCell ⟨g, i + 4, none⟩ c4).cell? ⟨A, 0, none⟩ = some p ∧ (((((W.setCell ⟨g, i, none⟩ c0).setCell ⟨g, i + 1, none⟩ c1).setCell ⟨g, i + 2, none⟩ c2).setCell ⟨g, i + 3, none⟩ c3).setCell ⟨g, i + 4, none⟩ c4).cell? ⟨B, 0, none⟩ = some q :=
  ⟨(cell_same (set5_other W g i c0 c1 c2 c3 c4 hA) 0).trans h.1, (cell_same (set5_other W g i c0 c1 c2 c3 c4 hB) 0).trans h.2⟩
theorem held_set {W : World} {A B D : Nat} {p q u : Value} (h : W.cell? ⟨A, 0, none⟩ = some p ∧ W.cell? ⟨B, 0, none⟩ = some q) (hA : ¬ A = D) (hB : ¬ B = D) : (W.setCell ⟨D, 0, none⟩ u).cell? ⟨A, 0, none⟩ = some p ∧ (W.setCell ⟨D, 0, none⟩ u).cell? ⟨B, 0, none⟩ = some q :=
  ⟨(cell_same (Below.heap_setCell W ⟨D, 0, none⟩ u A hA) 0).trans h.1, (cell_same (Below.heap_setCell W ⟨D, 0, none⟩ u B hB) 0).trans h.2⟩
theorem AsideB.setFar {H R : Nat} {W w : World} {p : Addr} (h : AsideB H R W w) (hB : H ≤ p.block) (u : Value) : AsideB H R W (w.setCell p u) :=
  ⟨h.os, h.tape, h.output, by simpa using h.size, fun k hk hr => by rw [Below.heap_setCell w p u k (by omega)]; exact h.block k hk hr⟩
theorem AsideB.set5 {H R B : Nat} {W w : World} (h : AsideB H R W w) (hB : H ≤ B) (i : Nat) (b0 b1 b2 b3 b4 : Value) : AsideB H R W (set5 w B i b0 b1 b2 b3 b4) :=
  ((((h.setFar (p := ⟨B, i, none⟩) hB b0).setFar (p := ⟨B, i + 1, none⟩) hB b1).setFar (p := ⟨B, i + 2, none⟩) hB b2).setFar (p := ⟨B, i + 3, none⟩) hB b3).setFar (p := ⟨B, i + 4, none⟩) hB b4
/-- What a list's closure has. -/
structure ListAt (H P : Nat) (dep : Int) (W : World) (v : Value) (yy : List It) : Prop where
  rp : Blk W H #[.pointer (some ⟨P, 0, none⟩)] 73
  dp : Blk W (H + 1) #[.int .i64 dep] 3
  res : Blk W (H + 2) nil5 26
  box : Blk W (H + 3) #[v] 23
  row : W.ownsRow (H + 4) 26 5 v yy.length (yy.flatMap It.cells)
  far : ∀ e ∈ yy, FarIt (H + 3) W nilV v e
  small : ∀ e ∈ yy, smallT e.T
theorem ListAt.aside {H P : Nat} {dep : Int} {W W' : World} {v : Value} {yy : List It} (h : ListAt H P dep W v yy) (ha : Aside P W W') (hP : P < H) : ListAt H P dep W' v yy :=
  ⟨h.rp.aside ha (by omega), h.dp.aside ha (by omega), h.res.aside ha (by omega), h.box.aside ha (by omega), row_aside h.row ha (by omega), fun e he => (h.far e he).go ha.size (fun g h1 h2 _ _ => ha.block g h2 (by omega)) (fun g e => .inl e) (fun g e => .inl e), h.small⟩
def ListSt (H P : Nat) (dep : Int) (W : World) (its : List VT) (n : Nat) : Prop := ∃ v yy, ListAt H P dep W v yy ∧ yy.map It.T = its ∧ its.length ≤ n

/-- An element more, not yet written; v is what the variable holds still. -/
structure ListPre (H P : Nat) (dep : Int) (W : World) (v : Value) (g cap : Nat) (yy : List It) : Prop where
  rp : Blk W H #[.pointer (some ⟨P, 0, none⟩)] 73
  dp : Blk W (H + 1) #[.int .i64 dep] 3
  res : Blk W (H + 2) nil5 26
  box : Blk W (H + 3) #[v] 23
  row : W.ownsRow (H + 4) 26 5 (.slice (some ⟨g, 0, none⟩) (yy.length + 1) cap) (yy.length + 1) (yy.flatMap It.cells ++ zero5)
  far : ∀ e ∈ yy, FarIt (H + 3) W nilV (.slice (some ⟨g, 0, none⟩) (yy.length + 1) cap) e
  small : ∀ e ∈ yy, smallT e.T
section
variable {H P : Nat} {dep : Int} {W W' : World} {v : Value} {g cap : Nat} {yy : List It}
theorem ListPre.aside (h : ListPre H P dep W v g cap yy) (ha : Aside P W W') (hP : P < H) : ListPre H P dep W' v g cap yy :=
  ⟨h.rp.aside ha (by omega), h.dp.aside ha (by omega), h.res.aside ha (by omega), h.box.aside ha (by omega), row_aside h.row ha (by omega), fun e he => (h.far e he).go ha.size (fun g h1 h2 _ _ => ha.block g h2 (by omega)) (fun g e => .inl e) (fun g e => .inl e), h.small⟩
theorem ListPre.base (h : ListPre H P dep W v g cap yy) : H + 4 ≤ g ∧ g < W.heap.size := World.ownsRow.lt h.row g rfl
/-- Behind an append to what stands there. -/
theorem ListAt.append (h : ListAt H P dep W v yy) (hown : W'.ownsRow (H + 4) 26 5 (.slice (some ⟨g, 0, none⟩) (yy.length + 1) cap) (yy.length + 1) (yy.flatMap It.cells ++ zero5)) (hg : W.grownBy W' v.ownBlock) (hat : v.ownBlock = some g ∨ g = W.heap.size) : ListPre H P dep W' v g cap yy := by
  have hb : ∀ q, v.ownBlock = some q → H + 4 ≤ q ∧ q < W.heap.size := fun q e => World.ownsRow.lt h.row q e
  have hne : ∀ B, B < H + 4 → some B ≠ v.ownBlock := fun B hB e => by have := hb B e.symm; omega
  refine ⟨h.rp.grows hg (hne _ (by omega)), h.dp.grows hg (hne _ (by omega)), h.res.grows hg (hne _ (by omega)), h.box.grows hg (hne _ (by omega)), hown, fun e he => (h.far e he).go hg.size (fun q h1 h2 _ h3 => hg.block q h2 h3) (fun q e => .inl e) (fun q e => ?_), h.small⟩
  obtain rfl : g = q := Option.some.inj e
  rcases hat with h | h
  · exact .inl h
  · exact .inr (by omega)
/-- The element written, then the variable. -/
theorem ListPre.done {y : It} (h : ListPre H P dep W v g cap yy) (hy : FarIt (H + 3) W nilV (.slice (some ⟨g, 0, none⟩) (yy.length + 1) cap) y) (hs : smallT y.T) :
    ListAt H P dep ((set5 W g (yy.length * 5) (.int .i64 y.k) (.bool y.b) (.string y.t) y.x y.y).setCell ⟨H + 3, 0, none⟩ (.slice (some ⟨g, 0, none⟩) (yy.length + 1) cap)) (.slice (some ⟨g, 0, none⟩) (yy.length + 1) cap) (yy ++ [y]) := by
  have hb := h.base
  have hk5 : ∀ B, B ≠ g → (set5 W g (yy.length * 5) (.int .i64 y.k) (.bool y.b) (.string y.t) y.x y.y).heap[B]? = W.heap[B]? := fun B hB => set5_other W g _ _ _ _ _ _ hB
  have hbk : ∀ {B : Nat} {cs : Array Value} {ty : TypeId}, Blk W B cs ty → B ≠ g → Blk (set5 W g (yy.length * 5) (.int .i64 y.k) (.bool y.b) (.string y.t) y.x y.y) B cs ty := fun hB hne => (hk5 _ hne).trans hB
  have hrow := row_last h.row (by rw [flat5_length]) (.int .i64 y.k) (.bool y.b) (.string y.t) y.x y.y
  have hfin : ∀ q, H + 3 < q → q < W.heap.size → some q ≠ (Value.slice (some ⟨g, 0, none⟩) (yy.length + 1) cap).ownBlock → (((set5 W g (yy.length * 5) (.int .i64 y.k) (.bool y.b) (.string y.t) y.x y.y).setCell ⟨H + 3, 0, none⟩ (.slice (some ⟨g, 0, none⟩) (yy.length + 1) cap))).heap[q]? = W.heap[q]? := fun q h1 h2 h3 => by
    rw [Below.heap_setCell _ _ _ _ (by show q ≠ H + 3; omega)]
    exact hk5 q (fun e => h3 (by rw [e]; rfl))
  have hsz : W.heap.size ≤ ((set5 W g (yy.length * 5) (.int .i64 y.k) (.bool y.b) (.string y.t) y.x y.y).setCell ⟨H + 3, 0, none⟩ (.slice (some ⟨g, 0, none⟩) (yy.length + 1) cap)).heap.size := by simp [set5]
  refine ⟨(hbk h.rp (by omega)).other (p := ⟨H + 3, 0, none⟩) (by show H ≠ H + 3; omega) _, (hbk h.dp (by omega)).other (p := ⟨H + 3, 0, none⟩) (by show H + 1 ≠ H + 3; omega) _, (hbk h.res (by omega)).other (p := ⟨H + 3, 0, none⟩) (by show H + 2 ≠ H + 3; omega) _, ?_, ?_, fun e he => ?_, fun e he => ?_⟩
  · have := (hbk h.box (by omega)).set 0 (.slice (some ⟨g, 0, none⟩) (yy.length + 1) cap)
    simpa using this
  · rw [List.length_append, List.flatMap_append]
    simp only [List.flatMap_cons, List.flatMap_nil, List.append_nil]
    exact row_set hrow _ _ (by intro e; have e2 : g = H + 3 := Option.some.inj e; omega)
  · rcases List.mem_append.1 he with he | he
    · exact (h.far e he).go hsz (fun q h1 h2 _ h3 => hfin q h1 h2 h3) (fun q e => .inl e) (fun q e => .inl e)
    · rw [List.mem_singleton] at he
      subst he
      exact hy.go hsz (fun q h1 h2 _ h3 => hfin q h1 h2 h3) (fun q e => .inl e) (fun q e => .inl e)
  · rcases List.mem_append.1 he with he | he
    · exact h.small e he
    · rw [List.mem_singleton] at he
      subst he
      exact hs
/-- A new value's memory, behind a call. -/
theorem far_new {lo hi : Nat} {y : It} (hf : Fresh lo hi W y.val y.T) (hL : H + 3 < lo) (hhi : hi ≤ W.heap.size) (hv : ∀ q, v.ownBlock = some q → q < lo ∨ hi ≤ q) : FarIt (H + 3) W nilV v y := ⟨lo, hi, hL, hhi, hf, fun q e => (by cases e), hv⟩
theorem pre_cells (h : ListPre H P dep W v g cap yy) : H + 4 ≤ g ∧ W.cell? ⟨g, yy.length * 5, none⟩ = some (.int .i64 0) ∧ W.cell? ⟨g, yy.length * 5 + 1, none⟩ = some (.bool false) ∧ W.cell? ⟨g, yy.length * 5 + 2, none⟩ = some (.string ⟨#[]⟩) ∧ W.cell? ⟨g, yy.length * 5 + 3, none⟩ = some (.slice none 0 0) ∧ W.cell? ⟨g, yy.length * 5 + 4, none⟩ = some (.slice none 0 0) ∧ W.frozen? ⟨g, yy.length * 5, none⟩ = false ∧ W.frozen? ⟨g, yy.length * 5 + 1, none⟩ = false ∧ W.frozen? ⟨g, yy.length * 5 + 2, none⟩ = false ∧ W.frozen? ⟨g, yy.length * 5 + 3, none⟩ = false ∧ W.frozen? ⟨g, yy.length * 5 + 4, none⟩ = false := by
  have hl : (yy.flatMap It.cells).length = yy.length * 5 := flat5_length yy
  have hc : ∀ i u, zero5[i]? = some u → W.cell? ⟨g, yy.length * 5 + i, none⟩ = some u := fun i u hu => by
    have := World.ownsRow.cells h.row (g := g) rfl (yy.length * 5 + i) u (by rw [List.getElem?_append_right (by omega), hl, Nat.add_sub_cancel_left]; exact hu)
    rwa [Lib.add_plain, Nat.zero_add] at this
  have hf : ∀ i, W.frozen? ⟨g, i, none⟩ = false := fun i => by
    obtain ⟨-, h1 | ⟨g', cap', cur, h1, h2, h3, -⟩⟩ := h.row
    · omega
    · cases h1; exact Blk.frozen h3 i
  exact ⟨h.base.1, hc 0 _ rfl, hc 1 _ rfl, hc 2 _ rfl, hc 3 _ rfl, hc 4 _ rfl, hf _, hf _, hf _, hf _, hf _⟩
end
end Go.Proofs.YtcbcjeabpjjhbaaGreatDoor
namespace Go.Proofs.YtcbcjeabpjjhbaaGreatDoor
open Go.RowKit Go.Shelf Go.Sort
set_option linter.unusedVariables false

theorem row_same {w w' : World} {B e size n : Nat} {v : Value} {xs : List Value} (h : w.ownsRow B e size v n xs) (hs : ∀ g, B ≤ g → g < w.heap.size → v.ownBlock = some g → w'.heap[g]? = w.heap[g]?) : w'.ownsRow B e size v n xs := by
  obtain ⟨h1, h2⟩ := h
  refine ⟨h1, ?_⟩
  rcases h2 with h2 | ⟨g, cap, cur, rfl, h3, h4, h5⟩
  · exact .inl h2
  · exact .inr ⟨g, cap, cur, rfl, h3, (hs g h3 (Array.getElem?_eq_some_iff.1 h4).1 rfl).trans h4, h5⟩
theorem SeenAt.same {M : Nat} {W W' : World} {ks : List ByteArray} (h : SeenAt W M ks) (e : W'.heap[M]? = W.heap[M]?) : SeenAt W' M ks := by
  obtain ⟨es, clock, h1, h2, h3, h4⟩ := h
  exact ⟨es, clock, e.trans h1, h2, h3, h4⟩
theorem OffM.ofA {P M : Nat} {W W' : World} (h : Aside P W W') : OffM P M W W' := ⟨h.os, h.tape, h.output, h.size, fun k hk h1 _ => h.block k hk h1⟩
theorem OffM.toB {H P M : Nat} {W W' : World} (h : OffM P M W W') (hM : H ≤ M) (hH : H ≤ W.heap.size) : AsideB H P W W' := ⟨h.os, h.tape, h.output, h.size, fun k hk h1 => h.block k (by omega) h1 (by omega)⟩
/-- What an object's closure has: r, depth, the result, keys, items, the set and its variable. -/
structure JObjAt (H P : Nat) (dep : Int) (W : World) (sk ks : List ByteArray) (kv v : Value) (yy : List It) : Prop where
  rp : Blk W H #[.pointer (some ⟨P, 0, none⟩)] 73
  dp : Blk W (H + 1) #[.int .i64 dep] 3
  res : Blk W (H + 2) nil5 26
  kbox : Blk W (H + 3) #[kv] 24
  box : Blk W (H + 4) #[v] 23
  sbox : Blk W (H + 6) #[.map (some (H + 5))] 106
  seen : SeenAt W (H + 5) sk
  krow : W.ownsRow (H + 7) 9 1 kv ks.length (ks.map Value.string)
  row : W.ownsRow (H + 7) 26 5 v yy.length (yy.flatMap It.cells)
  far : ∀ e ∈ yy, FarIt (H + 6) W kv v e
  small : ∀ e ∈ yy, smallT e.T
  apart : ∀ q, kv.ownBlock = some q → v.ownBlock ≠ some q
/-- An item more, not yet written; v is what the variable holds still. -/
structure JObjPre (H P : Nat) (dep : Int) (W : World) (sk ks : List ByteArray) (kv v : Value) (g cap : Nat) (yy : List It) : Prop where
  rp : Blk W H #[.pointer (some ⟨P, 0, none⟩)] 73
  dp : Blk W (H + 1) #[.int .i64 dep] 3
  res : Blk W (H + 2) nil5 26
  kbox : Blk W (H + 3) #[kv] 24
  box : Blk W (H + 4) #[v] 23
  sbox : Blk W (H + 6) #[.map (some (H + 5))] 106
  seen : SeenAt W (H + 5) sk
  krow : W.ownsRow (H + 7) 9 1 kv ks.length (ks.map Value.string)
  row : W.ownsRow (H + 7) 26 5 (.slice (some ⟨g, 0, none⟩) (yy.length + 1) cap) (yy.length + 1) (yy.flatMap It.cells ++ zero5)
  far : ∀ e ∈ yy, FarIt (H + 6) W kv (.slice (some ⟨g, 0, none⟩) (yy.length + 1) cap) e
  small : ∀ e ∈ yy, smallT e.T
  apart : ∀ q, kv.ownBlock = some q → q ≠ g
section
variable {H P : Nat} {dep : Int} {W W' X : World} {sk sk' ks : List ByteArray} {kv v : Value} {g cap : Nat} {yy : List It}
theorem JObjAt.off (h : JObjAt H P dep W sk ks kv v yy) (ha : OffM P (H + 5) W W') (hs : SeenAt W' (H + 5) sk') (hP : P < H) : JObjAt H P dep W' sk' ks kv v yy := by
  have hb : ∀ {B : Nat} {cs : Array Value} {ty : TypeId}, Blk W B cs ty → B ≠ P → B ≠ H + 5 → Blk W' B cs ty := fun hB h1 h2 => (ha.block _ hB.lt h1 h2).trans hB
  exact ⟨hb h.rp (by omega) (by omega), hb h.dp (by omega) (by omega), hb h.res (by omega) (by omega), hb h.kbox (by omega) (by omega), hb h.box (by omega) (by omega), hb h.sbox (by omega) (by omega), hs, row_same h.krow (fun g h1 h2 _ => ha.block g h2 (by omega) (by omega)), row_same h.row (fun g h1 h2 _ => ha.block g h2 (by omega) (by omega)), fun e he => (h.far e he).go ha.size (fun g h1 h2 _ _ => ha.block g h2 (by omega) (by omega)) (fun g e => .inl e) (fun g e => .inl e), h.small, h.apart⟩
theorem JObjAt.aside (h : JObjAt H P dep W sk ks kv v yy) (ha : Aside P W W') (hP : P < H) : JObjAt H P dep W' sk ks kv v yy := h.off (OffM.ofA ha) (h.seen.aside ha (by omega)) hP
/-- Behind an append to the keys, and its store. -/
theorem JObjAt.keyed {k : ByteArray} (h : JObjAt H P dep W sk ks kv v yy) (hb : Below W.heap.size W X) (hown : W'.ownsRow (H + 7) 9 1 (.slice (some ⟨g, 0, none⟩) (ks.length + 1) cap) (ks.length + 1) (ks.map Value.string ++ [.string k])) (hg : X.grownBy W' kv.ownBlock) (hat : kv.ownBlock = some g ∨ g = X.heap.size) :
    JObjAt H P dep (W'.setCell ⟨H + 3, 0, none⟩ (.slice (some ⟨g, 0, none⟩) (ks.length + 1) cap)) sk (ks ++ [k]) (.slice (some ⟨g, 0, none⟩) (ks.length + 1) cap) v yy := by
  have hk : ∀ q, kv.ownBlock = some q → H + 7 ≤ q ∧ q < W.heap.size := fun q e => World.ownsRow.lt h.krow q e
  have hv : ∀ q, v.ownBlock = some q → H + 7 ≤ q ∧ q < W.heap.size := fun q e => World.ownsRow.lt h.row q e
  have hsx := hb.size
  have hsg := hg.size
  have hg7 : H + 7 ≤ g := (World.ownsRow.lt hown g rfl).1
  have hfin : ∀ B, B < W.heap.size → B ≠ H + 3 → some B ≠ kv.ownBlock → (W'.setCell ⟨H + 3, 0, none⟩ (.slice (some ⟨g, 0, none⟩) (ks.length + 1) cap)).heap[B]? = W.heap[B]? := fun B h1 h2 h3 => by
    rw [Below.heap_setCell _ _ _ _ (by show B ≠ H + 3; omega), hg.block B (by omega) h3]
    exact hb.block B h1
  have hne : ∀ B, B < H + 7 → some B ≠ kv.ownBlock := fun B h1 e => by have := hk B e.symm; omega
  have hbk : ∀ {B : Nat} {cs : Array Value} {ty : TypeId}, Blk W B cs ty → B ≠ H + 3 → B < H + 7 → Blk (W'.setCell ⟨H + 3, 0, none⟩ (.slice (some ⟨g, 0, none⟩) (ks.length + 1) cap)) B cs ty := fun hB h1 h2 => (hfin _ hB.lt h1 (hne _ h2)).trans hB
  have hsl : H + 5 < W.heap.size := by have := h.sbox.lt; omega
  refine ⟨hbk h.rp (by omega) (by omega), hbk h.dp (by omega) (by omega), hbk h.res (by omega) (by omega), ?_, hbk h.box (by omega) (by omega), hbk h.sbox (by omega) (by omega), h.seen.same (hfin _ hsl (by omega) (hne _ (by omega))), ?_, row_same h.row (fun q h1 h2 h3 => hfin q h2 (by omega) (fun e => h.apart q e.symm h3)), fun e he => ?_, h.small, fun q e => ?_⟩
  · have hkb : Blk W' (H + 3) #[kv] 24 := ((hg.block _ (by have := h.kbox.lt; omega) (hne _ (by omega))).trans (hb.block _ h.kbox.lt)).trans h.kbox
    have := hkb.set 0 (.slice (some ⟨g, 0, none⟩) (ks.length + 1) cap)
    simpa using this
  · rw [List.length_append, List.map_append]
    exact row_set hown _ _ (by intro e; have e2 : g = H + 3 := Option.some.inj e; omega)
  · refine (h.far e he).go (by simp; omega) (fun q h1 h2 h3 _ => hfin q h2 (by omega) h3) (fun q e => ?_) (fun q e => .inl e)
    obtain rfl : g = q := Option.some.inj e
    rcases hat with h | h
    · exact .inl h
    · exact .inr (by omega)
  · obtain rfl : g = q := Option.some.inj e
    rcases hat with h1 | h1
    · exact h.apart _ h1
    · intro e2
      have := hv _ e2
      omega
theorem JObjPre.base (h : JObjPre H P dep W sk ks kv v g cap yy) : H + 7 ≤ g ∧ g < W.heap.size := World.ownsRow.lt h.row g rfl
/-- Behind an append to the items. -/
theorem JObjAt.append (h : JObjAt H P dep W sk ks kv v yy) (hown : W'.ownsRow (H + 7) 26 5 (.slice (some ⟨g, 0, none⟩) (yy.length + 1) cap) (yy.length + 1) (yy.flatMap It.cells ++ zero5)) (hg : W.grownBy W' v.ownBlock) (hat : v.ownBlock = some g ∨ g = W.heap.size) : JObjPre H P dep W' sk ks kv v g cap yy := by
  have hb : ∀ q, v.ownBlock = some q → H + 7 ≤ q ∧ q < W.heap.size := fun q e => World.ownsRow.lt h.row q e
  have hk : ∀ q, kv.ownBlock = some q → H + 7 ≤ q ∧ q < W.heap.size := fun q e => World.ownsRow.lt h.krow q e
  have hne : ∀ B, B < H + 7 → some B ≠ v.ownBlock := fun B hB e => by have := hb B e.symm; omega
  refine ⟨h.rp.grows hg (hne _ (by omega)), h.dp.grows hg (hne _ (by omega)), h.res.grows hg (hne _ (by omega)), h.kbox.grows hg (hne _ (by omega)), h.box.grows hg (hne _ (by omega)), h.sbox.grows hg (hne _ (by omega)), h.seen.same (hg.block _ (by have := h.sbox.lt; omega) (hne _ (by omega))), row_same h.krow (fun q h1 h2 h3 => hg.block q h2 (fun e => h.apart q h3 e.symm)), hown, fun e he => (h.far e he).go hg.size (fun q h1 h2 _ h3 => hg.block q h2 h3) (fun q e => .inl e) (fun q e => ?_), h.small, fun q e e2 => ?_⟩
  · obtain rfl : g = q := Option.some.inj e
    rcases hat with h | h
    · exact .inl h
    · exact .inr (by omega)
  · subst e2
    rcases hat with h1 | h1
    · exact h.apart _ e h1
    · have := hk _ e
      omega
/-- The item written, then the variable. -/
theorem JObjPre.done {y : It} (h : JObjPre H P dep W sk ks kv v g cap yy) (hy : FarIt (H + 6) W kv (.slice (some ⟨g, 0, none⟩) (yy.length + 1) cap) y) (hs : smallT y.T) :
    JObjAt H P dep ((set5 W g (yy.length * 5) (.int .i64 y.k) (.bool y.b) (.string y.t) y.x y.y).setCell ⟨H + 4, 0, none⟩ (.slice (some ⟨g, 0, none⟩) (yy.length + 1) cap)) sk ks kv (.slice (some ⟨g, 0, none⟩) (yy.length + 1) cap) (yy ++ [y]) := by
  have hb := h.base
  have hk : ∀ q, kv.ownBlock = some q → H + 7 ≤ q ∧ q < W.heap.size := fun q e => World.ownsRow.lt h.krow q e
  have hk5 : ∀ B, B ≠ g → (set5 W g (yy.length * 5) (.int .i64 y.k) (.bool y.b) (.string y.t) y.x y.y).heap[B]? = W.heap[B]? := fun B hB => set5_other W g _ _ _ _ _ _ hB
  have hfin : ∀ q, q ≠ H + 4 → q ≠ g → (((set5 W g (yy.length * 5) (.int .i64 y.k) (.bool y.b) (.string y.t) y.x y.y).setCell ⟨H + 4, 0, none⟩ (.slice (some ⟨g, 0, none⟩) (yy.length + 1) cap))).heap[q]? = W.heap[q]? := fun q h1 h2 => by
    rw [Below.heap_setCell _ _ _ _ (by show q ≠ H + 4; omega)]
    exact hk5 q h2
  have hbk : ∀ {B : Nat} {cs : Array Value} {ty : TypeId}, Blk W B cs ty → B ≠ H + 4 → B < H + 7 → Blk (((set5 W g (yy.length * 5) (.int .i64 y.k) (.bool y.b) (.string y.t) y.x y.y).setCell ⟨H + 4, 0, none⟩ (.slice (some ⟨g, 0, none⟩) (yy.length + 1) cap))) B cs ty := fun hB h1 h2 => (hfin _ h1 (by omega)).trans hB
  have hrow := row_last h.row (by rw [flat5_length]) (.int .i64 y.k) (.bool y.b) (.string y.t) y.x y.y
  have hsz : W.heap.size ≤ ((set5 W g (yy.length * 5) (.int .i64 y.k) (.bool y.b) (.string y.t) y.x y.y).setCell ⟨H + 4, 0, none⟩ (.slice (some ⟨g, 0, none⟩) (yy.length + 1) cap)).heap.size := by simp [set5]
  have hgo : ∀ e, FarIt (H + 6) W kv (.slice (some ⟨g, 0, none⟩) (yy.length + 1) cap) e → FarIt (H + 6) ((set5 W g (yy.length * 5) (.int .i64 y.k) (.bool y.b) (.string y.t) y.x y.y).setCell ⟨H + 4, 0, none⟩ (.slice (some ⟨g, 0, none⟩) (yy.length + 1) cap)) kv (.slice (some ⟨g, 0, none⟩) (yy.length + 1) cap) e := fun e he =>
    he.go hsz (fun q h1 h2 _ h3 => hfin q (by omega) (fun e => h3 (by rw [e]; rfl))) (fun q e => .inl e) (fun q e => .inl e)
  refine ⟨hbk h.rp (by omega) (by omega), hbk h.dp (by omega) (by omega), hbk h.res (by omega) (by omega), hbk h.kbox (by omega) (by omega), ?_, hbk h.sbox (by omega) (by omega), h.seen.same (hfin _ (by omega) (by omega)), row_same h.krow (fun q h1 h2 h3 => hfin q (by omega) (h.apart q h3)), ?_, fun e he => ?_, fun e he => ?_, fun q e e2 => h.apart q e (Option.some.inj e2).symm⟩
  · have hbb : Blk (set5 W g (yy.length * 5) (.int .i64 y.k) (.bool y.b) (.string y.t) y.x y.y) (H + 4) #[v] 23 := (hk5 _ (by omega)).trans h.box
    have := hbb.set 0 (.slice (some ⟨g, 0, none⟩) (yy.length + 1) cap)
    simpa using this
  · rw [List.length_append, List.flatMap_append]
    simp only [List.flatMap_cons, List.flatMap_nil, List.append_nil]
    exact row_set hrow _ _ (by intro e; have e2 : g = H + 4 := Option.some.inj e; omega)
  · rcases List.mem_append.1 he with he | he
    · exact hgo _ (h.far e he)
    · rw [List.mem_singleton] at he
      subst he
      exact hgo _ hy
  · rcases List.mem_append.1 he with he | he
    · exact h.small e he
    · rw [List.mem_singleton] at he
      subst he
      exact hs
theorem obj_cells (h : JObjPre H P dep W sk ks kv v g cap yy) : H + 7 ≤ g ∧ W.cell? ⟨g, yy.length * 5, none⟩ = some (.int .i64 0) ∧ W.cell? ⟨g, yy.length * 5 + 1, none⟩ = some (.bool false) ∧ W.cell? ⟨g, yy.length * 5 + 2, none⟩ = some (.string ⟨#[]⟩) ∧ W.cell? ⟨g, yy.length * 5 + 3, none⟩ = some (.slice none 0 0) ∧ W.cell? ⟨g, yy.length * 5 + 4, none⟩ = some (.slice none 0 0) ∧ W.frozen? ⟨g, yy.length * 5, none⟩ = false ∧ W.frozen? ⟨g, yy.length * 5 + 1, none⟩ = false ∧ W.frozen? ⟨g, yy.length * 5 + 2, none⟩ = false ∧ W.frozen? ⟨g, yy.length * 5 + 3, none⟩ = false ∧ W.frozen? ⟨g, yy.length * 5 + 4, none⟩ = false := by
  have hl : (yy.flatMap It.cells).length = yy.length * 5 := flat5_length yy
  have hc : ∀ i u, zero5[i]? = some u → W.cell? ⟨g, yy.length * 5 + i, none⟩ = some u := fun i u hu => by
    have := World.ownsRow.cells h.row (g := g) rfl (yy.length * 5 + i) u (by rw [List.getElem?_append_right (by omega), hl, Nat.add_sub_cancel_left]; exact hu)
    rwa [Lib.add_plain, Nat.zero_add] at this
  have hf : ∀ i, W.frozen? ⟨g, i, none⟩ = false := fun i => by
    obtain ⟨-, h1 | ⟨g', cap', cur, h1, h2, h3, -⟩⟩ := h.row
    · omega
    · cases h1; exact Blk.frozen h3 i
  exact ⟨h.base.1, hc 0 _ rfl, hc 1 _ rfl, hc 2 _ rfl, hc 3 _ rfl, hc 4 _ rfl, hf _, hf _, hf _, hf _, hf _⟩
end
/-- What is read so far: keys and their trees. -/
def ObjSt2 (H P : Nat) (dep : Int) (W : World) (st : List (ByteArray × VT)) (n : Nat) : Prop := ∃ kv v yy, JObjAt H P dep W (st.map Prod.fst) (st.map Prod.fst) kv v yy ∧ yy.map It.T = st.map Prod.snd ∧ st.length ≤ n ∧ ∀ k ∈ st.map Prod.fst, k.size ≤ 16384
theorem info_str1 : (Tryz.prog.info? 9).map (fun i => (i.zero, i.size, i.bytes)) = some (some (.string ⟨#[]⟩), 1, 16) := by kernel_rfl
theorem app_key {P : Program} (hu : P.underlying 24 = some (.slice 9)) {iV : TypeInfo} {zV : Value} (hiV : P.info? 9 = some iV) (hzV : iV.zero = some zV) (hsV : iV.size = 1) (hbV : iV.bytes = 16) (hzs : zV.cells.size = 1) {ops : Array Oper} {o : Oper} {a : Act} {w : World} {K : Act → World → Prop} {Q : Exit → Act → World → Prop} {E : Prop} {H k B s x : Nat} {kk : ByteArray} {v : Value} {xs : List Value} (hgd : o.guard = none)
    (ho : o.op = .call { callee := .builtin .append, args := #[.tmp s, .tmp x], argTypes := #[24, 24] }) (hs : a.eval (.tmp s) = v) (hown : w.ownsRow H 9 1 v k xs) (hx : a.eval (.tmp x) = .slice (some ⟨B, 0, none⟩) 1 1)
    (hnews : ∀ j u, [Value.string kk][j]? = some u → w.cell? ((⟨B, 0, none⟩ : Addr).add j) = some u) (hk : k ≤ 10000) (hbase : H ≤ w.heap.size)
    (h : ∀ g cap w', w'.ownsRow H 9 1 (.slice (some ⟨g, 0, none⟩) (k + 1) cap) (k + 1) (xs ++ [.string kk]) → w.grownBy w' v.ownBlock → (v.ownBlock = some g ∨ g = w.heap.size) → g < w'.heap.size → K (a.put o.dst (.slice (some ⟨g, 0, none⟩) (k + 1) cap)) w') :
    if Region.wanted o (yielded ops a.tmps) = true then Oper.wp P o a w K Q else E :=
  step_append_lies w hgd (.tmp s) (.tmp x) 24 ho H 9 iV zV 1 16 hu hiV hzV hsV hbV hzs (by decide) v k xs hs hown ⟨B, 0, none⟩ 1 1 [.string kk] hx rfl hnews
    (by intro u hu; simp at hu; subst hu; rfl) (by decide) (by unfold maxLen; omega) (by omega) hbase w.heap.size rfl h
end Go.Proofs.YtcbcjeabpjjhbaaGreatDoor
