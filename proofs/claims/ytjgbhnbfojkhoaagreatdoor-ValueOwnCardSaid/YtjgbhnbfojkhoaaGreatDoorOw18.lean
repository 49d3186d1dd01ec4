/- ValueOwn: values that are spoilt one behind the other -/
import Derived.Test.YtjgbhnbfojkhoaaGreatDoorOw13
import Derived.Test.YtjgbhnbfojkhoaaGreatDoorOw17
namespace Go.Proofs.YtjgbhnbfojkhoaaGreatDoor
open Go.RowKit
set_option linter.unusedVariables false

/-- A row of values, each in blocks of its own; those from the i-th on aren't spoilt yet. -/
structure OwnSt (w0 w : World) (lim Y : Nat) (ys : List It) (lo hi : Nat → Nat) (i : Nat) : Prop where
  below : Below lim w0 w
  lims : lim ≤ w.heap.size
  arr : Blk w Y (ys.flatMap It.cells).toArray 26
  rest : ∀ j, i ≤ j → ∀ h : j < ys.length, ∃ T, Fresh (lo j) (hi j) w ys[j].val T
  rng : ∀ j, j < ys.length → lim ≤ lo j ∧ lo j ≤ Y ∧ hi j ≤ Y
  apart : ∀ j j', j < ys.length → j' < ys.length → j ≠ j' → hi j ≤ lo j' ∨ hi j' ≤ lo j
theorem OwnSt.later {w0 w W : World} {lim Y : Nat} {ys : List It} {lo hi : Nat → Nat} {i : Nat} (h : OwnSt w0 w lim Y ys lo hi i) (hb : Below w.heap.size w W) : OwnSt w0 W lim Y ys lo hi i := by
  have hY := h.arr.lt
  refine ⟨?_, Nat.le_trans h.lims hb.size, h.arr.below hb, fun j hij hj => ?_, h.rng, h.apart⟩
  · exact h.below.trans (hb.mono h.lims)
  · obtain ⟨T, hT⟩ := h.rest j hij hj
    have hr := h.rng j hj
    exact ⟨T, hT.keep (fun g _ hg => hb.block g (by omega)) (Nat.le_refl _) (Nat.le_refl _)⟩
theorem OwnSt.step {w0 w W w' : World} {lim Y : Nat} {ys : List It} {lo hi : Nat → Nat} {i : Nat} (h : OwnSt w0 w lim Y ys lo hi i) (hlt : i < ys.length) (hb : Below w.heap.size w W) (hs : Spoilt (lo i) (hi i) w w') (ho : Outside (hi i) W w') : OwnSt w0 w' lim Y ys lo hi (i + 1) := by
  have hY := h.arr.lt
  have hri := h.rng i hlt
  have hup : ∀ g, hi i ≤ g → g < w.heap.size → w'.heap[g]? = w.heap[g]? := fun g h1 h2 => (ho.block g h1 (Nat.lt_of_lt_of_le h2 hb.size)).trans (hb.block g h2)
  refine ⟨h.below.trans (hs.below.mono hri.1), Nat.le_trans h.lims hs.below.size, (hup Y hri.2.2 hY).trans h.arr, fun j hij hj => ?_, h.rng, h.apart⟩
  obtain ⟨T, hT⟩ := h.rest j (by omega) hj
  have hrj := h.rng j hj
  refine ⟨T, hT.keep (fun g g1 g2 => ?_) (Nat.le_refl _) (Nat.le_refl _)⟩
  rcases h.apart i j hlt hj (by omega) with h1 | h1
  · exact hup g (by omega) (by omega)
  · exact hs.below.block g (by omega)
/-- The i-th value's cells, and what spoil does to it. -/
theorem OwnSt.at {w0 w : World} {lim Y : Nat} {ys : List It} {lo hi : Nat → Nat} {i : Nat} (h : OwnSt w0 w lim Y ys lo hi i) (hlt : i < ys.length) : ∃ k b t ai ni ci ak nk ck, Five w Y (i * 5) (.int .i64 k) (.bool b) (.string t) (.slice ai ni ci) (.slice ak nk ck) ∧
    ∀ W, Below w.heap.size w W → Calls Tryz.prog 27 #[.agg #[.int .i64 k, .bool b, .string t, .slice ai ni ci, .slice ak nk ck]] W fun e w' => e = .returned (.tuple #[]) ∧ OwnSt w0 w' lim Y ys lo hi (i + 1) := by
  obtain ⟨T, hT⟩ := h.rest i (Nat.le_refl _) hlt
  have hsh := hT.shape
  obtain ⟨k, b, t, ai, ni, ci, ak, nk, ck, e⟩ := hsh
  have e0 := e
  unfold It.val at e
  simp only [Value.agg.injEq, Array.mk.injEq, List.cons.injEq, and_true] at e
  obtain ⟨e1, e2, e3, e4, e5⟩ := e
  have hc : ∀ q, q < 5 → w.cell? ⟨Y, i * 5 + q, none⟩ = (ys[i].cells)[q]? := fun q hq => by
    rw [h.arr.cell, List.getElem?_toArray, flat5_at hlt hq]
  have hc0 := hc 0 (by omega)
  have hc1 := hc 1 (by omega)
  have hc2 := hc 2 (by omega)
  have hc3 := hc 3 (by omega)
  have hc4 := hc 4 (by omega)
  unfold It.cells at hc0 hc1 hc2 hc3 hc4
  rw [e1, e2, e3, e4, e5] at hc0 hc1 hc2 hc3 hc4
  have hri := h.rng i hlt
  have hY := h.arr.lt
  refine ⟨k, b, t, ai, ni, ci, ak, nk, ck, ⟨hc0, hc1, hc2, hc3, hc4⟩, fun W hb => ?_⟩
  rw [e0] at hT
  have hW := hb.size
  have hsp := spoil_any hT W (.agg #[.int .i64 k, .bool b, .string t, .slice ai ni ci, .slice ak nk ck]) (by omega) (by omega) ((Spoilt.refl _ _ w).later hb (by omega) (by omega)) ⟨k, b, t, ai, ni, ci, ak, nk, ck, k, b, t, ai, ni, ci, ak, nk, ck, rfl, rfl, .inl ⟨rfl, rfl, rfl⟩, .inl ⟨rfl, rfl, rfl⟩⟩
  refine hsp.mono ?_
  rintro e w' ⟨rfl, hs, ho⟩
  exact ⟨rfl, h.step hlt hb hs ho⟩
/-- Worlds of which the later one keeps all that was. -/
structure Kp (w W : World) : Prop where
  size : w.heap.size ≤ W.heap.size
  block : ∀ g, g < w.heap.size → W.heap[g]? = w.heap[g]?
theorem Kp.refl (w : World) : Kp w w := ⟨Nat.le_refl _, fun _ _ => rfl⟩
theorem Kp.below {w W W' : World} (h : Kp w W) (hb : Below W.heap.size W W') : Kp w W' := ⟨Nat.le_trans h.size hb.size, fun g h1 => (hb.block g (Nat.lt_of_lt_of_le h1 h.size)).trans (h.block g h1)⟩
theorem Kp.alloc {w W : World} {o : Obj} (h : Kp w W) : Kp w (W.alloc o) := h.below ((Below.refl _ _).alloc (Nat.le_refl _) _)
theorem Kp.drw {w W : World} (h : Kp w W) : Kp w W.drew := ⟨h.size, h.block⟩
theorem Kp.fresh {lo B : Nat} {w W : World} {v : Value} {T : VT} (h : Kp w W) (hf : Fresh lo B w v T) (hB : B ≤ w.heap.size) : Fresh lo B W v T := hf.keep (fun g _ g2 => h.block g (Nat.lt_of_lt_of_le g2 hB)) (Nat.le_refl _) (Nat.le_refl _)
/-- Six values, made one behind the other: the fifth first, then the sixth, then the others. -/
theorem OwnSt.of {w0 w : World} {lim Y : Nat} {y0 y1 y2 y3 y4 y5 : It} {l0 h0 : Nat} {l1 h1 : Nat} {l2 h2 : Nat} {l3 h3 : Nat} {l4 h4 : Nat} {l5 h5 : Nat} {T0 T1 T2 T3 T4 T5 : VT} (hb : Below lim w0 w) (hlim : lim ≤ w.heap.size) (harr : Blk w Y (([y0, y1, y2, y3, y4, y5] : List It).flatMap It.cells).toArray 26)
    (f0 : Fresh l0 h0 w y0.val T0) (f1 : Fresh l1 h1 w y1.val T1) (f2 : Fresh l2 h2 w y2.val T2) (f3 : Fresh l3 h3 w y3.val T3) (f4 : Fresh l4 h4 w y4.val T4) (f5 : Fresh l5 h5 w y5.val T5)
    (c : lim ≤ l4 ∧ l4 ≤ h4 ∧ h4 ≤ l5 ∧ l5 ≤ h5 ∧ h5 ≤ l0 ∧ l0 ≤ h0 ∧ h0 ≤ l1 ∧ l1 ≤ h1 ∧ h1 ≤ l2 ∧ l2 ≤ h2 ∧ h2 ≤ l3 ∧ l3 ≤ h3 ∧ h3 ≤ Y) : ∃ lo hi, OwnSt w0 w lim Y [y0, y1, y2, y3, y4, y5] lo hi 0 := by
  refine ⟨fun j => [l0, l1, l2, l3, l4, l5].getD j 0, fun j => [h0, h1, h2, h3, h4, h5].getD j 0, hb, hlim, harr, fun j _ hj => ?_, fun j hj => ?_, fun j j' hj hj' hne => ?_⟩
  · have hj6 : j < 6 := hj
    rcases (show j = 0 ∨ j = 1 ∨ j = 2 ∨ j = 3 ∨ j = 4 ∨ j = 5 by omega) with rfl | rfl | rfl | rfl | rfl | rfl
    · exact ⟨_, f0⟩
    · exact ⟨_, f1⟩
    · exact ⟨_, f2⟩
    · exact ⟨_, f3⟩
    · exact ⟨_, f4⟩
    · exact ⟨_, f5⟩
  · have hj6 : j < 6 := hj
    rcases (show j = 0 ∨ j = 1 ∨ j = 2 ∨ j = 3 ∨ j = 4 ∨ j = 5 by omega) with rfl | rfl | rfl | rfl | rfl | rfl <;> simp <;> omega
  · have hj6 : j < 6 := hj
    have hj7 : j' < 6 := hj'
    rcases (show j = 0 ∨ j = 1 ∨ j = 2 ∨ j = 3 ∨ j = 4 ∨ j = 5 by omega) with rfl | rfl | rfl | rfl | rfl | rfl <;> rcases (show j' = 0 ∨ j' = 1 ∨ j' = 2 ∨ j' = 3 ∨ j' = 4 ∨ j' = 5 by omega) with rfl | rfl | rfl | rfl | rfl | rfl <;> first | exact absurd rfl hne | (simp; omega)
end Go.Proofs.YtjgbhnbfojkhoaaGreatDoor
