/- Same: two rows of the same tokens. -/
import Derived.Test.YtpdepdigacpfiaaDoorLIs
import Derived.Deep.MidRow
namespace Go.Proofs.YtpdepdigacpfiaaDoor
open Go.RowKit Go.Shelf
set_option linter.unusedVariables false

theorem Row.cellAt {w : World} {g : Nat} {l : List Tk} (h : ∀ j u, (tkCells l)[j]? = some u → w.cell? ⟨g, j, none⟩ = some u) {i : Nat} {x : Tk} (hx : l[i]? = some x) : w.cell? ⟨g, i * 3, none⟩ = some (.int .i64 x.k) ∧ w.cell? ⟨g, i * 3 + 1, none⟩ = some (.string x.x) ∧ w.cell? ⟨g, i * 3 + 2, none⟩ = some (.int .i64 (x.at_ : Int)) := by
  refine ⟨?_, ?_, ?_⟩
  · have := h _ _ (tkCells_at l i 0 x _ hx (by omega) rfl)
    rwa [Nat.add_zero, Nat.mul_comm] at this
  · have := h _ _ (tkCells_at l i 1 x _ hx (by omega) rfl)
    rwa [Nat.mul_comm] at this
  · have := h _ _ (tkCells_at l i 2 x _ hx (by omega) rfl)
    rwa [Nat.mul_comm] at this
set_option maxRecDepth 100000 in
set_option maxHeartbeats 4000000 in
theorem same_any {W : World} {u v : Value} {l : List Tk} (hu : Row W u l) (hv : Row W v l) (hl : l.length ≤ 1000000) : Calls Tryd.prog 12 #[u, v] W fun e w' => e = .returned (.bool true) ∧ Below W.heap.size W w' := by
  obtain ⟨g1, cap1, rfl, hg1, hc1⟩ := hu
  obtain ⟨g2, cap2, rfl, hg2, hc2⟩ := hv
  have H1 := Lib.hid hc1
  have H2 := Lib.hid hc2
  obtain ⟨n, hn⟩ : ∃ n, l.length = n := ⟨_, rfl⟩
  have HN := Lib.hid hn
  rw [hn] at hl ⊢
  clear hc1 hc2 hn
  go_enter Tryd.func12, Tryd.ntmps12
  go_wp2_with fail
  go_loopg [13] n (fun gf s13 wx => ∃ i : Nat, s13 = .int .i64 (i : Int) ∧ Hid (Below W.heap.size W wx) ∧ i + gf = n)
  case atStart => exact ⟨0, rfl, Lib.hid (Below.refl _ _), by omega⟩
  case round =>
    obtain ⟨i, rfl, HB, hfi⟩ := hrel
    by_cases hi : i < n
    · obtain ⟨g', rfl⟩ : ∃ g', gk = g' + 1 := ⟨gk - 1, by omega⟩
      obtain ⟨x, hx⟩ : ∃ x, l[i]? = some x := ⟨_, List.getElem?_eq_getElem (by rw [HN.out]; exact hi)⟩
      obtain ⟨a0, a1, a2⟩ := Row.cellAt H1.out hx
      obtain ⟨b0, b1, b2⟩ := Row.cellAt H2.out hx
      have k0 := cells_keep HB.out a0
      have k1 := cells_keep HB.out a1
      have k2 := cells_keep HB.out a2
      have m0 := cells_keep HB.out b0
      have m1 := cells_keep HB.out b1
      have m2 := cells_keep HB.out b2
      obtain ⟨k, xb, p⟩ := x
      simp only at k0 k1 k2 m0 m1 m2
      have j1 : (i : Int) < (n : Int) := by omega
      clear a0 a1 a2 b0 b1 b2 hx
      go_wp2_with fail
      go_quiet (fail)
      go_wp2_with fail
      go_roundg g'
      case measure => omega
      case rel => exact ⟨i + 1, by push_cast; rfl, Lib.hid ((⟨HB.out.os, HB.out.tape, HB.out.output, HB.out.size, HB.out.block⟩ : Below W.heap.size W (wr.drewN nq))), by omega⟩
    · obtain rfl : i = n := by omega
      have j1 : ¬ (i : Int) < (i : Int) := by omega
      go_wp2
      go_ret
      exact ⟨rfl, HB.out⟩
end Go.Proofs.YtpdepdigacpfiaaDoor
