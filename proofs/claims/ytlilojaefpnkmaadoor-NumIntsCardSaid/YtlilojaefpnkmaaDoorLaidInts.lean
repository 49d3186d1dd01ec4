/- What NumInts' condition on its five variables gives the walks. -/
import Derived.Test.YtlilojaefpnkmaaDoorLaid
import Derived.Test.YtlilojaefpnkmaaDoorInts3
import Derived.LaidLaws
namespace Go.Proofs.YtlilojaefpnkmaaDoor
open Go.ChangeShapes Go.WideShapes Go.ChangeAt Go.WideMaps Go.WideElems Go.RowKit

/-- The five variables that the row lists. -/
def laid5 : List (String × DataW Unit) := [("math/bits.deBruijn32tab", Rows.laid_math_bits_deBruijn32tab), ("math/bits.deBruijn64tab", Rows.laid_math_bits_deBruijn64tab), ("internal/strconv.uint64pow10", Rows.laid_internal_strconv_uint64pow10), ("strconv.ErrRange", Rows.laid_strconv_ErrRange), ("strconv.ErrSyntax", Rows.laid_strconv_ErrSyntax)]
theorem gRange : Tryd.prog.globalNamed "strconv.ErrRange" = some 1 := by kernel_rfl

set_option maxRecDepth 100000 in
theorem door_met5 (os : Os) (args : Array Value) : laidMetH Tryd.prog laid5 ((World.doorLaid Tryd.prog 400 os).forCall (fun _ _ => 0) ⟨#[], args, []⟩).memory :=
  laidMetH_of_parts3 (fuel := 8) (laidMet_of_run' 8 (by kernel_rfl) (by kernel_rfl)) (by kernel_rfl) (by kernel_rfl)

theorem laid5_tab {W : World} (h : laidMetH Tryd.prog laid5 W) : Tab W.heap.size W := by
  rw [MakeChecks.laidMetH_plain _ _ _ (by kernel_rfl)] at h
  obtain ⟨ps, ⟨g0, t0, cs0, f0, p0, q0, hg0, ht0, hv0, hd0, ⟨g1, t1, cs1, f1, p1, q1, hg1, ht1, hv1, hd1, ⟨g2, t2, cs2, f2, p2, q2, hg2, ht2, hv2, hd2, _, _⟩, _⟩, _⟩, _⟩ := h
  obtain rfl := Option.some.inj (gPow.symm.trans hg2)
  obtain rfl := Option.some.inj (tyPow.symm.trans ht2)
  refine Lib.tabBelow_of_tabIs ?_
  unfold Lib.TabIs
  rw [hv2, ← Lib.cells_of_tab (n := 20) (e := 73) (k := .u64) (zs := Lib.pow10Tab) Tryd.underlying112 Tryd.underlying73 (by kernel_rfl) (by kernel_rfl) hd2]

theorem tyRange : (Tryd.prog.globals[ 1 ]?).map (·.type) = some 60 := by kernel_rfl
theorem laid5_range {W : World} (h : laidMetH Tryd.prog laid5 W) : RangeVar W := by
  rw [MakeChecks.laidMetH_plain _ _ _ (by kernel_rfl)] at h
  obtain ⟨ps, ⟨g0, t0, cs0, f0, p0, q0, hg0, ht0, hv0, hd0, ⟨g1, t1, cs1, f1, p1, q1, hg1, ht1, hv1, hd1, ⟨g2, t2, cs2, f2, p2, q2, hg2, ht2, hv2, hd2, ⟨g3, t3, cs3, f3, p3, q3, hg3, ht3, hv3, hd3, _, _⟩, _⟩, _⟩, _⟩, _⟩ := h
  obtain rfl := Option.some.inj (gRange.symm.trans hg3)
  obtain rfl := Option.some.inj (tyRange.symm.trans ht3)
  obtain ⟨f', u, v, hc, -, -⟩ := iface_of_trod Tryd.underlying60 hd3
  refine ⟨u, v, fun W' hb => ?_⟩
  have hv : W.var? Tryd.prog "strconv.ErrRange" = some #[.iface u v] := by
    rw [hv3]
    exact congrArg some (Array.ext' hc)
  unfold World.var? at *
  rw [gRange] at hv ⊢
  simp only [Option.bind_some] at hv ⊢
  have hlt : 1 < W.heap.size := by
    rcases Nat.lt_or_ge 1 W.heap.size with h' | h'
    · exact h'
    · rw [Array.getElem?_eq_none h'] at hv; simp at hv
  rw [hb.block _ hlt]
  exact hv
end Go.Proofs.YtlilojaefpnkmaaDoor
