/- awake: three texts. -/
import Derived.Test.YtpdepdigacpfiaaDoorLIs
import Derived.KernelRfl
namespace Go.Proofs.YtpdepdigacpfiaaDoor
open Go.RowKit Go.Shelf
set_option linter.unusedVariables false

theorem scan_one : scanL ⟨#[97, 32, 61, 32, 34, 120, 36, 123, 98, 125, 34, 32, 35, 32, 114]⟩ = .ok [⟨1, ⟨#[97]⟩, 0⟩, ⟨4, ⟨#[61]⟩, 2⟩, ⟨3, ⟨#[120, 36, 123, 98, 125]⟩, 4⟩] := by kernel_rfl
theorem scan_two : scanL ⟨#[97, 32, 38, 32, 98]⟩ = .error (40, 2) := by kernel_rfl
theorem scan_three : scanL ⟨#[60, 60, 69, 10, 97, 34, 98, 10, 69]⟩ = .ok [⟨3, ⟨#[97, 92, 34, 98, 92, 110]⟩, 0⟩] := by kernel_rfl

set_option maxRecDepth 100000 in
set_option maxHeartbeats 4000000 in
theorem awake_true {W : World} (hW : Ready W) : Calls Tryd.prog 7 #[] W fun e w' => e = .returned (.bool true) ∧ Below W.heap.size W w' := by
  have H1 := Lib.hid (scan_ok hW scan_one)
  have H2 := Lib.hid (fun w (h : Ready w) => scan_err h scan_two)
  have H3 := Lib.hid (fun w (h : Ready w) => scan_ok h scan_three)
  have HW := Lib.hid hW
  clear hW
  go_enter Tryd.func7, Tryd.ntmps7
  go_wp2_with fail
  go_at_call 8; refine H1.out.mono ?_; rintro e w1 ⟨v1, rfl, hr1, hb1⟩
  have HR1 := Lib.hid hr1
  have HB1 := Lib.hid hb1
  have HW1 := Lib.hid (HW.out.below hb1)
  clear hr1 hb1
  go_wp2_with fail
  go_at_call 8; refine (H2.out w1 HW1.out).mono ?_; rintro e w2 ⟨D, rfl, hbl, hb2⟩
  have HR2 := Lib.hid (HR1.out.below hb2)
  have HB2 := Lib.hid (HB1.out.trans (hb2.mono HB1.out.size))
  have HW2 := Lib.hid (HW1.out.below hb2)
  have HBl := Lib.hid hbl
  clear hbl hb2
  go_wp2_with fail
  go_at_call 8; refine (H3.out w2 HW2.out).mono ?_; rintro e w3 ⟨v3, rfl, hr3, hb3⟩
  have HB3 := Lib.hid (HB2.out.trans (hb3.mono HB2.out.size))
  have HI := Lib.hid (is_same (HBl.out.below hb3) (by decide))
  obtain ⟨g1, cap1, rfl, hg1, hc1⟩ := HR2.out.below hb3
  obtain ⟨g3, cap3, rfl, hg3, hc3⟩ := hr3
  have k2 := hc1 7 _ rfl
  have k4 := hc3 1 _ rfl
  have HK := Lib.hid (hc3 1 _ rfl)
  clear hc1 hc3 hb3 HR2
  go_wp2_with fail
  refine HI.out.mono ?_; rintro e w4 ⟨rfl, hb4⟩
  have k5 := cells_keep hb4 HK.out
  have HB4 := Lib.hid (HB3.out.trans (hb4.mono HB3.out.size))
  clear k4 hb4
  go_wp2
  go_ret
  exact ⟨rfl, HB4.out⟩
end Go.Proofs.YtpdepdigacpfiaaDoor
