/- value.Good. -/
import Derived.Test.YthmojhfakmdlfaaDoorVWithin
namespace Go.Proofs.YthmojhfakmdlfaaDoor
open Go.RowKit
set_option linter.unusedVariables false

instance (d r : Nat) (T : VT) : Decidable (within d r T) := by unfold within; infer_instance

set_option maxRecDepth 100000 in
set_option maxHeartbeats 1000000 in
theorem vGood_any {B : Nat} {w : World} {v : Value} {T : VT} (h : Is B w v T) (W : World) (hb : Below B w W) (hBW : B ≤ W.heap.size) : Calls Tryd.prog 7 #[v] W fun e w' => e = .returned (.bool (decide (within 24 1999 T))) ∧ Below W.heap.size W w' := by
  obtain ⟨k, b, t, ad, n, cap, adk, nk, capk, rfl⟩ := h.shape
  have hb0 := below_new W (.cells #[.int .i64 k, .bool b, .string t, .slice ad n cap, .slice adk nk capk] 26)
  have hb1 := hb0.alloc hb0.size (.cells #[.int .i64 1999] 3)
  have hR := Blk.new (W.alloc (.cells #[.int .i64 k, .bool b, .string t, .slice ad n cap, .slice adk nk capk] 26)) #[.int .i64 1999] 3
  rw [show (W.alloc (.cells #[.int .i64 k, .bool b, .string t, .slice ad n cap, .slice adk nk capk] 26)).heap.size = W.heap.size + 1 by simp] at hR
  have HW := Lib.hid (within_any h 24 1999 (W.heap.size + 1) _ (by omega) (by omega) (hb.trans (hb1.mono hBW)) (Nat.le_trans hBW hb1.size) (by omega) hR)
  have HB := Lib.hid hb1
  clear h hb0 hb1 hR
  obtain ⟨q, hq⟩ : ∃ q, decide (within 24 1999 T) = q := ⟨_, rfl⟩
  rw [hq]
  have HQ := Lib.hid hq
  clear hq
  go_enter Tryd.func7, Tryd.ntmps7
  go_wp2_with (go_at_call 26; refine HW.out.mono ?_; rintro e w3 ⟨b3, r3, rfl, hi3, hr3, hk3, ha3⟩)
  go_ret
  refine ⟨?_, ?_⟩
  · rw [← HQ.out]
    cases b3
    · rw [decide_eq_false (fun h => by have := hi3.2 h; cases this)]; rfl
    · rw [decide_eq_true (hi3.1 rfl)]; rfl
  · have := HB.out.trans ((ha3.below (B := W.heap.size) HB.out.size (by omega)))
    exact this
end Go.Proofs.YthmojhfakmdlfaaDoor
