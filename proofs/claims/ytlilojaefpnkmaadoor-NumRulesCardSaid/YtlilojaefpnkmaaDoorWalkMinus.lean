/- Whole numbers: subtract, compare. -/
import Derived.Test.YtlilojaefpnkmaaDoorWalkPlus
namespace Go.Proofs.YtlilojaefpnkmaaDoor
open Go.RowKit

theorem sg_not (b : Int) : sg (!decide (b < 0)) b.natAbs = -b := by
  unfold sg
  by_cases h : b < 0
  · simp only [h, decide_true, Bool.not_true]; rw [if_neg (by simp)]; omega
  · simp only [h, decide_false, Bool.not_false]; rw [if_pos trivial]; omega
theorem room_neg {b : Int} (h : Room b) : Room (-b) := by unfold Room at *; rwa [Int.natAbs_neg]

set_option maxHeartbeats 1000000 in
theorem subtract_any {w : World} {va vb : Value} {a b : Int} (ha : Wh 0 w va a) (hb : Wh 0 w vb b) (hra : Room a) (hrb : Room b) :
    Calls Tryd.prog 31 #[va, vb] w fun e w' => MakesW w.heap.size w.heap.size w (a - b) e w' := by
  obtain ⟨sa, rfl, hsa⟩ := ha
  obtain ⟨sb, rfl, hsb⟩ := hb
  have HA := Lib.hid hsa
  have HB := Lib.hid hsb
  obtain ⟨ada, capa, rfl, -, -, -⟩ := hsa.view
  obtain ⟨adb, capb, rfl, -, -, -⟩ := hsb.view
  obtain ⟨la, hla⟩ : ∃ k, (limbs a.natAbs).length = k := ⟨_, rfl⟩
  obtain ⟨lb, hlb⟩ : ∃ k, (limbs b.natAbs).length = k := ⟨_, rfl⟩
  rw [hla] at HA ⊢
  rw [hlb] at HB ⊢
  obtain ⟨na, hna⟩ : ∃ na, decide (a < 0) = na := ⟨_, rfl⟩
  obtain ⟨nb, hnb⟩ : ∃ nb, decide (b < 0) = nb := ⟨_, rfl⟩
  rw [hna, hnb]
  have HN := Lib.hid hna
  have HM := Lib.hid hnb
  have HWA : Hid (∀ W, Below w.heap.size w W → Wh 0 W (.agg #[.bool na, .slice ada la capa]) a) := Lib.hid (fun W hW => ⟨_, by rw [← HN.out], HA.out.below hW⟩)
  obtain ⟨W0, hW0⟩ : ∃ W0, ((w.alloc (.cells #[.bool na, .slice ada la capa] 53)).alloc (.cells #[.bool nb, .slice adb lb capb] 53)).alloc (.cells #[.bool false, .slice none 0 0] 53) = W0 := ⟨_, rfl⟩
  have kA : Blk W0 w.heap.size #[.bool na, .slice ada la capa] 53 := by rw [← hW0]; exact ((Blk.new w _ _).alloc _).alloc _
  have kB : Blk W0 (w.heap.size + 1) #[.bool nb, .slice adb lb capb] 53 := by rw [← hW0]; have := Blk.new (w.alloc (.cells #[.bool na, .slice ada la capa] 53)) #[.bool nb, .slice adb lb capb] 53; rw [World.size_alloc] at this; exact this.alloc _
  have kR : Blk W0 (w.heap.size + 1 + 1) #[.bool false, .slice none 0 0] 53 := by rw [← hW0]; have := Blk.new ((w.alloc (.cells #[.bool na, .slice ada la capa] 53)).alloc (.cells #[.bool nb, .slice adb lb capb] 53)) #[.bool false, .slice none 0 0] 53; rw [World.size_alloc, World.size_alloc] at this; exact this
  have hb0 : Below w.heap.size w W0 := by rw [← hW0]; exact (((Below.refl _ w).alloc (Nat.le_refl _) _).alloc (by simp) _).alloc (by simp; omega) _
  have hmix : Tryd.prog.follows .mixedOrders = true := by kernel_rfl
  clear hsa hsb hla hlb hna hnb
  have hbd : Below W0.heap.size W0 W0.drew := (Below.refl _ W0).drew
  have hsg := signed_any (!nb) ((HB.out.below hb0).below hbd)
  rw [← HM.out, sg_not, HM.out] at hsg
  have HC := Lib.hid hsg
  have HRB := Lib.hid (room_neg hrb)
  obtain ⟨c, hc⟩ : ∃ c, -b = c := ⟨_, rfl⟩
  have HE : Hid (a + c = a - b) := Lib.hid (by omega)
  rw [hc] at HC HRB
  have kA0 := kA.at0
  have kA1 := kA.at1
  have kB0 := kB.at0
  have kB1 := kB.at1
  clear hsg hc
  go_enter Tryd.func31, Tryd.ntmps31
  go_wp2
  go_region_held3 (fun W => W.cell? ⟨w.heap.size, 0, none⟩ = some (.bool na) ∧ W.cell? ⟨w.heap.size, 1, none⟩ = some (.slice ada la capa) ∧ W.cell? ⟨w.heap.size + 1, 0, none⟩ = some (.bool nb) ∧ W.cell? ⟨w.heap.size + 1, 1, none⟩ = some (.slice adb lb capb)) (first | (go_keep; done) | ((try dsimp only); (repeat' apply And.intro) <;> first | (go_keep; done) | exact far2_cell (by assumption) (by omega)))
    (first
      | (go_at_call 47; refine HC.out.mono ?_; rintro e W2 ⟨v, rfl, hwh, hb2⟩; have kA2 := kA.below (hbd.trans hb2); have kB2 := kB.below (hbd.trans hb2); have kR2 := kR.below (hbd.trans hb2); have hs2 := hb2.size; have hc0 := kA2.at0; have hc1 := kA2.at1; have hc2 := kB2.at0; have hc3 := kB2.at1; have hAdd := add_any (HWA.out W2 (hb0.trans ((hbd.trans hb2).mono hb0.size))) (hwh.mono (Nat.zero_le _)) hra HRB.out; rw [HE.out] at hAdd; have HAdd := Lib.hid hAdd; clear hAdd; obtain ⟨sv2, rfl, hsz2⟩ := hwh; obtain ⟨ad2, cap2, rfl, -, -, -⟩ := hsz2.view; clear hsz2)
      | (go_at_call 30; refine HAdd.out.mono ?_; rintro e W3 ⟨v, rfl, hwh, hb3⟩; have kA3 := kA2.below hb3; have kB3 := kB2.below hb3; have hg0 := kA3.at0; have hg1 := kA3.at1; have hg2 := kB3.at0; have hg3 := kB3.at1; have kR3 := kR2.below hb3; have hd0 := kR3.at0; have hd1 := kR3.at1; have he0 := kR3.frozen 0; have he1 := kR3.frozen 1; obtain ⟨sv3, rfl, hsz3⟩ := hwh; have HSZ := Lib.hid hsz3; obtain ⟨ad3, cap3, rfl, -, -, -⟩ := hsz3.view; clear hsz3))
  have hk4 := kR3.set2 (.bool (decide (a - b < 0))) (.slice ad3 (limbs (a - b).natAbs).length cap3)
  have hx0 := hk4.at0
  have hx1 := hk4.at1
  go_wp2
  have hB3 : Below w.heap.size w W3 := ((hb0.trans (hbd.mono hb0.size)).trans (hb2.mono hb0.size)).trans (hb3.mono (Nat.le_trans hb0.size hs2))
  refine bodyPost_ret (v := .agg #[.bool (decide (a - b < 0)), .slice ad3 (limbs (a - b).natAbs).length cap3]) ?_ rfl (makesW_of (m := (a - b).natAbs) ((HSZ.out.mono (Nat.le_trans hb0.size hs2)).far2 kR3 (by decide) _ _) rfl rfl ((hB3.setCell (p := ⟨w.heap.size + 1 + 1, 0, none⟩) (by simp; omega) _).setCell (p := ⟨w.heap.size + 1 + 1, 1, none⟩) (by simp; omega) _))
  simp [results, Tryd.results31, go_sem, hx0, hx1]

/-- The sign of a comparison of numbers. -/
def sgnI (a b : Int) : Int := if a < b then -1 else if b < a then 1 else 0

theorem sgnI_nn {a b : Int} (ha : ¬ a < 0) (hb : ¬ b < 0) : sgn a.natAbs b.natAbs = sgnI a b := by unfold sgn sgnI; repeat' split <;> omega
theorem sgnI_mm {a b : Int} (ha : a < 0) (hb : b < 0) : sgn b.natAbs a.natAbs = sgnI a b := by unfold sgn sgnI; repeat' split <;> omega
theorem sgnI_mn {a b : Int} (ha : a < 0) (hb : ¬ b < 0) : sgnI a b = -1 := by unfold sgnI; rw [if_pos (by omega)]
theorem sgnI_nm {a b : Int} (ha : ¬ a < 0) (hb : b < 0) : sgnI a b = 1 := by unfold sgnI; rw [if_neg (by omega), if_pos (by omega)]

set_option maxHeartbeats 1000000 in
theorem compare_any {w : World} {va vb : Value} {a b : Int} (ha : Wh 0 w va a) (hb : Wh 0 w vb b) (hra : Room a) (hrb : Room b) :
    Calls Tryd.prog 43 #[va, vb] w fun e w' => e = .returned (.int .i64 (sgnI a b)) ∧ Below w.heap.size w w' := by
  obtain ⟨sa, rfl, hsa⟩ := ha
  obtain ⟨sb, rfl, hsb⟩ := hb
  have HA := Lib.hid hsa
  have HB := Lib.hid hsb
  obtain ⟨ada, capa, rfl, -, -, -⟩ := hsa.view
  obtain ⟨adb, capb, rfl, -, -, -⟩ := hsb.view
  obtain ⟨la, hla⟩ : ∃ k, (limbs a.natAbs).length = k := ⟨_, rfl⟩
  obtain ⟨lb, hlb⟩ : ∃ k, (limbs b.natAbs).length = k := ⟨_, rfl⟩
  rw [hla] at HA ⊢
  rw [hlb] at HB ⊢
  clear hsa hsb hla hlb
  by_cases hna : a < 0
  · have e1 : decide (a < 0) = true := by simpa using hna
    by_cases hnb : b < 0
    · have e2 : decide (b < 0) = true := by simpa using hnb
      rw [e1, e2]
      have hb0 : Below w.heap.size w ((w.alloc (.cells #[.bool true, .slice ada la capa] 53)).alloc (.cells #[.bool true, .slice adb lb capb] 53)) := ((Below.refl _ w).alloc (Nat.le_refl _) _).alloc (by simp) _
      have HC := Lib.hid (compareSizes_any (HB.out.below hb0) (HA.out.below hb0) hrb hra)
      have HS := Lib.hid (sgnI_mm hna hnb)
      rw [HS.out] at HC
      clear e1 e2 hna hnb
      go_enter Tryd.func43, Tryd.ntmps43
      go_wp2_with (go_at_call 49; refine HC.out.mono ?_; rintro e W1 ⟨rfl, hb1⟩)
      go_ret
      exact ⟨rfl, hb0.trans (hb1.mono hb0.size)⟩
    · have e2 : decide (b < 0) = false := by simpa using hnb
      rw [e1, e2]
      have HS := Lib.hid (sgnI_mn hna hnb)
      clear e1 e2 hna hnb
      go_enter Tryd.func43, Tryd.ntmps43
      go_wp2
      go_ret
      exact ⟨by rw [HS.out]; rfl, ((Below.refl w.heap.size w).alloc (Nat.le_refl _) _).alloc (by simp) _⟩
  · have e1 : decide (a < 0) = false := by simpa using hna
    by_cases hnb : b < 0
    · have e2 : decide (b < 0) = true := by simpa using hnb
      rw [e1, e2]
      have HS := Lib.hid (sgnI_nm hna hnb)
      clear e1 e2 hna hnb
      go_enter Tryd.func43, Tryd.ntmps43
      go_wp2
      go_ret
      exact ⟨by rw [HS.out]; rfl, ((Below.refl w.heap.size w).alloc (Nat.le_refl _) _).alloc (by simp) _⟩
    · have e2 : decide (b < 0) = false := by simpa using hnb
      rw [e1, e2]
      have hb0 : Below w.heap.size w ((w.alloc (.cells #[.bool false, .slice ada la capa] 53)).alloc (.cells #[.bool false, .slice adb lb capb] 53)) := ((Below.refl _ w).alloc (Nat.le_refl _) _).alloc (by simp) _
      have HC := Lib.hid (compareSizes_any (HA.out.below hb0) (HB.out.below hb0) hra hrb)
      have HS := Lib.hid (sgnI_nn hna hnb)
      rw [HS.out] at HC
      clear e1 e2 hna hnb
      go_enter Tryd.func43, Tryd.ntmps43
      go_wp2_with (go_at_call 49; refine HC.out.mono ?_; rintro e W1 ⟨rfl, hb1⟩)
      go_ret
      exact ⟨rfl, hb0.trans (hb1.mono hb0.size)⟩

end Go.Proofs.YtlilojaefpnkmaaDoor
