/- Whole numbers: add, subtract, compare. -/
import Derived.Test.YtlilojaefpnkmaaDoorWalkArith
import Derived.Test.YtlilojaefpnkmaaDoorWalkSub
import Derived.Test.YtlilojaefpnkmaaDoorWalkCmp
namespace Go.Proofs.YtlilojaefpnkmaaDoor
open Go.RowKit

theorem sg_add {a b : Int} (h : decide (a < 0) = decide (b < 0)) : sg (decide (a < 0)) (a.natAbs + b.natAbs) = a + b := by
  unfold sg
  by_cases ha : a < 0
  · have hb : b < 0 := by simpa [ha] using h
    rw [if_pos (by simpa using ha)]; omega
  · have hb : ¬ b < 0 := by simpa [ha] using h
    rw [if_neg (by simpa using ha)]; omega
theorem sg_sub {a b : Int} (h : decide (a < 0) ≠ decide (b < 0)) (hl : b.natAbs ≤ a.natAbs) : sg (decide (a < 0)) (a.natAbs - b.natAbs) = a + b := by
  unfold sg
  by_cases ha : a < 0
  · have hb : ¬ b < 0 := by intro hb; apply h; simp [ha, hb]
    rw [if_pos (by simpa using ha)]; omega
  · have hb : b < 0 := by
      by_cases hb : b < 0
      · exact hb
      · exact absurd (by simp [ha, hb]) h
    rw [if_neg (by simpa using ha)]; omega
theorem sgn_neg {a b : Nat} (h : a < b) : sgn a b = -1 := by unfold sgn; rw [if_pos h]
theorem sgn_pos {a b : Nat} (h : b ≤ a) : sgn a b = 0 ∨ sgn a b = 1 := by unfold sgn; rw [if_neg (by omega)]; split <;> simp

set_option maxHeartbeats 1000000 in
theorem add_same {w : World} {va vb : Value} {a b : Int} (ha : Wh 0 w va a) (hb : Wh 0 w vb b) (hra : Room a) (hrb : Room b) (hs : decide (a < 0) = decide (b < 0)) :
    Calls Tryd.prog 30 #[va, vb] w fun e w' => MakesW w.heap.size w.heap.size w (a + b) e w' := by
  obtain ⟨sa, rfl, hsa⟩ := ha
  obtain ⟨sb, rfl, hsb⟩ := hb
  have HA := Lib.hid hsa
  have HB := Lib.hid hsb
  obtain ⟨ada, capa, rfl, -, -, -⟩ := hsa.view
  obtain ⟨adb, capb, rfl, -, -, -⟩ := hsb.view
  obtain ⟨la, hla⟩ : ∃ k, (limbs a.natAbs).length = k := ⟨_, rfl⟩
  obtain ⟨lb, hlb⟩ : ∃ k, (limbs b.natAbs).length = k := ⟨_, rfl⟩
  rw [hla] at HA ⊢
  rw [hlb] at HB ⊢
  obtain ⟨na, hna⟩ : ∃ na, decide (a < 0) = na := ⟨_, rfl⟩
  obtain ⟨nb, hnb⟩ : ∃ nb, decide (b < 0) = nb := ⟨_, rfl⟩
  rw [hna, hnb]
  have HN := Lib.hid hna
  have HM := Lib.hid hnb
  obtain ⟨W0, hW0⟩ : ∃ W0, ((w.alloc (.cells #[.bool na, .slice ada la capa] 53)).alloc (.cells #[.bool nb, .slice adb lb capb] 53)).alloc (.cells #[.bool false, .slice none 0 0] 53) = W0 := ⟨_, rfl⟩
  have kA : Blk W0 w.heap.size #[.bool na, .slice ada la capa] 53 := by rw [← hW0]; exact ((Blk.new w _ _).alloc _).alloc _
  have kB : Blk W0 (w.heap.size + 1) #[.bool nb, .slice adb lb capb] 53 := by rw [← hW0]; have := Blk.new (w.alloc (.cells #[.bool na, .slice ada la capa] 53)) #[.bool nb, .slice adb lb capb] 53; rw [World.size_alloc] at this; exact this.alloc _
  have kR : Blk W0 (w.heap.size + 1 + 1) #[.bool false, .slice none 0 0] 53 := by rw [← hW0]; have := Blk.new ((w.alloc (.cells #[.bool na, .slice ada la capa] 53)).alloc (.cells #[.bool nb, .slice adb lb capb] 53)) #[.bool false, .slice none 0 0] 53; rw [World.size_alloc, World.size_alloc] at this; exact this
  have hb0 : Below w.heap.size w W0 := by rw [← hW0]; exact (((Below.refl _ w).alloc (Nat.le_refl _) _).alloc (by simp) _).alloc (by simp; omega) _
  have hmix : Tryd.prog.follows .mixedOrders = true := by kernel_rfl
  clear hsa hsb hla hlb hna hnb
  have HE : Hid (sg na (a.natAbs + b.natAbs) = a + b) := Lib.hid (by rw [← HN.out]; exact sg_add hs)
  have hnn : na = nb := by rw [← HN.out, ← HM.out]; exact hs
  subst hnn
  have hbd : Below W0.heap.size W0 W0.drew := (Below.refl _ W0).drew
  have HC := Lib.hid (addSizes_any ((HA.out.below hb0).below hbd) ((HB.out.below hb0).below hbd) hra hrb)
  have kA0 := kA.at0
  have kA1 := kA.at1
  have kB0 := kB.at0
  have kB1 := kB.at1
  have mA := kA
  have mB := kB
  have mR := kR
  have hbm := hb0
  have e1 : (na == na) = true := by simp
  clear hs kA kB kR
  go_enter Tryd.func30, Tryd.ntmps30
  go_wp2
  go_region_held3 (fun W => W.cell? ⟨w.heap.size, 0, none⟩ = some (.bool na) ∧ W.cell? ⟨w.heap.size, 1, none⟩ = some (.slice ada la capa) ∧ W.cell? ⟨w.heap.size + 1, 1, none⟩ = some (.slice adb lb capb)) (first | (go_keep; done) | ((try dsimp only); (repeat' apply And.intro) <;> first | (go_keep; done) | exact far2_cell (by assumption) (by omega)))
    (first
      | (go_at_call 48; refine HC.out.mono ?_; rintro e W2 ⟨sv, rfl, hsz, hb2⟩; have kA2 := mA.below (hbd.trans hb2); have kB2 := mB.below (hbd.trans hb2); have kR2 := mR.below (hbd.trans hb2); have hs2 := hb2.size; have hc0 := kA2.at0; have hc1 := kA2.at1; have hc3 := kB2.at1; have hSig := signed_any na hsz; rw [HE.out] at hSig; have HSig := Lib.hid hSig; clear hSig)
      | (go_at_call 47; refine HSig.out.mono ?_; rintro e W3 ⟨v, rfl, hwh, hb3⟩; have kA3 := kA2.below hb3; have kB3 := kB2.below hb3; have hg0 := kA3.at0; have hg1 := kA3.at1; have hg3 := kB3.at1; have kR3 := kR2.below hb3; have hd0 := kR3.at0; have hd1 := kR3.at1; have he0 := kR3.frozen 0; have he1 := kR3.frozen 1; obtain ⟨sv3, rfl, hsz3⟩ := hwh; have HSZ := Lib.hid hsz3; obtain ⟨ad3, cap3, rfl, -, -, -⟩ := hsz3.view; clear hsz3))
  have hk4 := kR3.set2 (.bool (decide (a + b < 0))) (.slice ad3 (limbs (a + b).natAbs).length cap3)
  have hx0 := hk4.at0
  have hx1 := hk4.at1
  go_wp2
  have hB3 : Below w.heap.size w W3 := ((hbm.trans (hbd.mono hbm.size)).trans (hb2.mono hbm.size)).trans (hb3.mono (Nat.le_trans hbm.size hs2))
  refine bodyPost_ret (v := .agg #[.bool (decide (a + b < 0)), .slice ad3 (limbs (a + b).natAbs).length cap3]) ?_ rfl (makesW_of (m := (a + b).natAbs) ((HSZ.out.mono hbm.size).far2 kR3 (by decide) _ _) rfl rfl ((hB3.setCell (p := ⟨w.heap.size + 1 + 1, 0, none⟩) (by simp; omega) _).setCell (p := ⟨w.heap.size + 1 + 1, 1, none⟩) (by simp; omega) _))
  simp [results, Tryd.results30, go_sem, hx0, hx1]

set_option maxHeartbeats 1000000 in
theorem add_far {w : World} {va vb : Value} {a b : Int} (ha : Wh 0 w va a) (hb : Wh 0 w vb b) (hra : Room a) (hrb : Room b) (hs : decide (a < 0) ≠ decide (b < 0)) (hl : b.natAbs ≤ a.natAbs) :
    Calls Tryd.prog 30 #[va, vb] w fun e w' => MakesW w.heap.size w.heap.size w (a + b) e w' := by
  obtain ⟨sa, rfl, hsa⟩ := ha
  obtain ⟨sb, rfl, hsb⟩ := hb
  have HA := Lib.hid hsa
  have HB := Lib.hid hsb
  obtain ⟨ada, capa, rfl, -, -, -⟩ := hsa.view
  obtain ⟨adb, capb, rfl, -, -, -⟩ := hsb.view
  obtain ⟨la, hla⟩ : ∃ k, (limbs a.natAbs).length = k := ⟨_, rfl⟩
  obtain ⟨lb, hlb⟩ : ∃ k, (limbs b.natAbs).length = k := ⟨_, rfl⟩
  rw [hla] at HA ⊢
  rw [hlb] at HB ⊢
  obtain ⟨na, hna⟩ : ∃ na, decide (a < 0) = na := ⟨_, rfl⟩
  obtain ⟨nb, hnb⟩ : ∃ nb, decide (b < 0) = nb := ⟨_, rfl⟩
  rw [hna, hnb]
  have HN := Lib.hid hna
  have HM := Lib.hid hnb
  obtain ⟨W0, hW0⟩ : ∃ W0, ((w.alloc (.cells #[.bool na, .slice ada la capa] 53)).alloc (.cells #[.bool nb, .slice adb lb capb] 53)).alloc (.cells #[.bool false, .slice none 0 0] 53) = W0 := ⟨_, rfl⟩
  have kA : Blk W0 w.heap.size #[.bool na, .slice ada la capa] 53 := by rw [← hW0]; exact ((Blk.new w _ _).alloc _).alloc _
  have kB : Blk W0 (w.heap.size + 1) #[.bool nb, .slice adb lb capb] 53 := by rw [← hW0]; have := Blk.new (w.alloc (.cells #[.bool na, .slice ada la capa] 53)) #[.bool nb, .slice adb lb capb] 53; rw [World.size_alloc] at this; exact this.alloc _
  have kR : Blk W0 (w.heap.size + 1 + 1) #[.bool false, .slice none 0 0] 53 := by rw [← hW0]; have := Blk.new ((w.alloc (.cells #[.bool na, .slice ada la capa] 53)).alloc (.cells #[.bool nb, .slice adb lb capb] 53)) #[.bool false, .slice none 0 0] 53; rw [World.size_alloc, World.size_alloc] at this; exact this
  have hb0 : Below w.heap.size w W0 := by rw [← hW0]; exact (((Below.refl _ w).alloc (Nat.le_refl _) _).alloc (by simp) _).alloc (by simp; omega) _
  have hmix : Tryd.prog.follows .mixedOrders = true := by kernel_rfl
  clear hsa hsb hla hlb hna hnb
  have HE : Hid (sg na (a.natAbs - b.natAbs) = a + b) := Lib.hid (by rw [← HN.out]; exact sg_sub hs hl)
  have e1 : (na == nb) = false := by rw [← HN.out, ← HM.out]; exact beq_eq_false_iff_ne.2 hs
  have HC0 := Lib.hid (compareSizes_any (HA.out.below hb0) (HB.out.below hb0) hra hrb)
  obtain ⟨sx, hsx⟩ : ∃ sx, sgn a.natAbs b.natAbs = sx := ⟨_, rfl⟩
  have hsx0 : 0 ≤ sx := by rw [← hsx]; rcases sgn_pos hl with h | h <;> omega
  rw [hsx] at HC0
  have HL := Lib.hid hl
  have kA0 := kA.at0
  have kA1 := kA.at1
  have kB0 := kB.at0
  have kB1 := kB.at1
  clear hs hsx hl
  go_enter Tryd.func30, Tryd.ntmps30
  go_wp2_with (go_at_call 49; refine HC0.out.mono ?_; rintro e W1 ⟨rfl, hb1⟩; have mA := kA.below hb1; have mB := kB.below hb1; have mR := kR.below hb1; have q0 := mA.at0; have q1 := mA.at1; have q2 := mB.at0; have q3 := mB.at1)
  have hbm : Below w.heap.size w W1 := hb0.trans (hb1.mono hb0.size)
  have hbd : Below W1.heap.size W1 W1.drew := (Below.refl _ W1).drew
  have HC := Lib.hid (subtractSizes_any ((HA.out.below hbm).below hbd) ((HB.out.below hbm).below hbd) HL.out hra)
  go_region_held3 (fun W => W.cell? ⟨w.heap.size, 0, none⟩ = some (.bool na) ∧ W.cell? ⟨w.heap.size, 1, none⟩ = some (.slice ada la capa) ∧ W.cell? ⟨w.heap.size + 1, 1, none⟩ = some (.slice adb lb capb)) (first | (go_keep; done) | ((try dsimp only); (repeat' apply And.intro) <;> first | (go_keep; done) | exact far2_cell (by assumption) (by omega)))
    (first
      | (go_at_call 50; refine HC.out.mono ?_; rintro e W2 ⟨sv, rfl, hsz, hb2⟩; have kA2 := mA.below (hbd.trans hb2); have kB2 := mB.below (hbd.trans hb2); have kR2 := mR.below (hbd.trans hb2); have hs2 := hb2.size; have hc0 := kA2.at0; have hc1 := kA2.at1; have hc3 := kB2.at1; have hSig := signed_any na hsz; rw [HE.out] at hSig; have HSig := Lib.hid hSig; clear hSig)
      | (go_at_call 47; refine HSig.out.mono ?_; rintro e W3 ⟨v, rfl, hwh, hb3⟩; have kA3 := kA2.below hb3; have kB3 := kB2.below hb3; have hg0 := kA3.at0; have hg1 := kA3.at1; have hg3 := kB3.at1; have kR3 := kR2.below hb3; have hd0 := kR3.at0; have hd1 := kR3.at1; have he0 := kR3.frozen 0; have he1 := kR3.frozen 1; obtain ⟨sv3, rfl, hsz3⟩ := hwh; have HSZ := Lib.hid hsz3; obtain ⟨ad3, cap3, rfl, -, -, -⟩ := hsz3.view; clear hsz3))
  have hk4 := kR3.set2 (.bool (decide (a + b < 0))) (.slice ad3 (limbs (a + b).natAbs).length cap3)
  have hx0 := hk4.at0
  have hx1 := hk4.at1
  go_wp2
  have hB3 : Below w.heap.size w W3 := ((hbm.trans (hbd.mono hbm.size)).trans (hb2.mono hbm.size)).trans (hb3.mono (Nat.le_trans hbm.size hs2))
  refine bodyPost_ret (v := .agg #[.bool (decide (a + b < 0)), .slice ad3 (limbs (a + b).natAbs).length cap3]) ?_ rfl (makesW_of (m := (a + b).natAbs) ((HSZ.out.mono hbm.size).far2 kR3 (by decide) _ _) rfl rfl ((hB3.setCell (p := ⟨w.heap.size + 1 + 1, 0, none⟩) (by simp; omega) _).setCell (p := ⟨w.heap.size + 1 + 1, 1, none⟩) (by simp; omega) _))
  simp [results, Tryd.results30, go_sem, hx0, hx1]

set_option maxHeartbeats 1000000 in
theorem add_near {w : World} {va vb : Value} {a b : Int} (ha : Wh 0 w va a) (hb : Wh 0 w vb b) (hra : Room a) (hrb : Room b) (hs : decide (a < 0) ≠ decide (b < 0)) (hl : a.natAbs < b.natAbs) :
    Calls Tryd.prog 30 #[va, vb] w fun e w' => MakesW w.heap.size w.heap.size w (a + b) e w' := by
  obtain ⟨sa, rfl, hsa⟩ := ha
  obtain ⟨sb, rfl, hsb⟩ := hb
  have HA := Lib.hid hsa
  have HB := Lib.hid hsb
  obtain ⟨ada, capa, rfl, -, -, -⟩ := hsa.view
  obtain ⟨adb, capb, rfl, -, -, -⟩ := hsb.view
  obtain ⟨la, hla⟩ : ∃ k, (limbs a.natAbs).length = k := ⟨_, rfl⟩
  obtain ⟨lb, hlb⟩ : ∃ k, (limbs b.natAbs).length = k := ⟨_, rfl⟩
  rw [hla] at HA ⊢
  rw [hlb] at HB ⊢
  obtain ⟨na, hna⟩ : ∃ na, decide (a < 0) = na := ⟨_, rfl⟩
  obtain ⟨nb, hnb⟩ : ∃ nb, decide (b < 0) = nb := ⟨_, rfl⟩
  rw [hna, hnb]
  have HN := Lib.hid hna
  have HM := Lib.hid hnb
  obtain ⟨W0, hW0⟩ : ∃ W0, ((w.alloc (.cells #[.bool na, .slice ada la capa] 53)).alloc (.cells #[.bool nb, .slice adb lb capb] 53)).alloc (.cells #[.bool false, .slice none 0 0] 53) = W0 := ⟨_, rfl⟩
  have kA : Blk W0 w.heap.size #[.bool na, .slice ada la capa] 53 := by rw [← hW0]; exact ((Blk.new w _ _).alloc _).alloc _
  have kB : Blk W0 (w.heap.size + 1) #[.bool nb, .slice adb lb capb] 53 := by rw [← hW0]; have := Blk.new (w.alloc (.cells #[.bool na, .slice ada la capa] 53)) #[.bool nb, .slice adb lb capb] 53; rw [World.size_alloc] at this; exact this.alloc _
  have kR : Blk W0 (w.heap.size + 1 + 1) #[.bool false, .slice none 0 0] 53 := by rw [← hW0]; have := Blk.new ((w.alloc (.cells #[.bool na, .slice ada la capa] 53)).alloc (.cells #[.bool nb, .slice adb lb capb] 53)) #[.bool false, .slice none 0 0] 53; rw [World.size_alloc, World.size_alloc] at this; exact this
  have hb0 : Below w.heap.size w W0 := by rw [← hW0]; exact (((Below.refl _ w).alloc (Nat.le_refl _) _).alloc (by simp) _).alloc (by simp; omega) _
  have hmix : Tryd.prog.follows .mixedOrders = true := by kernel_rfl
  clear hsa hsb hla hlb hna hnb
  have HE : Hid (sg nb (b.natAbs - a.natAbs) = a + b) := Lib.hid (by rw [← HM.out, sg_sub (Ne.symm hs) (by omega)]; omega)
  have e1 : (na == nb) = false := by rw [← HN.out, ← HM.out]; exact beq_eq_false_iff_ne.2 hs
  have HC0 := Lib.hid (compareSizes_any (HA.out.below hb0) (HB.out.below hb0) hra hrb)
  obtain ⟨sx, hsx⟩ : ∃ sx, sgn a.natAbs b.natAbs = sx := ⟨_, rfl⟩
  have hsx0 : sx < 0 := by rw [← hsx, sgn_neg hl]; omega
  rw [hsx] at HC0
  have HL : Hid (a.natAbs ≤ b.natAbs) := Lib.hid (by omega)
  have kA0 := kA.at0
  have kA1 := kA.at1
  have kB0 := kB.at0
  have kB1 := kB.at1
  clear hs hsx hl
  go_enter Tryd.func30, Tryd.ntmps30
  go_wp2_with (go_at_call 49; refine HC0.out.mono ?_; rintro e W1 ⟨rfl, hb1⟩; have mA := kA.below hb1; have mB := kB.below hb1; have mR := kR.below hb1; have q0 := mA.at0; have q1 := mA.at1; have q2 := mB.at0; have q3 := mB.at1; have f0 := mA.frozen 0; have f1 := mA.frozen 1; have f2 := mB.frozen 0; have f3 := mB.frozen 1)
  obtain ⟨W9, hW9⟩ : ∃ W9, (((W1.setCell ⟨w.heap.size, 0, none⟩ (.bool nb)).setCell ⟨w.heap.size, 1, none⟩ (.slice adb lb capb)).setCell ⟨w.heap.size + 1, 0, none⟩ (.bool na)).setCell ⟨w.heap.size + 1, 1, none⟩ (.slice ada la capa) = W9 := ⟨_, rfl⟩
  rw [hW9]
  have nA1 := mA.set2 (.bool nb) (.slice adb lb capb)
  have nB1 := (mB.other (p := ⟨w.heap.size, 0, none⟩) (by simp) (.bool nb)).other (p := ⟨w.heap.size, 1, none⟩) (by simp) (.slice adb lb capb)
  have nR1 := (mR.other (p := ⟨w.heap.size, 0, none⟩) (by simp; omega) (.bool nb)).other (p := ⟨w.heap.size, 1, none⟩) (by simp; omega) (.slice adb lb capb)
  have pA := (nA1.other (p := ⟨w.heap.size + 1, 0, none⟩) (by simp) (.bool na)).other (p := ⟨w.heap.size + 1, 1, none⟩) (by simp) (.slice ada la capa)
  have pB := nB1.set2 (.bool na) (.slice ada la capa)
  have pR := (nR1.other (p := ⟨w.heap.size + 1, 0, none⟩) (by simp) (.bool na)).other (p := ⟨w.heap.size + 1, 1, none⟩) (by simp) (.slice ada la capa)
  have hS1 : Sz 0 W9 (.slice ada la capa) a.natAbs := by rw [← hW9]; exact (((HA.out.below hb0).below hb1).far2 mA (by decide) _ _).far2 nB1 (by decide) _ _
  have hS2 : Sz 0 W9 (.slice adb lb capb) b.natAbs := by rw [← hW9]; exact (((HB.out.below hb0).below hb1).far2 mA (by decide) _ _).far2 nB1 (by decide) _ _
  have hbm : Below w.heap.size w W9 := by
    rw [← hW9]
    exact ((((hb0.trans (hb1.mono hb0.size)).setCell (p := ⟨w.heap.size, 0, none⟩) (by simp) _).setCell (p := ⟨w.heap.size, 1, none⟩) (by simp) _).setCell (p := ⟨w.heap.size + 1, 0, none⟩) (by simp) _).setCell (p := ⟨w.heap.size + 1, 1, none⟩) (by simp) _
  rw [hW9] at pA pB pR
  clear hW9 nA1 nB1 nR1 mA mB mR q0 q1 q2 q3 f0 f1 f2 f3
  have mA := pA
  have mB := pB
  have mR := pR
  have q0 := mA.at0
  have q1 := mA.at1
  have q2 := mB.at0
  have q3 := mB.at1
  clear pA pB pR
  have hbd : Below W9.heap.size W9 W9.drew := (Below.refl _ W9).drew
  have HC := Lib.hid (subtractSizes_any (hS2.below hbd) (hS1.below hbd) HL.out hrb)
  go_region_held3 (fun W => W.cell? ⟨w.heap.size, 0, none⟩ = some (.bool nb) ∧ W.cell? ⟨w.heap.size, 1, none⟩ = some (.slice adb lb capb) ∧ W.cell? ⟨w.heap.size + 1, 1, none⟩ = some (.slice ada la capa)) (first | (go_keep; done) | ((try dsimp only); (repeat' apply And.intro) <;> first | (go_keep; done) | exact far2_cell (by assumption) (by omega)))
    (first
      | (go_at_call 50; refine HC.out.mono ?_; rintro e W2 ⟨sv, rfl, hsz, hb2⟩; have kA2 := mA.below (hbd.trans hb2); have kB2 := mB.below (hbd.trans hb2); have kR2 := mR.below (hbd.trans hb2); have hs2 := hb2.size; have hc0 := kA2.at0; have hc1 := kA2.at1; have hc3 := kB2.at1; have hSig := signed_any nb hsz; rw [HE.out] at hSig; have HSig := Lib.hid hSig; clear hSig)
      | (go_at_call 47; refine HSig.out.mono ?_; rintro e W3 ⟨v, rfl, hwh, hb3⟩; have kA3 := kA2.below hb3; have kB3 := kB2.below hb3; have hg0 := kA3.at0; have hg1 := kA3.at1; have hg3 := kB3.at1; have kR3 := kR2.below hb3; have hd0 := kR3.at0; have hd1 := kR3.at1; have he0 := kR3.frozen 0; have he1 := kR3.frozen 1; obtain ⟨sv3, rfl, hsz3⟩ := hwh; have HSZ := Lib.hid hsz3; obtain ⟨ad3, cap3, rfl, -, -, -⟩ := hsz3.view; clear hsz3))
  have hk4 := kR3.set2 (.bool (decide (a + b < 0))) (.slice ad3 (limbs (a + b).natAbs).length cap3)
  have hx0 := hk4.at0
  have hx1 := hk4.at1
  go_wp2
  have hB3 : Below w.heap.size w W3 := ((hbm.trans (hbd.mono hbm.size)).trans (hb2.mono hbm.size)).trans (hb3.mono (Nat.le_trans hbm.size hs2))
  refine bodyPost_ret (v := .agg #[.bool (decide (a + b < 0)), .slice ad3 (limbs (a + b).natAbs).length cap3]) ?_ rfl (makesW_of (m := (a + b).natAbs) ((HSZ.out.mono hbm.size).far2 kR3 (by decide) _ _) rfl rfl ((hB3.setCell (p := ⟨w.heap.size + 1 + 1, 0, none⟩) (by simp; omega) _).setCell (p := ⟨w.heap.size + 1 + 1, 1, none⟩) (by simp; omega) _))
  simp [results, Tryd.results30, go_sem, hx0, hx1]

theorem add_any {w : World} {va vb : Value} {a b : Int} (ha : Wh 0 w va a) (hb : Wh 0 w vb b) (hra : Room a) (hrb : Room b) :
    Calls Tryd.prog 30 #[va, vb] w fun e w' => MakesW w.heap.size w.heap.size w (a + b) e w' := by
  by_cases hs : decide (a < 0) = decide (b < 0)
  · exact add_same ha hb hra hrb hs
  · rcases Nat.lt_or_ge a.natAbs b.natAbs with h | h
    · exact add_near ha hb hra hrb hs h
    · exact add_far ha hb hra hrb hs h

end Go.Proofs.YtlilojaefpnkmaaDoor
