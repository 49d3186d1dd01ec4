/- Whole numbers: multiply. -/
import Derived.Test.YtlilojaefpnkmaaDoorWalkWhole
import Derived.Test.YtlilojaefpnkmaaDoorWalkMul
import Derived.Deep.RegionHeld3
namespace Go.Proofs.YtlilojaefpnkmaaDoor
open Go.RowKit

theorem bool_bne (a b : Bool) : (a != b) = (a ^^ b) := by cases a <;> cases b <;> rfl

theorem sg_mul (a b : Int) : sg (!(decide (a < 0)) == decide (b < 0)) (a.natAbs * b.natAbs) = a * b := by
  rw [← Int.natAbs_mul]
  have key : (!(decide (a < 0)) == decide (b < 0)) = true ∧ a * b ≤ 0 ∨ (!(decide (a < 0)) == decide (b < 0)) = false ∧ 0 ≤ a * b := by
    by_cases ha : a < 0
    · by_cases hb : b < 0
      · right; simp only [ha, hb]; exact ⟨rfl, Int.le_of_lt (Int.mul_pos_of_neg_of_neg ha hb)⟩
      · left; simp only [ha, hb]; exact ⟨rfl, Int.mul_nonpos_of_nonpos_of_nonneg (by omega) (by omega)⟩
    · by_cases hb : b < 0
      · left; simp only [ha, hb]; exact ⟨rfl, Int.mul_nonpos_of_nonneg_of_nonpos (by omega) (by omega)⟩
      · right; simp only [ha, hb]; exact ⟨rfl, Int.mul_nonneg (by omega) (by omega)⟩
  unfold sg
  rcases key with ⟨e, h⟩ | ⟨e, h⟩
  · rw [e, if_pos rfl]; omega
  · rw [e, if_neg (by simp)]; omega
theorem Blk.at0 {W : World} {B : Nat} {a b : Value} {t : TypeId} (h : Blk W B #[a, b] t) : W.cell? ⟨B, 0, none⟩ = some a := h.cell 0
theorem Blk.at1 {W : World} {B : Nat} {a b : Value} {t : TypeId} (h : Blk W B #[a, b] t) : W.cell? ⟨B, 1, none⟩ = some b := h.cell 1
theorem far2_cell {W : World} {B b i : Nat} {x y v : Value} (h : W.cell? ⟨b, i, none⟩ = some v) (hne : b ≠ B) : ((W.setCell ⟨B, 0, none⟩ x).setCell ⟨B, 1, none⟩ y).cell? ⟨b, i, none⟩ = some v := by
  rw [World.cell?_setCell_other _ _ _ _ (fun e => hne (congrArg Addr.block e).symm), World.cell?_setCell_other _ _ _ _ (fun e => hne (congrArg Addr.block e).symm)]
  exact h

set_option maxHeartbeats 1000000 in
theorem multiply_any {w : World} {va vb : Value} {a b : Int} (ha : Wh 0 w va a) (hb : Wh 0 w vb b) (hra : Room a) (hrb : Room b) :
    Calls Tryd.prog 39 #[va, vb] w fun e w' => MakesW w.heap.size w.heap.size w (a * b) e w' := by
  obtain ⟨sa, rfl, hsa⟩ := ha
  obtain ⟨sb, rfl, hsb⟩ := hb
  have HA := Lib.hid hsa
  have HB := Lib.hid hsb
  obtain ⟨ada, capa, rfl, -, -, -⟩ := hsa.view
  obtain ⟨adb, capb, rfl, -, -, -⟩ := hsb.view
  obtain ⟨la, hla⟩ : ∃ k, (limbs a.natAbs).length = k := ⟨_, rfl⟩
  obtain ⟨lb, hlb⟩ : ∃ k, (limbs b.natAbs).length = k := ⟨_, rfl⟩
  rw [hla] at HA ⊢
  rw [hlb] at HB ⊢
  obtain ⟨na, hna⟩ : ∃ na, decide (a < 0) = na := ⟨_, rfl⟩
  obtain ⟨nb, hnb⟩ : ∃ nb, decide (b < 0) = nb := ⟨_, rfl⟩
  rw [hna, hnb]
  have HN := Lib.hid hna
  have HM := Lib.hid hnb
  obtain ⟨W0, hW0⟩ : ∃ W0, ((w.alloc (.cells #[.bool na, .slice ada la capa] 53)).alloc (.cells #[.bool nb, .slice adb lb capb] 53)).alloc (.cells #[.bool false, .slice none 0 0] 53) = W0 := ⟨_, rfl⟩
  have kA : Blk W0 w.heap.size #[.bool na, .slice ada la capa] 53 := by rw [← hW0]; exact ((Blk.new w _ _).alloc _).alloc _
  have kB : Blk W0 (w.heap.size + 1) #[.bool nb, .slice adb lb capb] 53 := by rw [← hW0]; have := Blk.new (w.alloc (.cells #[.bool na, .slice ada la capa] 53)) #[.bool nb, .slice adb lb capb] 53; rw [World.size_alloc] at this; exact this.alloc _
  have kR : Blk W0 (w.heap.size + 1 + 1) #[.bool false, .slice none 0 0] 53 := by rw [← hW0]; have := Blk.new ((w.alloc (.cells #[.bool na, .slice ada la capa] 53)).alloc (.cells #[.bool nb, .slice adb lb capb] 53)) #[.bool false, .slice none 0 0] 53; rw [World.size_alloc, World.size_alloc] at this; exact this
  have hb0 : Below w.heap.size w W0 := by rw [← hW0]; exact (((Below.refl _ w).alloc (Nat.le_refl _) _).alloc (by simp) _).alloc (by simp; omega) _
  have hbd : Below W0.heap.size W0 W0.drew := (Below.refl _ W0).drew
  have HMul := Lib.hid (multiplySizes_any ((HA.out.below hb0).below hbd) ((HB.out.below hb0).below hbd) hra hrb)
  have kA0 := kA.at0
  have kA1 := kA.at1
  have kB0 := kB.at0
  have kB1 := kB.at1
  have HE : Hid (sg (!na == nb) (a.natAbs * b.natAbs) = a * b) := Lib.hid (by rw [← HN.out, ← HM.out]; exact sg_mul a b)
  have hmix : Tryd.prog.follows .mixedOrders = true := by kernel_rfl
  clear hsa hsb hla hlb hna hnb
  go_enter Tryd.func39, Tryd.ntmps39
  go_wp2
  go_region_held3 (fun W => W.cell? ⟨w.heap.size, 0, none⟩ = some (.bool na) ∧ W.cell? ⟨w.heap.size, 1, none⟩ = some (.slice ada la capa) ∧ W.cell? ⟨w.heap.size + 1, 0, none⟩ = some (.bool nb) ∧ W.cell? ⟨w.heap.size + 1, 1, none⟩ = some (.slice adb lb capb)) (first | (go_keep; done) | ((try dsimp only); (repeat' apply And.intro) <;> first | (go_keep; done) | exact far2_cell (by assumption) (by omega)))
    (first
      | (go_at_call 53; refine HMul.out.mono ?_; rintro e W2 ⟨sv, rfl, hsz, hb2⟩; have kA2 := kA.below (hbd.trans hb2); have kB2 := kB.below (hbd.trans hb2); have kR2 := kR.below (hbd.trans hb2); have hs2 := hb2.size; have hc0 := kA2.at0; have hc1 := kA2.at1; have hc2 := kB2.at0; have hc3 := kB2.at1; have hSig := signed_any (!na == nb) hsz; rw [HE.out] at hSig; have HSig := Lib.hid hSig; clear hSig)
      | (go_at_call 47; refine HSig.out.mono ?_; rintro e W3 ⟨v, rfl, hwh, hb3⟩; have kA3 := kA2.below hb3; have kB3 := kB2.below hb3; have hg0 := kA3.at0; have hg1 := kA3.at1; have hg2 := kB3.at0; have hg3 := kB3.at1; have kR3 := kR2.below hb3; have hd0 := kR3.at0; have hd1 := kR3.at1; have he0 := kR3.frozen 0; have he1 := kR3.frozen 1; obtain ⟨sv3, rfl, hsz3⟩ := hwh; have HSZ := Lib.hid hsz3; obtain ⟨ad3, cap3, rfl, -, -, -⟩ := hsz3.view; clear hsz3))
  have hk4 := kR3.set2 (.bool (decide (a * b < 0))) (.slice ad3 (limbs (a * b).natAbs).length cap3)
  have hx0 := hk4.at0
  have hx1 := hk4.at1
  go_wp2
  have hB3 : Below w.heap.size w W3 := ((hb0.trans (hbd.mono hb0.size)).trans (hb2.mono hb0.size)).trans (hb3.mono (Nat.le_trans hb0.size hs2))
  refine bodyPost_ret (v := .agg #[.bool (decide (a * b < 0)), .slice ad3 (limbs (a * b).natAbs).length cap3]) ?_ rfl (makesW_of (m := (a * b).natAbs) ((HSZ.out.mono hb0.size).far2 kR3 (by decide) _ _) rfl rfl ((hB3.setCell (p := ⟨w.heap.size + 1 + 1, 0, none⟩) (by simp; omega) _).setCell (p := ⟨w.heap.size + 1 + 1, 1, none⟩) (by simp; omega) _))
  simp [results, Tryd.results39, go_sem, hx0, hx1]

end Go.Proofs.YtlilojaefpnkmaaDoor
