/- Whole numbers: divide. -/
import Derived.Test.YtlilojaefpnkmaaDoorWalkDiv3
import Derived.Test.YtlilojaefpnkmaaDoorWalkArith
namespace Go.Proofs.YtlilojaefpnkmaaDoor
open Go.RowKit

theorem sg_tdiv (a b : Int) : sg (!(decide (a < 0)) == decide (b < 0)) (a.natAbs / b.natAbs) = a.tdiv b := by
  cases a with
  | ofNat m => cases b with
    | ofNat n => 
      have h1 : ¬ (Int.ofNat m < 0) := by simp
      have h2 : ¬ (Int.ofNat n < 0) := by simp
      rw [decide_eq_false h1, decide_eq_false h2]; rfl
    | negSucc n =>
      have h1 : ¬ (Int.ofNat m < 0) := by simp
      have h2 : (Int.negSucc n < 0) := Int.negSucc_lt_zero n
      rw [decide_eq_false h1, decide_eq_true h2]; rfl
  | negSucc m => cases b with
    | ofNat n => 
      have h1 : (Int.negSucc m < 0) := Int.negSucc_lt_zero m
      have h2 : ¬ (Int.ofNat n < 0) := by simp
      rw [decide_eq_true h1, decide_eq_false h2]; rfl
    | negSucc n =>
      have h1 : (Int.negSucc m < 0) := Int.negSucc_lt_zero m
      have h2 : (Int.negSucc n < 0) := Int.negSucc_lt_zero n
      rw [decide_eq_true h1, decide_eq_true h2]; rfl
theorem sg_tmod (a b : Int) : sg (decide (a < 0)) (a.natAbs % b.natAbs) = a.tmod b := by
  cases a with
  | ofNat m => cases b with
    | ofNat n => 
      have h1 : ¬ (Int.ofNat m < 0) := by simp
      rw [decide_eq_false h1]; rfl
    | negSucc n =>
      have h1 : ¬ (Int.ofNat m < 0) := by simp
      rw [decide_eq_false h1]; rfl
  | negSucc m => cases b with
    | ofNat n => 
      have h1 : (Int.negSucc m < 0) := Int.negSucc_lt_zero m
      rw [decide_eq_true h1]; rfl
    | negSucc n =>
      have h1 : (Int.negSucc m < 0) := Int.negSucc_lt_zero m
      rw [decide_eq_true h1]; rfl

/-- What divide answers. -/
def MakesD (w : World) (q r : Int) (e : Ending) (w' : World) : Prop := ∃ v1 v2, e = .returned (.tuple #[v1, v2]) ∧ Wh w.heap.size w' v1 q ∧ Wh w.heap.size w' v2 r ∧ Below w.heap.size w w'

attribute [local go_sem] Oper.semAt_some

set_option maxRecDepth 100000 in
set_option maxHeartbeats 1000000 in
theorem divide_any {w : World} {va vb : Value} {a b : Int} (ha : Wh 0 w va a) (hb : Wh 0 w vb b) (hb0 : b ≠ 0) (hra : (limbs a.natAbs).length ≤ 800000) (hrb : (limbs b.natAbs).length ≤ 800000) :
    Calls Tryd.prog 40 #[va, vb] w fun e w' => MakesD w (a.tdiv b) (a.tmod b) e w' := by
  obtain ⟨sa, rfl, hsa⟩ := ha
  obtain ⟨sb, rfl, hsb⟩ := hb
  have HA := Lib.hid hsa
  have HB := Lib.hid hsb
  obtain ⟨ada, capa, rfl, -, -, -⟩ := hsa.view
  obtain ⟨adb, capb, rfl, -, -, -⟩ := hsb.view
  obtain ⟨la, hla⟩ : ∃ k, (limbs a.natAbs).length = k := ⟨_, rfl⟩
  obtain ⟨lb, hlb⟩ : ∃ k, (limbs b.natAbs).length = k := ⟨_, rfl⟩
  rw [hla] at HA ⊢
  rw [hlb] at HB ⊢
  obtain ⟨na, hna⟩ : ∃ na, decide (a < 0) = na := ⟨_, rfl⟩
  obtain ⟨nb, hnb⟩ : ∃ nb, decide (b < 0) = nb := ⟨_, rfl⟩
  rw [hna, hnb]
  obtain ⟨q, hq⟩ : ∃ q, a.tdiv b = q := ⟨_, rfl⟩
  obtain ⟨r, hr⟩ : ∃ r, a.tmod b = r := ⟨_, rfl⟩
  rw [hq, hr]
  have HE1 : Hid (sg (!na == nb) (a.natAbs / b.natAbs) = q) := Lib.hid (by rw [← hq, ← hna, ← hnb]; exact sg_tdiv a b)
  have HE2 : Hid (sg na (a.natAbs % b.natAbs) = r) := Lib.hid (by rw [← hr, ← hna]; exact sg_tmod a b)
  have hDS : ∀ W, Below w.heap.size w W → Calls Tryd.prog 54 #[.slice ada la capa, .slice adb lb capb] W fun e w' => ∃ v1 v2, e = .returned (.tuple #[v1, v2]) ∧ Sz W.heap.size w' v1 (a.natAbs / b.natAbs) ∧ Sz W.heap.size w' v2 (a.natAbs % b.natAbs) ∧ Below W.heap.size W w' := fun W hW => divideSizes_any (HA.out.below hW) (HB.out.below hW) (by omega) hra hrb
  have HDS := Lib.hid hDS
  have hmix : Tryd.prog.follows .mixedOrders = true := by kernel_rfl
  obtain ⟨W0, hW0⟩ : ∃ W0, (((w.alloc (.cells #[.bool na, .slice ada la capa] 53)).alloc (.cells #[.bool nb, .slice adb lb capb] 53)).alloc (.cells #[.bool false, .slice none 0 0] 53)).alloc (.cells #[.bool false, .slice none 0 0] 53) = W0 := ⟨_, rfl⟩
  have kA : Blk W0 w.heap.size #[.bool na, .slice ada la capa] 53 := by rw [← hW0]; exact (((Blk.new w _ _).alloc _).alloc _).alloc _
  have kB : Blk W0 (w.heap.size + 1) #[.bool nb, .slice adb lb capb] 53 := by rw [← hW0]; have := Blk.new (w.alloc (.cells #[.bool na, .slice ada la capa] 53)) #[.bool nb, .slice adb lb capb] 53; rw [World.size_alloc] at this; exact (this.alloc _).alloc _
  have kQ : Blk W0 (w.heap.size + 1 + 1) #[.bool false, .slice none 0 0] 53 := by rw [← hW0]; have := Blk.new ((w.alloc (.cells #[.bool na, .slice ada la capa] 53)).alloc (.cells #[.bool nb, .slice adb lb capb] 53)) #[.bool false, .slice none 0 0] 53; rw [World.size_alloc, World.size_alloc] at this; exact this.alloc _
  have kR : Blk W0 (w.heap.size + 1 + 1 + 1) #[.bool false, .slice none 0 0] 53 := by rw [← hW0]; have := Blk.new (((w.alloc (.cells #[.bool na, .slice ada la capa] 53)).alloc (.cells #[.bool nb, .slice adb lb capb] 53)).alloc (.cells #[.bool false, .slice none 0 0] 53)) #[.bool false, .slice none 0 0] 53; rw [World.size_alloc, World.size_alloc, World.size_alloc] at this; exact this
  have hb0' : Below w.heap.size w W0 := by rw [← hW0]; exact ((((Below.refl _ w).alloc (Nat.le_refl _) _).alloc (by simp) _).alloc (by simp; omega) _).alloc (by simp; omega) _
  have kA0 := kA.at0
  have kA1 := kA.at1
  have kB0 := kB.at0
  have kB1 := kB.at1
  clear hsa hsb hla hlb hna hnb hDS hq hr
  go_enter Tryd.func40, Tryd.ntmps40
  go_wp2_with (go_at_call 54; refine (HDS.out _ hb0').mono ?_; rintro e W2 ⟨v1, v2, rfl, P1, P2, hb2⟩)
  have hbd : Below W2.heap.size W2 W2.drew := (Below.refl _ W2).drew
  have hb3 := hb2.trans (hbd.mono hb2.size)
  have kA2 := kA.below hb3
  have kB2 := kB.below hb3
  have kQ2 := kQ.below hb3
  have kR2 := kR.below hb3
  have hSig := signed_any (!na == nb) (P1.below hbd)
  rw [HE1.out] at hSig
  have HSig := Lib.hid hSig
  have HP2 := Lib.hid (P2.below hbd)
  have kA0 := kA2.at0
  have kB0 := kB2.at0
  obtain ⟨ad1, cap1, rfl, -, -, -⟩ := P1.view
  obtain ⟨ad2, cap2, rfl, -, -, -⟩ := P2.view
  clear hSig P1 P2
  go_region_held3 (fun W => W.cell? ⟨w.heap.size, 0, none⟩ = some (.bool na) ∧ W.cell? ⟨w.heap.size + 1, 0, none⟩ = some (.bool nb)) (first | (go_keep; done) | ((try dsimp only); (repeat' apply And.intro) <;> first | (go_keep; done) | exact far2_cell (by assumption) (by omega) | exact far2_cell (far2_cell (by assumption) (by omega)) (by omega)))
    (first
      | (go_at_call 47; refine HSig.out.mono ?_; rintro e W3 ⟨v3, rfl, hwh3, hb4⟩; have kA3 := kA2.below hb4; have kB3 := kB2.below hb4; have kQ3 := kQ2.below hb4; have kR3 := kR2.below hb4; have hg0 := kA3.at0; have hg1 := kB3.at0; have hSig2 := signed_any na (HP2.out.below hb4); rw [HE2.out] at hSig2; have HSig2 := Lib.hid hSig2; have HW3 := Lib.hid hwh3; clear hSig2 HSig hwh3)
      | (go_at_call 47; refine HSig2.out.mono ?_; rintro e W4 ⟨v4, rfl, hwh4, hb5⟩; have kA4 := kA3.below hb5; have kB4 := kB3.below hb5; have kQ4 := kQ3.below hb5; have kR4 := kR3.below hb5; have hh0 := kA4.at0; have hh1 := kB4.at0; obtain ⟨sv3, rfl, hsz3⟩ := HW3.out.below hb5; obtain ⟨sv4, rfl, hsz4⟩ := hwh4; have HS3 := Lib.hid hsz3; have HS4 := Lib.hid hsz4; obtain ⟨ad3, cap3, rfl, -, -, -⟩ := hsz3.view; obtain ⟨ad4, cap4, rfl, -, -, -⟩ := hsz4.view; have he0 := kQ4.frozen 0; have he1 := kQ4.frozen 1; have he2 := kR4.frozen 0; have he3 := kR4.frozen 1; have hd0 := kQ4.at0; have hd1 := kQ4.at1; have hd2 := kR4.at0; have hd3 := kR4.at1; clear hsz3 hsz4))
  have kq5 := kQ4.set2 (.bool (decide (q < 0))) (.slice ad3 (limbs q.natAbs).length cap3)
  have kr4 := (kR4.other (p := ⟨w.heap.size + 1 + 1, 0, none⟩) (by simp) (.bool (decide (q < 0)))).other (p := ⟨w.heap.size + 1 + 1, 1, none⟩) (by simp) (.slice ad3 (limbs q.natAbs).length cap3)
  have kr5 := kr4.set2 (.bool (decide (r < 0))) (.slice ad4 (limbs r.natAbs).length cap4)
  have kq6 := (kq5.other (p := ⟨w.heap.size + 1 + 1 + 1, 0, none⟩) (by simp) (.bool (decide (r < 0)))).other (p := ⟨w.heap.size + 1 + 1 + 1, 1, none⟩) (by simp) (.slice ad4 (limbs r.natAbs).length cap4)
  have x0 := kq6.at0
  have x1 := kq6.at1
  have y0 := kr5.at0
  have y1 := kr5.at1
  have S3 := ((HS3.out.mono hb0'.size).far2 kQ4 (by decide) (.bool (decide (q < 0))) (.slice ad3 (limbs q.natAbs).length cap3)).far2 kr4 (by decide) (.bool (decide (r < 0))) (.slice ad4 (limbs r.natAbs).length cap4)
  have S4 := ((HS4.out.mono hb0'.size).far2 kQ4 (by decide) (.bool (decide (q < 0))) (.slice ad3 (limbs q.natAbs).length cap3)).far2 kr4 (by decide) (.bool (decide (r < 0))) (.slice ad4 (limbs r.natAbs).length cap4)
  have l0 := hb0'.size
  have l2 := hb3.size
  have l3 := hb4.size
  have hB5 := (((((hb0'.trans (hb3.mono l0)).trans (hb4.mono (by omega))).trans (hb5.mono (by omega))).setCell (p := ⟨w.heap.size + 1 + 1, 0, none⟩) (by simp; omega) (.bool (decide (q < 0)))).setCell (p := ⟨w.heap.size + 1 + 1, 1, none⟩) (by simp; omega) (.slice ad3 (limbs q.natAbs).length cap3)).setCell (p := ⟨w.heap.size + 1 + 1 + 1, 0, none⟩) (by simp; omega) (.bool (decide (r < 0)))
  have hB6 := hB5.setCell (p := ⟨w.heap.size + 1 + 1 + 1, 1, none⟩) (by simp; omega) (.slice ad4 (limbs r.natAbs).length cap4)
  go_wp2
  refine bodyPost_ret (v := .tuple #[.agg #[.bool (decide (q < 0)), .slice ad3 (limbs q.natAbs).length cap3], .agg #[.bool (decide (r < 0)), .slice ad4 (limbs r.natAbs).length cap4]]) ?_ rfl ⟨_, _, rfl, ⟨_, rfl, S3⟩, ⟨_, rfl, S4⟩, hB6⟩
  simp [results, Tryd.results40, go_sem, x0, x1, y0, y1]

end Go.Proofs.YtlilojaefpnkmaaDoor
