/- divideOnce. -/
import Derived.Test.YtlilojaefpnkmaaDoorWalkDiv1
import Derived.Test.YtlilojaefpnkmaaDoorWalkMul
namespace Go.Proofs.YtlilojaefpnkmaaDoor
open Go.RowKit

/-- What divideOnce answers. -/
def Once (lo : Nat) (w : World) (q r : Nat) (e : Ending) (w' : World) : Prop := ∃ v, e = .returned (.tuple #[.int .u64 (q : Int), v]) ∧ Sz lo w' v r ∧ Below lo w w'

theorem one_low {x : Nat} (h : x < 1000000000) : Low [x] := by intro y hy; rw [List.mem_singleton] at hy; omega
theorem own_lit {lo : Nat} (w : World) (x : Nat) (h : lo ≤ w.heap.size) : Own lo (w.alloc (.cells #[.int .u64 (x : Int)] 73)) (.slice (some ⟨w.heap.size, 0, none⟩) 1 1) [x] := by
  have := World.ownsRow_lit (base := lo) (e := 73) (size := 1) w #[.int .u64 (x : Int)] 1 h (by unfold maxLen; omega) rfl
  exact this

theorem min_cast (p q r : Nat) : min (((p : Int) * 1000000000 + q) / r) 999999999 = ((min ((p * 1000000000 + q) / r) 999999999 : Nat) : Int) := by
  have h : ((p : Int) * 1000000000 + q) / r = (((p * 1000000000 + q) / r : Nat) : Int) := by rw [Int.natCast_ediv]; rfl
  rw [h]
  generalize (p * 1000000000 + q) / r = z
  omega
theorem len_pos {b : Nat} (hb : 0 < b) : 0 < (limbs b).length := by rw [limbs_pos (by omega)]; simp

set_option maxRecDepth 100000 in
set_option maxHeartbeats 2000000 in
theorem divideOnce_any {w : World} {va vb : Value} {a b : Nat} (ha : Sz 0 w va a) (hb : Sz 0 w vb b) (hb0 : 0 < b) (hab : a < b * 1000000000) (hla : (limbs a).length ≤ 1000000) (hlb : (limbs b).length ≤ 900000) :
    Calls Tryd.prog 67 #[va, vb] w fun e w' => Once w.heap.size w (a / b) (a % b) e w' := by
  obtain ⟨lo, hlo⟩ : ∃ lo, w.heap.size = lo := ⟨_, rfl⟩
  rw [hlo]
  have HA := Lib.hid ha
  have HB := Lib.hid hb
  have HLB0 := Lib.hid hlb
  have HLA0 := Lib.hid hla
  obtain ⟨ada, capa, rfl, -, -, -⟩ := ha.view
  obtain ⟨adb, capb, rfl, -, -, hcb⟩ := hb.view
  obtain ⟨la, hlae⟩ : ∃ k, (limbs a).length = k := ⟨_, rfl⟩
  obtain ⟨n, hn⟩ : ∃ k, (limbs b).length = k := ⟨_, rfl⟩
  have hn0 : 0 < n := by rw [← hn]; exact len_pos hb0
  have hg := guess_ge hn hn0 hab
  have hbl : lim b (n - 1) ≠ 0 := by
    have hne : limbs b ≠ [] := by intro h; rw [h] at hn; simp at hn; omega
    have := limbs_last b hne
    rw [List.getLast_eq_getElem, ← getD_in, limbs_getD, hn] at this
    exact this
  rw [hn] at hcb hlb HB ⊢
  rw [hlae] at hla HA ⊢
  obtain ⟨g, rfl, -, hgs, hcs⟩ := hcb hn0
  have hcl := hcs (n - 1) (by omega)
  rw [limbs_getD] at hcl
  have h1 := limb_lim n ha (by omega)
  have h2 := limb_lim (n - 1) ha (by omega)
  rw [hlae] at h1 h2
  obtain ⟨m, hm⟩ : ∃ m, n = m + 1 := ⟨n - 1, by omega⟩
  subst hm
  rw [Nat.add_sub_cancel] at hg hbl hcl h2
  have hb1 := lim_lt a (m + 1)
  have hb2 := lim_lt a m
  have hb3 := lim_lt b m
  obtain ⟨p, hp⟩ : ∃ p, lim a (m + 1) = p := ⟨_, rfl⟩
  obtain ⟨q, hq⟩ : ∃ q, lim a m = q := ⟨_, rfl⟩
  obtain ⟨r, hr⟩ : ∃ r, lim b m = r := ⟨_, rfl⟩
  rw [hp] at h1 hg hb1
  rw [hq] at h2 hg hb2
  rw [hr] at hg hbl hcl hb3
  obtain ⟨gq, hgq⟩ : ∃ gq, min ((p * 1000000000 + q) / r) 999999999 = gq := ⟨_, rfl⟩
  rw [hgq] at hg
  have HMin : Hid (min (((p : Int) * 1000000000 + q) / r) 999999999 = (gq : Int)) := Lib.hid (by rw [← hgq]; exact min_cast p q r)
  have hgq9 : gq ≤ 999999999 := by rw [← hgq]; exact Nat.min_le_right _ _
  clear hgq
  have H1 := Lib.hid h1
  have H2 := Lib.hid h2
  have HLO := Lib.hid hlo
  have HLe : lo ≤ w.heap.size := by omega
  clear ha hb hp hq hr h1 h2 hcs hcb hlo hn hlae hab
  go_enter Tryd.func67, Tryd.ntmps67
  go_wp2_with (first
    | (go_at_call 61; refine H1.out.mono ?_; clear H1; rintro e w' ⟨rfl, rfl⟩)
    | (go_at_call 61; refine H2.out.mono ?_; clear H2; rintro e w' ⟨rfl, rfl⟩))
  rw [HMin.out]
  have hbw : Below w.heap.size w (w.alloc (.cells #[.int .u64 (gq : Int)] 73)) := (Below.refl _ w).alloc (Nat.le_refl _) _
  have hM := multiplyLow_any (HB.out.below hbw) (own_lit (lo := 0) w gq (Nat.zero_le _)) (low_limbs b) (one_low (by omega)) (by have := HLB0.out; omega) (by simp)
  rw [lval_limbs, show lval [gq] = gq by simp [lval]] at hM
  have HG := Lib.hid hg
  clear hcl hbl hb1 hb2 hb3 hg
  refine hM.mono ?_
  rintro e W1 ⟨v, rfl, hsz, hb1⟩
  have hB1 : Below lo w W1 := ((Below.refl lo w).alloc HLe _).trans (hb1.mono (by simp; omega))
  have HSZ := Lib.hid hsz
  clear hsz hM
  go_wp2
  go_loopw [4, 7] (fun kv pv wr => ∃ k : Nat, kv = .int .u64 (k : Int) ∧ k ≤ 999999999 ∧ Hid (a / b ≤ k) ∧ Sz lo wr pv (b * k) ∧ Below lo w wr) (fun kv _ _ => (intOf kv).toNat)
  case atStart => exact ⟨gq, rfl, hgq9, HG.out, HSZ.out.mono (by simp; omega), hB1⟩
  case round =>
    obtain ⟨k, rfl, hk9, HK, hsz, hbel⟩ := hrel
    clear hB1
    have hbel2 : Below w.heap.size w wr := by rw [HLO.out]; exact hbel
    have hlen : Hid ((limbs (b * k)).length ≤ 1000000) := Lib.hid (by
      have h1 := lval_lt (low_limbs b)
      rw [lval_limbs] at h1
      have h2 : b * k < 1000000000 ^ ((limbs b).length + 1) := by
        rw [Nat.pow_succ]
        exact Nat.lt_of_lt_of_le (Nat.mul_lt_mul_of_lt_of_le h1 (Nat.le_of_lt (show k < 1000000000 by omega)) (by omega)) (Nat.le_refl _)
      have := limbs_length h2
      have := HLB0.out
      omega)
    have hC := compareSizes_any (hsz.mono (Nat.zero_le _)) (HA.out.below hbel2) hlen.out HLA0.out
    by_cases hgt : a < b * k
    · have e1 : sgn (b * k) a = 1 := by unfold sgn; rw [if_neg (by omega), if_pos hgt]
      rw [e1] at hC
      have HC := Lib.hid hC
      have hk1 : a / b < k := by rw [Nat.div_lt_iff_lt_mul hb0, Nat.mul_comm]; exact hgt
      have hk0 : 1 ≤ k := Nat.lt_of_le_of_lt (Nat.zero_le _) hk1
      have HK1 : Hid (a / b ≤ k - 1) := Lib.hid (Nat.le_sub_one_of_lt hk1)
      have HS : Hid (b * k - b = b * (k - 1)) := Lib.hid (by rw [Nat.mul_sub, Nat.mul_one])
      have HSB : Hid (b ≤ b * k) := Lib.hid (Nat.le_mul_of_pos_right _ hk0)
      have HP := Lib.hid hsz
      clear hC e1 hgt hk1 hsz
      go_wp2_with (first
        | (go_at_call 49; refine HC.out.mono ?_; clear HC; rintro e W2 ⟨rfl, hb2⟩; have hC2 := subtractSizes_any ((HP.out.mono (Nat.zero_le _)).below hb2) ((HB.out.below hbel2).below hb2) HSB.out hlen.out; rw [HS.out] at hC2; have HC2 := Lib.hid hC2; clear hC2)
        | (go_at_call 50; refine HC2.out.mono ?_; rintro e W3 ⟨v3, rfl, hsz3, hb3⟩; have HSZ3 := Lib.hid hsz3; clear hsz3))
      go_roundw
      case rel => exact ⟨k - 1, by go_num, by omega, HK1, HSZ3.out.mono (Nat.le_trans HLe (Nat.le_trans hbel.size hb2.size)), (hbel.trans (hb2.mono (Nat.le_trans HLe hbel.size))).trans (hb3.mono (Nat.le_trans HLe (Nat.le_trans hbel.size hb2.size)))⟩
      case measure => simp [intOf]; omega
    · have e1 : sgn (b * k) a ≤ 0 := by unfold sgn; split <;> (try split) <;> omega
      obtain ⟨sx, hsx⟩ : ∃ sx, sgn (b * k) a = sx := ⟨_, rfl⟩
      rw [hsx] at hC e1
      have HC := Lib.hid hC
      have hkq : k = a / b := by
        have h1 := HK.out
        have h2 : k ≤ a / b := by rw [Nat.le_div_iff_mul_le hb0, Nat.mul_comm]; exact Nat.le_of_not_lt hgt
        exact Nat.le_antisymm h2 h1
      have HS : Hid (a - b * k = a % b) := Lib.hid (by rw [hkq, Nat.mod_def])
      have HSB : Hid (b * k ≤ a) := Lib.hid (Nat.le_of_not_lt hgt)
      have HKQ := Lib.hid hkq
      have HP := Lib.hid hsz
      clear hC hsx hgt hkq hsz
      go_wp2_with (first
        | (go_at_call 49; refine HC.out.mono ?_; clear HC; rintro e W2 ⟨rfl, hb2⟩; have hC2 := subtractSizes_any ((HA.out.below hbel2).below hb2) ((HP.out.mono (Nat.zero_le _)).below hb2) HSB.out HLA0.out; rw [HS.out] at hC2; have HC2 := Lib.hid hC2; clear hC2)
        | (go_at_call 50; refine HC2.out.mono ?_; rintro e W3 ⟨v3, rfl, hsz3, hb3⟩; have HSZ3 := Lib.hid hsz3; clear hsz3))
      go_ret2
      exact ⟨v3, by rw [← HKQ.out]; rfl, HSZ3.out.mono (Nat.le_trans HLe (Nat.le_trans hbel.size hb2.size)), (hbel.trans (hb2.mono (Nat.le_trans HLe hbel.size))).trans (hb3.mono (Nat.le_trans HLe (Nat.le_trans hbel.size hb2.size)))⟩

end Go.Proofs.YtlilojaefpnkmaaDoor
