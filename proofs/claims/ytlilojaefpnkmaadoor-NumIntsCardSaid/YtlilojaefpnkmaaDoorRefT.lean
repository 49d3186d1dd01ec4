/- The document's own answers, walked: Times. -/
import Derived.Test.YtlilojaefpnkmaaDoorRefD
namespace Go.Proofs.YtlilojaefpnkmaaDoor
open Go.RowKit
set_option linter.unusedVariables false

theorem nDigits_mul {m n k : Nat} (hk : 1 ≤ k) (hm : Lib.nDigits m ≤ k) (hn : Lib.nDigits n ≤ k) : Lib.nDigits (m * n) ≤ 2 * k := by
  have h1 : m < 10 ^ k := Nat.lt_of_lt_of_le (Lib.lt_pow_nDigits m) (Nat.pow_le_pow_right (by omega) hm)
  have h2 : n < 10 ^ k := Nat.lt_of_lt_of_le (Lib.lt_pow_nDigits n) (Nat.pow_le_pow_right (by omega) hn)
  exact nDigits_le (by omega) (by rw [show 2 * k = k + k by omega, Nat.pow_add]; exact Nat.mul_lt_mul'' h1 h2)
theorem dstr_zero_text : dstr 0 = ⟨#[48]⟩ := by unfold dstr; rw [Lib.decDigits_one (by omega)]; rfl
theorem snoc_list (s : ByteArray) (b : UInt8) : (s ++ (⟨#[b]⟩ : ByteArray)).data.toList = s.data.toList ++ [b] := by simp [ByteArray.data_append]
theorem snoc_size (s : ByteArray) (b : UInt8) : (s ++ (⟨#[b]⟩ : ByteArray)).size = s.size + 1 := by rw [← bytes_len, snoc_list, List.length_append, bytes_len]; rfl
theorem digs_snoc {l : List UInt8} {b : UInt8} (h : Digs l) (hb : 48 ≤ b.toNat ∧ b.toNat ≤ 57) : Digs (l ++ [b]) := h.append (fun c hc => by simp at hc; subst hc; exact hb)
/-- A numeral with one digit more, without the 0s at its front. -/
theorem refBare_snoc {v : Nat} {b : UInt8} (hv : Lib.nDigits v ≤ 100000) (hb : 48 ≤ b.toNat ∧ b.toNat ≤ 57) (w : World) : Calls Tryd.prog 44 #[.string (dstr v ++ ⟨#[b]⟩)] w fun e w' => e = .returned (.string (dstr (v * 10 + (b.toNat - 48)))) ∧ w = w' := by
  have := refBare_dig (s := dstr v ++ ⟨#[b]⟩) (by rw [snoc_size]; omega) (by rw [snoc_size, dstr_size]; omega) (by rw [snoc_list, dstr_list]; exact digs_snoc (digs_decDigits v) hb) w
  rw [snoc_list, dval_snoc, dstr_list, dval_decDigits] at this
  exact this

/-- A digit of a numeral as its byte says. -/
theorem dstr_byte {m k : Nat} {Y : ByteArray} (hY : dstr m = Y) (h : k < Y.size) : 48 ≤ Y[k].toNat ∧ Y[k].toNat ≤ 57 ∧ front m (k + 1) = front m k * 10 + (Y[k].toNat - 48) := by
  subst hY
  have hk : k < Lib.nDigits m := by rw [← dstr_size]; exact h
  have e : (dstr m)[k] = (Lib.decDigits m)[k]'(by rw [Lib.decDigits_length]; exact hk) := by simp only [← bytes_at, dstr_list]
  have h1 := digs_decDigits m _ (List.getElem_mem (l := Lib.decDigits m) (n := k) (by rw [Lib.decDigits_length]; exact hk))
  rw [e]
  exact ⟨h1.1, h1.2, front_succ hk⟩

set_option maxRecDepth 100000 in
set_option maxHeartbeats 2000000 in
theorem refTimes_in {m n : Nat} {A B R : ByteArray} {ba bb : Bool} (hm : Lib.nDigits m ≤ 1000) (hn : Lib.nDigits n ≤ 1000) (w : World)
    (hA : Hid (∀ W, Calls Tryd.prog 34 #[.string A] W fun e w' => e = .returned (.bool ba) ∧ W = w')) (hB : Hid (∀ W, Calls Tryd.prog 34 #[.string B] W fun e w' => e = .returned (.bool bb) ∧ W = w')) (hSA : Hid (∀ W, Calls Tryd.prog 33 #[.string A] W fun e w' => e = .returned (.string (dstr m)) ∧ W = w')) (hSB : Hid (∀ W, Calls Tryd.prog 33 #[.string B] W fun e w' => e = .returned (.string (dstr n)) ∧ W = w'))
    (hG : Hid (∀ W, Calls Tryd.prog 35 #[.bool (ba != bb), .string (dstr (m * n))] W fun e w' => e = .returned (.string R) ∧ W = w')) :
    Calls Tryd.prog 22 #[.string A, .string B] w fun e w' => e = .returned (.string R) ∧ Below w.heap.size w w' := by
  have hbig : Hid (∀ v, v ≤ m * n → Lib.nDigits v ≤ 2000) := Lib.hid (fun v hv => Nat.le_trans (nDigits_mono hv) (nDigits_mul (by omega) hm hn))
  have HP : Hid (∀ W v, v ≤ m * n → Calls Tryd.prog 36 #[.string (dstr v), .string (dstr m)] W fun e w' => e = .returned (.string (dstr (v + m))) ∧ Below W.heap.size W w') := Lib.hid (fun W v hv => refPlus_any (by have := hbig.out v hv; omega) (by omega) W)
  obtain ⟨X, hX⟩ : ∃ X, dstr m = X := ⟨_, rfl⟩
  obtain ⟨Y, hY⟩ : ∃ Y, dstr n = Y := ⟨_, rfl⟩
  have hys : Y.size ≤ 1000 := by rw [← hY, dstr_size]; exact hn
  have hyn : Hid (Y.size = Lib.nDigits n) := Lib.hid (by rw [← hY, dstr_size])
  have HD : Hid (∀ k (h : k < Y.size), 48 ≤ Y[k].toNat ∧ Y[k].toNat ≤ 57 ∧ front n (k + 1) = front n k * 10 + (Y[k].toNat - 48)) := Lib.hid (fun k h => dstr_byte hY h)
  rw [hX] at hSA HP
  rw [hY] at hSB
  clear hX hY hm hn
  obtain ⟨lo, hlo⟩ : ∃ lo, w.heap.size = lo := ⟨_, rfl⟩
  rw [hlo]
  have HLO : Hid (lo ≤ w.heap.size) := Lib.hid (by omega)
  clear hlo
  have h48 : (⟨#[48]⟩ : ByteArray) = dstr 0 := dstr_zero_text.symm
  have H48 := Lib.hid h48
  clear h48
  go_enter Tryd.func22, Tryd.ntmps22
  go_wp2_with fail
  go_at_call 33; refine (hSA.out _).mono ?_; rintro e w' ⟨rfl, rfl⟩
  go_wp2_with fail
  go_at_call 33; refine (hSB.out _).mono ?_; rintro e w' ⟨rfl, rfl⟩
  go_wp2
  go_loopw [5, 8] (fun sv iv wr => ∃ (v i : Nat), sv = .string (dstr v) ∧ iv = .int .i64 i ∧ i ≤ Y.size ∧ Hid (v = m * front n i) ∧ Below lo w wr) (fun _ iv _ => Y.size - (intOf iv).toNat)
  case atStart => exact ⟨0, 0, by rw [H48.out], rfl, by omega, Lib.hid (by rw [front_zero, Nat.mul_zero]), Below.refl _ _⟩
  case round =>
    obtain ⟨v, i, rfl, rfl, hi, HV, hbel⟩ := hrel
    have HH := Lib.hid hbel
    clear hbel
    by_cases hlt : i < Y.size
    · obtain ⟨h1, h2, h3⟩ := HD.out i hlt
      have HF := Lib.hid h3
      obtain ⟨y, hy⟩ : ∃ y, Y[i].toNat = y := ⟨_, rfl⟩
      rw [hy] at h1 h2 HF
      have hle : m * front n (i + 1) ≤ m * n := Nat.mul_le_mul_left _ (front_le _ _)
      have hst : m * front n (i + 1) = v * 10 + m * (y - 48) := by rw [HF.out, Nat.mul_add, HV.out, Nat.mul_assoc]
      have HST := Lib.hid hst
      have HLE := Lib.hid hle
      have HBR := Lib.hid (fun W => refBare_snoc (v := v) (b := 48) (by have := hbig.out v (by omega); omega) (by decide) W)
      have hvs : (dstr v).size ≤ 2000 := by rw [dstr_size]; exact hbig.out v (by omega)
      clear h3 hst hle
      go_wp2_with fail
      go_at_call 44; refine (HBR.out _).mono ?_; rintro e w' ⟨rfl, rfl⟩
      go_wp2
      obtain ⟨wo, rfl⟩ : ∃ wo : World, wo = wr := ⟨_, rfl⟩
      go_loopw [5, 9] (fun sv kv wr => ∃ (u k : Nat), sv = .string (dstr u) ∧ kv = .int .i64 k ∧ k ≤ y - 48 ∧ Hid (u = v * 10 + m * k) ∧ Hid (Below lo w wr)) (fun _ kv _ => (y - 48) - (intOf kv).toNat)
      case atStart => exact ⟨v * 10, 0, rfl, rfl, by omega, Lib.hid (by rw [Nat.mul_zero]; rfl), HH⟩
      case round =>
        obtain ⟨u, k, rfl, rfl, hk, HU, HH2⟩ := hrel
        by_cases hlk : k < y - 48
        · have hum : u + m = v * 10 + m * (k + 1) := by have h6 : m * (k + 1) = m * k + m := Nat.mul_succ m k; have h7 := HU.out; rw [h6]; omega
          have HUM := Lib.hid hum
          have hul : u ≤ m * n := by
            have h5 : m * (k + 1) ≤ m * (y - 48) := Nat.mul_le_mul_left _ hlk
            have := HST.out
            have := HLE.out
            omega
          have HPU := Lib.hid (fun W => HP.out W u hul)
          have hk2 : (k : Int) < (y : Int) - 48 := by omega
          clear hum hul hlk
          go_wp2_with (go_at_call 36; refine (HPU.out _).mono ?_; rintro e w1 ⟨rfl, hb⟩)
          go_roundw
          case rel => exact ⟨u + m, k + 1, rfl, by go_num, by omega, HUM, Lib.hid (HH2.out.trans (hb.mono (Nat.le_trans HLO.out HH2.out.size)))⟩
          case measure => simp [intOf]; omega
        · obtain rfl : k = y - 48 := by omega
          have hk2 : ((y - 48 : Nat) : Int) = (y : Int) - 48 := by omega
          go_wp2
          go_roundw
          case rel => exact ⟨u, i + 1, rfl, by go_num, by omega, Lib.hid (by rw [HU.out, HST.out]), HH2.out⟩
          case measure => simp [intOf]; omega
    · have hv : v = m * n := by rw [HV.out, show i = Y.size by omega, hyn.out, front_all]
      subst hv
      go_wp2_with fail
      go_at_call 34; refine (hA.out _).mono ?_; rintro e w' ⟨rfl, rfl⟩
      go_wp2_with fail
      go_at_call 34; refine (hB.out _).mono ?_; rintro e w' ⟨rfl, rfl⟩
      go_wp2_with (go_at_call 35; refine (hG.out _).mono ?_; rintro e w' ⟨rfl, rfl⟩)
      go_ret
      exact ⟨rfl, HH.out⟩

theorem sg_xor (a b : Int) : sg (decide (a < 0) != decide (b < 0)) (a.natAbs * b.natAbs) = a * b := by
  rw [← Int.natAbs_mul]
  unfold sg
  by_cases ha : a < 0 <;> by_cases hb : b < 0
  · have := Int.mul_pos_of_neg_of_neg ha hb; simp [ha, hb]; omega
  · have : a * b ≤ 0 := Int.mul_nonpos_of_nonpos_of_nonneg (by omega) (by omega)
    simp [ha, hb]; omega
  · have : a * b ≤ 0 := Int.mul_nonpos_of_nonneg_of_nonpos (by omega) (by omega)
    simp [ha, hb]; omega
  · have : 0 ≤ a * b := Int.mul_nonneg (by omega) (by omega)
    simp [ha, hb]; omega
theorem RefTimes_any {a b : Int} (ha : Lib.nDigits a.natAbs ≤ 1000) (hb : Lib.nDigits b.natAbs ≤ 1000) (w : World) :
    Calls Tryd.prog 22 #[.string (str a), .string (str b)] w fun e w' => e = .returned (.string (str (a * b))) ∧ Below w.heap.size w w' := by
  refine refTimes_in ha hb w (Lib.hid (fun W => refBelow_str a W)) (Lib.hid (fun W => refBelow_str b W)) (Lib.hid (fun W => refSize_str a W)) (Lib.hid (fun W => refSize_str b W)) (Lib.hid (fun W => ?_))
  have := refSigned_str (decide (a < 0) != decide (b < 0)) (m := a.natAbs * b.natAbs) (by have := nDigits_mul (k := 1000) (by omega) ha hb; omega) W
  rw [sg_xor] at this
  exact this
end Go.Proofs.YtlilojaefpnkmaaDoor
