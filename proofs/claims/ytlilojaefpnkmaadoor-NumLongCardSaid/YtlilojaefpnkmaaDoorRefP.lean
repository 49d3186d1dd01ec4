/- The document's own answers, walked: Parted. -/
import Derived.Test.YtlilojaefpnkmaaDoorRefT
import Derived.Lib.Strings
namespace Go.Proofs.YtlilojaefpnkmaaDoor
open Go.RowKit
set_option linter.unusedVariables false

theorem extract_one {X : ByteArray} {i : Nat} (h : i < X.size) : X.extract i (i + 1) = ⟨#[X[i]]⟩ := by
  refine WideShapes.bytes_inj ?_
  have h1 := Lib.extract_toList X i (i + 1)
  rw [ByteArray.toList_eq] at h1
  rw [h1, show i + 1 - i = 1 by omega]
  have hl : i < X.data.toList.length := by rw [bytes_len]; exact h
  rw [List.drop_eq_getElem_cons hl, bytes_at X i h]
  rfl
theorem nDigits_more {n v k : Nat} (hn : Lib.nDigits n ≤ k) (hv : v < n * 10) : Lib.nDigits v ≤ k + 1 := by
  have h := Nat.lt_of_lt_of_le (Lib.lt_pow_nDigits n) (Nat.pow_le_pow_right (by omega : 0 < 10) hn)
  exact nDigits_le (by omega) (by rw [Nat.pow_succ]; omega)
theorem part_step {m n f qv r y u d : Nat} (h : f = n * qv + r) (hu : u + n * d = r * 10 + y) : f * 10 + y = n * (qv * 10 + d) + u := by
  rw [h, Nat.mul_add, Nat.add_mul, Nat.mul_assoc]
  omega
theorem part_digit {n r y u d : Nat} (hr : r < n) (hy : y ≤ 9) (hu : u + n * d = r * 10 + y) : d ≤ 9 := by
  rcases Nat.lt_or_ge 9 d with h | h
  · have : n * 10 ≤ n * d := Nat.mul_le_mul_left _ h
    omega
  · exact h

set_option maxRecDepth 100000 in
set_option maxHeartbeats 2000000 in
theorem refParted_in {m n : Nat} {A B R S : ByteArray} {ba bb : Bool} (hm : Lib.nDigits m ≤ 1000) (hn : Lib.nDigits n ≤ 1000) (hn0 : n ≠ 0) (w : World)
    (hA : Hid (∀ W, Calls Tryd.prog 34 #[.string A] W fun e w' => e = .returned (.bool ba) ∧ W = w')) (hB : Hid (∀ W, Calls Tryd.prog 34 #[.string B] W fun e w' => e = .returned (.bool bb) ∧ W = w')) (hSA : Hid (∀ W, Calls Tryd.prog 33 #[.string A] W fun e w' => e = .returned (.string (dstr m)) ∧ W = w')) (hSB : Hid (∀ W, Calls Tryd.prog 33 #[.string B] W fun e w' => e = .returned (.string (dstr n)) ∧ W = w'))
    (hG : Hid (∀ W, Calls Tryd.prog 35 #[.bool (ba != bb), .string (dstr (m / n))] W fun e w' => e = .returned (.string R) ∧ W = w')) (hG2 : Hid (∀ W, Calls Tryd.prog 35 #[.bool ba, .string (dstr (m % n))] W fun e w' => e = .returned (.string S) ∧ W = w')) :
    Calls Tryd.prog 24 #[.string A, .string B] w fun e w' => e = .returned (.tuple #[.string R, .string S]) ∧ Below w.heap.size w w' := by
  have hbig : Hid (∀ v, v < n * 10 → Lib.nDigits v ≤ 1001) := Lib.hid (fun v hv => nDigits_more hn hv)
  have HL : Hid (∀ W v, Calls Tryd.prog 37 #[.string (dstr v), .string (dstr n)] W fun e w' => e = .returned (.bool (decide (v < n))) ∧ W = w') := Lib.hid (fun W v => refLess_str v n W)
  have HM : Hid (∀ W v, n ≤ v → v < n * 10 → Calls Tryd.prog 38 #[.string (dstr v), .string (dstr n)] W fun e w' => e = .returned (.string (dstr (v - n))) ∧ Below W.heap.size W w') := Lib.hid (fun W v h1 h2 => refMinus_any (by have := hbig.out v h2; omega) h1 W)
  obtain ⟨X, hX⟩ : ∃ X, dstr m = X := ⟨_, rfl⟩
  obtain ⟨Y, hY⟩ : ∃ Y, dstr n = Y := ⟨_, rfl⟩
  have hxs : X.size ≤ 1000 := by rw [← hX, dstr_size]; exact hm
  have hxp : 0 < X.size := by rw [← hX]; exact dstr_pos m
  have hxn : Hid (X.size = Lib.nDigits m) := Lib.hid (by rw [← hX, dstr_size])
  have HD : Hid (∀ k (h : k < X.size), 48 ≤ X[k].toNat ∧ X[k].toNat ≤ 57 ∧ front m (k + 1) = front m k * 10 + (X[k].toNat - 48)) := Lib.hid (fun k h => dstr_byte hX h)
  have HN0 := Lib.hid hn0
  rw [hX] at hSA
  rw [hY] at hSB HL HM
  clear hX hY hm hn hn0
  obtain ⟨lo, hlo⟩ : ∃ lo, w.heap.size = lo := ⟨_, rfl⟩
  rw [hlo]
  have HLO : Hid (lo ≤ w.heap.size) := Lib.hid (by omega)
  clear hlo
  have h48 : (⟨#[48]⟩ : ByteArray) = dstr 0 := dstr_zero_text.symm
  have H48 := Lib.hid h48
  clear h48
  go_enter Tryd.func24, Tryd.ntmps24
  go_wp2_with fail
  go_at_call 33; refine (hSA.out _).mono ?_; rintro e w' ⟨rfl, rfl⟩
  go_wp2_with fail
  go_at_call 33; refine (hSB.out _).mono ?_; rintro e w' ⟨rfl, rfl⟩
  go_wp2
  go_loopw [6, 7, 10] (fun qv rv iv wr => ∃ (Q : ByteArray) (r i : Nat), qv = .string Q ∧ rv = .string (dstr r) ∧ iv = .int .i64 i ∧ i ≤ X.size ∧ Q.size = i ∧ Hid (Digs Q.data.toList ∧ front m i = n * dval Q.data.toList + r ∧ r < n) ∧ Hid (Below lo w wr)) (fun _ _ iv _ => X.size - (intOf iv).toNat)
  case atStart => exact ⟨⟨#[]⟩, 0, 0, rfl, by rw [H48.out], rfl, by omega, rfl, Lib.hid ⟨fun c hc => by simp at hc, by rw [front_zero]; rfl, by have := HN0.out; omega⟩, Lib.hid (Below.refl _ _)⟩
  case round =>
    obtain ⟨Q, r, i, rfl, rfl, rfl, hi, hq, HV, HH⟩ := hrel
    by_cases hlt : i < X.size
    · obtain ⟨h1, h2, h3⟩ := HD.out i hlt
      have HF := Lib.hid h3
      have hext := extract_one hlt
      have hr10 : r < n * 10 := by have := HV.out.2.2; omega
      have hrs : (dstr r).size ≤ 1001 := by rw [dstr_size]; exact hbig.out r hr10
      have HBR := Lib.hid (fun W => refBare_snoc (v := r) (b := X[i]) (by have := hbig.out r hr10; omega) ⟨h1, h2⟩ W)
      obtain ⟨b, hb⟩ : ∃ b, X[i] = b := ⟨_, rfl⟩
      rw [hb] at h1 h2 HF HBR hext
      obtain ⟨y, hy⟩ : ∃ y, b.toNat - 48 = y := ⟨_, rfl⟩
      rw [hy] at HF HBR
      have hy9 : y ≤ 9 := by omega
      clear h3 hb hr10 hy h1 h2
      go_wp2_with fail
      go_at_call 44; refine (HBR.out _).mono ?_; rintro e w' ⟨rfl, rfl⟩
      go_wp2
      obtain ⟨wo, rfl⟩ : ∃ wo : World, wo = wr := ⟨_, rfl⟩
      go_loopw [7, 11] (fun sv dv wr => ∃ (u d : Nat), sv = .string (dstr u) ∧ dv = .int .i64 d ∧ d ≤ 9 ∧ Hid (u + n * d = r * 10 + y) ∧ Hid (Below lo w wr)) (fun _ dv _ => 10 - (intOf dv).toNat)
      case atStart => exact ⟨r * 10 + y, 0, rfl, rfl, by omega, Lib.hid (by rw [Nat.mul_zero]; rfl), HH⟩
      case round =>
        obtain ⟨u, d, rfl, rfl, hd, HU, HH2⟩ := hrel
        have HLu := Lib.hid (fun W => HL.out W u)
        by_cases hun : u < n
        · rw [decide_eq_true hun] at HLu
          obtain ⟨c, hc⟩ : ∃ c, UInt8.ofNat (48 + d) = c := ⟨_, rfl⟩
          have hc2 : c.toNat = 48 + d := by rw [← hc]; exact ofNat_toNat (by omega)
          have hcv : ∀ W : World, (convert 43 9 (.slice (some ⟨W.heap.size, 0, none⟩) 1 1)).run Tryd.prog (W.alloc (.cells #[.int .u8 (48 + (d : Int))] 5)) = .ok (.string ⟨#[c]⟩) (W.alloc (.cells #[.int .u8 (48 + (d : Int))] 5)) := fun W => one_byte W _ c (by rw [hc2]; omega)
          have HUN := Lib.hid hun
          have HC2 := Lib.hid hc2
          clear hun hc hc2
          go_wp2_with (go_at_call 37; refine (HLu.out _).mono ?_; rintro e w' ⟨rfl, rfl⟩)
          go_roundw
          case rel =>
            refine ⟨Q ++ ⟨#[c]⟩, u, i + 1, rfl, rfl, by go_num, by omega, by rw [snoc_size, hq], Lib.hid ⟨?_, ?_, HUN.out⟩, Lib.hid (HH2.out.alloc (Nat.le_trans HLO.out HH2.out.size) _)⟩
            · rw [snoc_list]; exact digs_snoc HV.out.1 (by rw [HC2.out]; omega)
            · rw [snoc_list, dval_snoc, HC2.out, HF.out, show 48 + d - 48 = d by omega]
              exact part_step (m := m) HV.out.2.1 HU.out
          case measure => simp [intOf]; omega
        · rw [decide_eq_false hun] at HLu
          have hle : n ≤ u := by omega
          have hu2 : u - n + n * (d + 1) = r * 10 + y := by have h6 : n * (d + 1) = n * d + n := Nat.mul_succ n d; have := HU.out; rw [h6]; omega
          have hd9 : d + 1 ≤ 9 := part_digit HV.out.2.2 hy9 hu2
          have HMu := Lib.hid (fun W => HM.out W u hle (by have := HV.out.2.2; have := HU.out; omega))
          have HU2 := Lib.hid hu2
          clear hun hle hu2
          go_wp2_with (first
            | (go_at_call 37; refine (HLu.out _).mono ?_; rintro e w' ⟨rfl, rfl⟩)
            | (go_at_call 38; refine (HMu.out _).mono ?_; rintro e w1 ⟨rfl, hb⟩))
          go_roundw
          case rel => exact ⟨u - n, d + 1, rfl, by go_num, by omega, HU2, Lib.hid (HH2.out.trans (hb.mono (Nat.le_trans HLO.out HH2.out.size)))⟩
          case measure => simp [intOf]; omega
    · have hall := HV.out.2.1
      rw [show i = X.size by omega, hxn.out, front_all] at hall
      have hpos : 0 < n := by have := HN0.out; omega
      have e1 : m / n = dval Q.data.toList := by rw [hall, Nat.mul_add_div hpos, Nat.div_eq_of_lt HV.out.2.2]; rfl
      have e2 : m % n = r := by rw [hall, Nat.mul_add_mod, Nat.mod_eq_of_lt HV.out.2.2]
      have HQ := Lib.hid (fun W => refBare_dig (s := Q) (by omega) (by omega) HV.out.1 W)
      rw [← e1] at HQ
      subst e2
      clear hall e1
      go_wp2_with fail
      go_at_call 34; refine (hA.out _).mono ?_; rintro e w' ⟨rfl, rfl⟩
      go_wp2_with fail
      go_at_call 34; refine (hB.out _).mono ?_; rintro e w' ⟨rfl, rfl⟩
      go_wp2_with fail
      go_at_call 44; refine (HQ.out _).mono ?_; rintro e w' ⟨rfl, rfl⟩
      go_wp2_with fail
      go_at_call 35; refine (hG.out _).mono ?_; rintro e w' ⟨rfl, rfl⟩
      go_wp2_with fail
      go_at_call 34; refine (hA.out _).mono ?_; rintro e w' ⟨rfl, rfl⟩
      go_wp2_with fail
      go_at_call 35; refine (hG2.out _).mono ?_; rintro e w' ⟨rfl, rfl⟩
      go_wp2
      refine bodyPost_ret (v := .tuple #[.string R, .string S]) ?_ rfl ⟨rfl, HH.out⟩
      simp [results, Tryd.results24, go_sem]

theorem RefParted_any {a b : Int} (ha : Lib.nDigits a.natAbs ≤ 1000) (hb : Lib.nDigits b.natAbs ≤ 1000) (h0 : b ≠ 0) (w : World) :
    Calls Tryd.prog 24 #[.string (str a), .string (str b)] w fun e w' => e = .returned (.tuple #[.string (str (a.tdiv b)), .string (str (a.tmod b))]) ∧ Below w.heap.size w w' := by
  refine refParted_in ha hb (by omega) w (Lib.hid (fun W => refBelow_str a W)) (Lib.hid (fun W => refBelow_str b W)) (Lib.hid (fun W => refSize_str a W)) (Lib.hid (fun W => refSize_str b W)) (Lib.hid (fun W => ?_)) (Lib.hid (fun W => ?_))
  · have := refSigned_str (decide (a < 0) != decide (b < 0)) (m := a.natAbs / b.natAbs) (by have := nDigits_mono (Nat.div_le_self a.natAbs b.natAbs); omega) W
    rw [show (decide (a < 0) != decide (b < 0)) = (!(decide (a < 0)) == decide (b < 0)) by cases decide (a < 0) <;> cases decide (b < 0) <;> rfl, sg_tdiv] at this
    rw [show (decide (a < 0) != decide (b < 0)) = (!(decide (a < 0)) == decide (b < 0)) by cases decide (a < 0) <;> cases decide (b < 0) <;> rfl]
    exact this
  · have := refSigned_str (decide (a < 0)) (m := a.natAbs % b.natAbs) (by have := nDigits_mono (Nat.mod_le a.natAbs b.natAbs); omega) W
    rw [sg_tmod] at this
    exact this
end Go.Proofs.YtlilojaefpnkmaaDoor
