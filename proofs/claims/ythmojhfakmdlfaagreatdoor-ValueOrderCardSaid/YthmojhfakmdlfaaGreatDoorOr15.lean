/- The document's own answers, walked: plus of two sizes · The document's own answers, walked: minus of two sizes -/
import Derived.Test.YthmojhfakmdlfaaGreatDoorOr14
namespace Go.Proofs.YthmojhfakmdlfaaGreatDoor
open Go.RowKit

/-- A size's text. -/
def dstr (n : Nat) : ByteArray := ⟨(Lib.decDigits n).toArray⟩
theorem dstr_list (n : Nat) : (dstr n).data.toList = Lib.decDigits n := by simp [dstr]
theorem dstr_size (n : Nat) : (dstr n).size = Lib.nDigits n := by rw [← bytes_len, dstr_list, Lib.decDigits_length]
theorem dstr_pos (n : Nat) : 0 < (dstr n).size := by rw [dstr_size]; exact Lib.nDigits_pos n

theorem refDigit_any {m : Nat} (hm : Lib.nDigits m ≤ 1000000) (i : Nat) (w : World) : Calls Tryz.prog 145 #[.string (dstr m), .int .i64 i] w fun e w' => e = .returned (.int .i64 ((m / 10 ^ i % 10 : Nat) : Int)) ∧ w = w' := by
  by_cases h : i < Lib.nDigits m
  · have h1 := dec_at m i h
    have e : ((dstr m)[Lib.nDigits m - 1 - i]'(by rw [dstr_size]; omega)) = (Lib.decDigits m)[Lib.nDigits m - 1 - i]'(by rw [Lib.decDigits_length]; omega) := by
      simp only [← bytes_at, dstr_list]
    have := refDigit_in (dstr m) i (Lib.nDigits m - 1 - i) (by rw [dstr_size]; exact hm) (by rw [dstr_size]; omega) (by rw [e]; exact h1.2.1) w
    rw [e] at this
    rw [← h1.1]
    refine this.mono fun e w' h => ?_
    rw [h.1]
    exact ⟨by congr 2; omega, h.2⟩
  · have := refDigit_out (dstr m) i (by rw [dstr_size]; omega) w
    rw [dec_beyond m i (by omega)]
    exact this
theorem refBare_dig {s : ByteArray} (h : 0 < s.size) (hl : s.size ≤ 1000000) (hd : Digs s.data.toList) (w : World) : Calls Tryz.prog 146 #[.string s] w fun e w' => e = .returned (.string (dstr (dval s.data.toList))) ∧ w = w' := by
  have := refBare_any s h hl w
  rw [bareL_dec hd (by intro h'; rw [← bytes_len, h'] at h; simp at h)] at this
  exact this
theorem one_byte (W : World) (z : Int) (b : UInt8) (hz : z = (b.toNat : Int)) : (convert 57 9 (.slice (some ⟨W.heap.size, 0, none⟩) 1 1)).run Tryz.prog (W.alloc (.cells #[.int .u8 z] 5)) = .ok (.string ⟨#[b]⟩) (W.alloc (.cells #[.int .u8 z] 5)) :=
  run_convert_bytes_back (P := Tryz.prog) (W.alloc (.cells #[.int .u8 z] 5)) 57 9 5 ⟨W.heap.size, 0, none⟩ 1 [b] Tryz.underlying57 Tryz.underlying5 Tryz.underlying9 (fun j hj => by
    obtain rfl : j = 0 := by simp at hj; omega
    rw [hz]
    exact cell_box _ _ _ 0 _ rfl)
theorem head_bytes (b : UInt8) (s : ByteArray) : ((⟨#[b]⟩ : ByteArray) ++ s).data.toList = b :: s.data.toList := by simp [ByteArray.data_append]
theorem head_size (b : UInt8) (s : ByteArray) : ((⟨#[b]⟩ : ByteArray) ++ s).size = s.size + 1 := by rw [← bytes_len, head_bytes, List.length_cons, bytes_len]
theorem sum_full {m n M k c : Nat} {out : List UInt8} (h : SumIs m n k out c) (hm : m < 10 ^ M) (hn : n < 10 ^ M) (hk : M < k) : c = 0 := by
  obtain ⟨h1, h2, h3, h4⟩ := h
  have hp : 10 * 10 ^ M ≤ 10 ^ k := by rw [Nat.mul_comm, ← Nat.pow_succ]; exact Nat.pow_le_pow_right (by omega) hk
  rw [Nat.mod_eq_of_lt (by omega), Nat.mod_eq_of_lt (by omega)] at h4
  rcases Nat.eq_zero_or_pos c with h0 | h0
  · exact h0
  · obtain rfl : c = 1 := by omega
    omega

set_option maxRecDepth 100000 in
set_option maxHeartbeats 1000000 in
theorem refPlus_any {m n : Nat} (hm : Lib.nDigits m ≤ 100000) (hn : Lib.nDigits n ≤ 100000) (w : World) :
    Calls Tryz.prog 116 #[.string (dstr m), .string (dstr n)] w fun e w' => e = .returned (.string (dstr (m + n))) ∧ Below w.heap.size w w' := by
  have HA : Hid (∀ W (i : Nat), Calls Tryz.prog 145 #[.string (dstr m), .int .i64 i] W fun e w' => e = .returned (.int .i64 ((m / 10 ^ i % 10 : Nat) : Int)) ∧ W = w') := Lib.hid (fun W i => refDigit_any (by omega) i W)
  have HB : Hid (∀ W (i : Nat), Calls Tryz.prog 145 #[.string (dstr n), .int .i64 i] W fun e w' => e = .returned (.int .i64 ((n / 10 ^ i % 10 : Nat) : Int)) ∧ W = w') := Lib.hid (fun W i => refDigit_any (by omega) i W)
  obtain ⟨A, hA⟩ : ∃ A, dstr m = A := ⟨_, rfl⟩
  obtain ⟨B, hB⟩ : ∃ B, dstr n = B := ⟨_, rfl⟩
  have hla : A.size = Lib.nDigits m := by rw [← hA, dstr_size]
  have hlb : B.size = Lib.nDigits n := by rw [← hB, dstr_size]
  have hpa : 0 < A.size := by rw [← hA]; exact dstr_pos m
  have hlm : Hid (m < 10 ^ A.size) := Lib.hid (by rw [hla]; exact Lib.lt_pow_nDigits m)
  have hln : Hid (n < 10 ^ B.size) := Lib.hid (by rw [hlb]; exact Lib.lt_pow_nDigits n)
  rw [hA] at HA ⊢
  rw [hB] at HB ⊢
  rw [← hla] at hm
  rw [← hlb] at hn
  clear hA hB hla hlb
  obtain ⟨M, hMa, hMb, hM⟩ : ∃ M, A.size ≤ M ∧ B.size ≤ M ∧ M ≤ 100000 := ⟨max A.size B.size, by omega, by omega, by omega⟩
  have HM : Hid (m < 10 ^ M ∧ n < 10 ^ M) := Lib.hid ⟨Nat.lt_of_lt_of_le hlm.out (Nat.pow_le_pow_right (by omega) hMa), Nat.lt_of_lt_of_le hln.out (Nat.pow_le_pow_right (by omega) hMb)⟩
  obtain ⟨lo, hlo⟩ : ∃ lo, w.heap.size = lo := ⟨_, rfl⟩
  rw [hlo]
  have HLO : lo ≤ w.heap.size := by omega
  clear hlo
  go_enter Tryz.func116, Tryz.ntmps116
  go_wp2
  go_loopw [5, 6, 7] (fun ov cv iv wr => ∃ (out : ByteArray) (c k : Nat), ov = .string out ∧ cv = .int .i64 c ∧ iv = .int .i64 k ∧ c ≤ 1 ∧ k ≤ M + 1 ∧ out.size = k ∧ Hid (SumIs m n k out.data.toList c) ∧ Below lo w wr) (fun _ _ iv _ => M + 1 - (intOf iv).toNat)
  case atStart => exact ⟨⟨#[]⟩, 0, 0, rfl, rfl, rfl, by omega, by omega, rfl, Lib.hid (sum_start m n), Below.refl _ _⟩
  case round =>
    obtain ⟨out, c, k, rfl, rfl, rfl, hc, hk, hsz, HS, hbel⟩ := hrel
    obtain ⟨x, hx⟩ : ∃ x, m / 10 ^ k % 10 = x := ⟨_, rfl⟩
    obtain ⟨y, hy⟩ : ∃ y, n / 10 ^ k % 10 = y := ⟨_, rfl⟩
    have hx9 : x ≤ 9 := by omega
    have hy9 : y ≤ 9 := by omega
    have HX := Lib.hid (fun W => HA.out W k)
    have HY := Lib.hid (fun W => HB.out W k)
    rw [hx] at HX
    rw [hy] at HY
    have HN := Lib.hid (sum_step HS.out (d := x + y + c) (by rw [hx, hy]))
    have HF := Lib.hid (fun h => sum_full HS.out HM.out.1 HM.out.2 (k := k) h)
    have HH := Lib.hid hbel
    obtain ⟨b, hb⟩ : ∃ b, UInt8.ofNat (48 + (x + y + c) % 10) = b := ⟨_, rfl⟩
    have hcv : ∀ W : World, (convert 57 9 (.slice (some ⟨W.heap.size, 0, none⟩) 1 1)).run Tryz.prog (W.alloc (.cells #[.int .u8 (48 + ((x : Int) + (y : Int) + (c : Int)) % 10)] 5)) = .ok (.string ⟨#[b]⟩) (W.alloc (.cells #[.int .u8 (48 + ((x : Int) + (y : Int) + (c : Int)) % 10)] 5)) := fun W => one_byte W _ b (by rw [← hb, ofNat_toNat (by omega)]; omega)
    rw [hb] at HN
    clear hx hy hb hbel
    by_cases ha : k < A.size
    · go_wp2_with fail
      go_at_call 145; refine (HX.out _).mono ?_; rintro e w' ⟨rfl, rfl⟩
      go_wp2_with fail
      go_at_call 145; refine (HY.out _).mono ?_; rintro e w' ⟨rfl, rfl⟩
      go_wp2
      go_roundw
      case rel => exact ⟨_, (x + y + c) / 10, k + 1, rfl, by go_num, by go_num, by omega, by omega, by rw [head_size, hsz], Lib.hid (by rw [head_bytes]; exact HN.out), HH.out.alloc (Nat.le_trans HLO HH.out.size) _⟩
      case measure => simp [intOf]; omega
    · by_cases hb : k < B.size
      · go_wp2_with fail
        go_at_call 145; refine (HX.out _).mono ?_; rintro e w' ⟨rfl, rfl⟩
        go_wp2_with fail
        go_at_call 145; refine (HY.out _).mono ?_; rintro e w' ⟨rfl, rfl⟩
        go_wp2
        go_roundw
        case rel => exact ⟨_, (x + y + c) / 10, k + 1, rfl, by go_num, by go_num, by omega, by omega, by rw [head_size, hsz], Lib.hid (by rw [head_bytes]; exact HN.out), HH.out.alloc (Nat.le_trans HLO HH.out.size) _⟩
        case measure => simp [intOf]; omega
      · by_cases h0 : 0 < c
        · have hkM : k ≤ M := Nat.le_of_not_lt (fun h => by have := HF.out h; omega)
          go_wp2_with fail
          go_at_call 145; refine (HX.out _).mono ?_; rintro e w' ⟨rfl, rfl⟩
          go_wp2_with fail
          go_at_call 145; refine (HY.out _).mono ?_; rintro e w' ⟨rfl, rfl⟩
          go_wp2
          go_roundw
          case rel => exact ⟨_, (x + y + c) / 10, k + 1, rfl, by go_num, by go_num, by omega, by omega, by rw [head_size, hsz], Lib.hid (by rw [head_bytes]; exact HN.out), HH.out.alloc (Nat.le_trans HLO HH.out.size) _⟩
          case measure => simp [intOf]; omega
        · obtain rfl : c = 0 := by omega
          have HV := Lib.hid (sum_end HS.out (Nat.lt_of_lt_of_le hlm.out (Nat.pow_le_pow_right (by omega) (Nat.le_of_not_lt ha))) (Nat.lt_of_lt_of_le hln.out (Nat.pow_le_pow_right (by omega) (Nat.le_of_not_lt hb))))
          have HG := Lib.hid (fun W => refBare_dig (s := out) (by omega) (by omega) HS.out.1 W)
          rw [HV.out] at HG
          go_wp2_with (go_at_call 146; refine (HG.out _).mono ?_; rintro e w' ⟨rfl, rfl⟩)
          go_ret
          exact ⟨rfl, HH.out⟩
end Go.Proofs.YthmojhfakmdlfaaGreatDoor
namespace Go.Proofs.YthmojhfakmdlfaaGreatDoor
open Go.RowKit

set_option maxRecDepth 100000 in
set_option maxHeartbeats 1000000 in
theorem refMinus_any {m n : Nat} (hm : Lib.nDigits m ≤ 100000) (hnm : n ≤ m) (w : World) :
    Calls Tryz.prog 119 #[.string (dstr m), .string (dstr n)] w fun e w' => e = .returned (.string (dstr (m - n))) ∧ Below w.heap.size w w' := by
  have hn : Lib.nDigits n ≤ Lib.nDigits m := nDigits_mono hnm
  have HA : Hid (∀ W (i : Nat), Calls Tryz.prog 145 #[.string (dstr m), .int .i64 i] W fun e w' => e = .returned (.int .i64 ((m / 10 ^ i % 10 : Nat) : Int)) ∧ W = w') := Lib.hid (fun W i => refDigit_any (by omega) i W)
  have HB : Hid (∀ W (i : Nat), Calls Tryz.prog 145 #[.string (dstr n), .int .i64 i] W fun e w' => e = .returned (.int .i64 ((n / 10 ^ i % 10 : Nat) : Int)) ∧ W = w') := Lib.hid (fun W i => refDigit_any (by omega) i W)
  obtain ⟨A, hA⟩ : ∃ A, dstr m = A := ⟨_, rfl⟩
  obtain ⟨B, hB⟩ : ∃ B, dstr n = B := ⟨_, rfl⟩
  have hla : A.size = Lib.nDigits m := by rw [← hA, dstr_size]
  have hpa : 0 < A.size := by rw [← hA]; exact dstr_pos m
  have hlm : Hid (m < 10 ^ A.size) := Lib.hid (by rw [hla]; exact Lib.lt_pow_nDigits m)
  have HNM := Lib.hid hnm
  rw [hA] at HA ⊢
  rw [hB] at HB ⊢
  rw [← hla] at hm
  clear hA hB hla hn hnm
  obtain ⟨lo, hlo⟩ : ∃ lo, w.heap.size = lo := ⟨_, rfl⟩
  rw [hlo]
  have HLO : lo ≤ w.heap.size := by omega
  clear hlo
  go_enter Tryz.func119, Tryz.ntmps119
  go_wp2
  go_loopw [5, 6, 7] (fun ov cv iv wr => ∃ (out : ByteArray) (c k : Nat), ov = .string out ∧ cv = .int .i64 c ∧ iv = .int .i64 k ∧ c ≤ 1 ∧ k ≤ A.size ∧ out.size = k ∧ Hid (DiffIs m n k out.data.toList c) ∧ Below lo w wr) (fun _ _ iv _ => A.size - (intOf iv).toNat)
  case atStart => exact ⟨⟨#[]⟩, 0, 0, rfl, rfl, rfl, by omega, by omega, rfl, Lib.hid (diff_start m n), Below.refl _ _⟩
  case round =>
    obtain ⟨out, c, k, rfl, rfl, rfl, hc, hk, hsz, HS, hbel⟩ := hrel
    have HH := Lib.hid hbel
    by_cases ha : k < A.size
    · obtain ⟨x, hx⟩ : ∃ x, m / 10 ^ k % 10 = x := ⟨_, rfl⟩
      obtain ⟨y, hy⟩ : ∃ y, n / 10 ^ k % 10 = y := ⟨_, rfl⟩
      have hx9 : x ≤ 9 := by omega
      have hy9 : y ≤ 9 := by omega
      have HX := Lib.hid (fun W => HA.out W k)
      have HY := Lib.hid (fun W => HB.out W k)
      rw [hx] at HX
      rw [hy] at HY
      by_cases hlt : x < y + c
      · have HN := Lib.hid (diff_step HS.out (d := x + 10 - y - c) (b' := 1) (by rw [hx, hy]; omega) (by omega) (by omega))
        obtain ⟨b, hb⟩ : ∃ b, UInt8.ofNat (48 + (x + 10 - y - c)) = b := ⟨_, rfl⟩
        have hcv : ∀ W : World, (convert 57 9 (.slice (some ⟨W.heap.size, 0, none⟩) 1 1)).run Tryz.prog (W.alloc (.cells #[.int .u8 (48 + ((x : Int) - (y : Int) - (c : Int) + 10))] 5)) = .ok (.string ⟨#[b]⟩) (W.alloc (.cells #[.int .u8 (48 + ((x : Int) - (y : Int) - (c : Int) + 10))] 5)) := fun W => one_byte W _ b (by rw [← hb, ofNat_toNat (by omega)]; omega)
        rw [hb] at HN
        clear hx hy hb hbel
        go_wp2_with fail
        go_at_call 145; refine (HX.out _).mono ?_; rintro e w' ⟨rfl, rfl⟩
        go_wp2_with fail
        go_at_call 145; refine (HY.out _).mono ?_; rintro e w' ⟨rfl, rfl⟩
        go_wp2
        go_roundw
        case rel => exact ⟨_, 1, k + 1, rfl, rfl, by go_num, by omega, by omega, by rw [head_size, hsz], Lib.hid (by rw [head_bytes]; exact HN.out), HH.out.alloc (Nat.le_trans HLO HH.out.size) _⟩
        case measure => simp [intOf]; omega
      · have HN := Lib.hid (diff_step HS.out (d := x - y - c) (b' := 0) (by rw [hx, hy]; omega) (by omega) (by omega))
        obtain ⟨b, hb⟩ : ∃ b, UInt8.ofNat (48 + (x - y - c)) = b := ⟨_, rfl⟩
        have hcv : ∀ W : World, (convert 57 9 (.slice (some ⟨W.heap.size, 0, none⟩) 1 1)).run Tryz.prog (W.alloc (.cells #[.int .u8 (48 + ((x : Int) - (y : Int) - (c : Int)))] 5)) = .ok (.string ⟨#[b]⟩) (W.alloc (.cells #[.int .u8 (48 + ((x : Int) - (y : Int) - (c : Int)))] 5)) := fun W => one_byte W _ b (by rw [← hb, ofNat_toNat (by omega)]; omega)
        rw [hb] at HN
        clear hx hy hb hbel
        go_wp2_with fail
        go_at_call 145; refine (HX.out _).mono ?_; rintro e w' ⟨rfl, rfl⟩
        go_wp2_with fail
        go_at_call 145; refine (HY.out _).mono ?_; rintro e w' ⟨rfl, rfl⟩
        go_wp2
        go_roundw
        case rel => exact ⟨_, 0, k + 1, rfl, rfl, by go_num, by omega, by omega, by rw [head_size, hsz], Lib.hid (by rw [head_bytes]; exact HN.out), HH.out.alloc (Nat.le_trans HLO HH.out.size) _⟩
        case measure => simp [intOf]; omega
    · have HM : Hid (m < 10 ^ k) := Lib.hid (Nat.lt_of_lt_of_le hlm.out (Nat.pow_le_pow_right (by omega) (by omega)))
      obtain rfl : c = 0 := diff_owed HS.out HM.out HNM.out
      have HV := Lib.hid (diff_end HS.out HM.out HNM.out)
      have HG := Lib.hid (fun W => refBare_dig (s := out) (by omega) (by omega) HS.out.1 W)
      rw [HV.out] at HG
      clear hbel
      go_wp2_with (go_at_call 146; refine (HG.out _).mono ?_; rintro e w' ⟨rfl, rfl⟩)
      go_ret
      exact ⟨rfl, HH.out⟩
end Go.Proofs.YthmojhfakmdlfaaGreatDoor
