/- The document's own answers, walked: minus of two sizes. -/
import Derived.Test.YtlilojaefpnkmaaDoorRefB
namespace Go.Proofs.YtlilojaefpnkmaaDoor
open Go.RowKit

set_option maxRecDepth 100000 in
set_option maxHeartbeats 1000000 in
theorem refMinus_any {m n : Nat} (hm : Lib.nDigits m ≤ 100000) (hnm : n ≤ m) (w : World) :
    Calls Tryd.prog 38 #[.string (dstr m), .string (dstr n)] w fun e w' => e = .returned (.string (dstr (m - n))) ∧ Below w.heap.size w w' := by
  have hn : Lib.nDigits n ≤ Lib.nDigits m := nDigits_mono hnm
  have HA : Hid (∀ W (i : Nat), Calls Tryd.prog 52 #[.string (dstr m), .int .i64 i] W fun e w' => e = .returned (.int .i64 ((m / 10 ^ i % 10 : Nat) : Int)) ∧ W = w') := Lib.hid (fun W i => refDigit_any (by omega) i W)
  have HB : Hid (∀ W (i : Nat), Calls Tryd.prog 52 #[.string (dstr n), .int .i64 i] W fun e w' => e = .returned (.int .i64 ((n / 10 ^ i % 10 : Nat) : Int)) ∧ W = w') := Lib.hid (fun W i => refDigit_any (by omega) i W)
  obtain ⟨A, hA⟩ : ∃ A, dstr m = A := ⟨_, rfl⟩
  obtain ⟨B, hB⟩ : ∃ B, dstr n = B := ⟨_, rfl⟩
  have hla : A.size = Lib.nDigits m := by rw [← hA, dstr_size]
  have hpa : 0 < A.size := by rw [← hA]; exact dstr_pos m
  have hlm : Hid (m < 10 ^ A.size) := Lib.hid (by rw [hla]; exact Lib.lt_pow_nDigits m)
  have HNM := Lib.hid hnm
  rw [hA] at HA ⊢
  rw [hB] at HB ⊢
  rw [← hla] at hm
  clear hA hB hla hn hnm
  obtain ⟨lo, hlo⟩ : ∃ lo, w.heap.size = lo := ⟨_, rfl⟩
  rw [hlo]
  have HLO : lo ≤ w.heap.size := by omega
  clear hlo
  go_enter Tryd.func38, Tryd.ntmps38
  go_wp2
  go_loopw [5, 6, 7] (fun ov cv iv wr => ∃ (out : ByteArray) (c k : Nat), ov = .string out ∧ cv = .int .i64 c ∧ iv = .int .i64 k ∧ c ≤ 1 ∧ k ≤ A.size ∧ out.size = k ∧ Hid (DiffIs m n k out.data.toList c) ∧ Below lo w wr) (fun _ _ iv _ => A.size - (intOf iv).toNat)
  case atStart => exact ⟨⟨#[]⟩, 0, 0, rfl, rfl, rfl, by omega, by omega, rfl, Lib.hid (diff_start m n), Below.refl _ _⟩
  case round =>
    obtain ⟨out, c, k, rfl, rfl, rfl, hc, hk, hsz, HS, hbel⟩ := hrel
    have HH := Lib.hid hbel
    by_cases ha : k < A.size
    · obtain ⟨x, hx⟩ : ∃ x, m / 10 ^ k % 10 = x := ⟨_, rfl⟩
      obtain ⟨y, hy⟩ : ∃ y, n / 10 ^ k % 10 = y := ⟨_, rfl⟩
      have hx9 : x ≤ 9 := by omega
      have hy9 : y ≤ 9 := by omega
      have HX := Lib.hid (fun W => HA.out W k)
      have HY := Lib.hid (fun W => HB.out W k)
      rw [hx] at HX
      rw [hy] at HY
      by_cases hlt : x < y + c
      · have HN := Lib.hid (diff_step HS.out (d := x + 10 - y - c) (b' := 1) (by rw [hx, hy]; omega) (by omega) (by omega))
        obtain ⟨b, hb⟩ : ∃ b, UInt8.ofNat (48 + (x + 10 - y - c)) = b := ⟨_, rfl⟩
        have hcv : ∀ W : World, (convert 43 9 (.slice (some ⟨W.heap.size, 0, none⟩) 1 1)).run Tryd.prog (W.alloc (.cells #[.int .u8 (48 + ((x : Int) - (y : Int) - (c : Int) + 10))] 5)) = .ok (.string ⟨#[b]⟩) (W.alloc (.cells #[.int .u8 (48 + ((x : Int) - (y : Int) - (c : Int) + 10))] 5)) := fun W => one_byte W _ b (by rw [← hb, ofNat_toNat (by omega)]; omega)
        rw [hb] at HN
        clear hx hy hb hbel
        go_wp2_with fail
        go_at_call 52; refine (HX.out _).mono ?_; rintro e w' ⟨rfl, rfl⟩
        go_wp2_with fail
        go_at_call 52; refine (HY.out _).mono ?_; rintro e w' ⟨rfl, rfl⟩
        go_wp2
        go_roundw
        case rel => exact ⟨_, 1, k + 1, rfl, rfl, by go_num, by omega, by omega, by rw [head_size, hsz], Lib.hid (by rw [head_bytes]; exact HN.out), HH.out.alloc (Nat.le_trans HLO HH.out.size) _⟩
        case measure => simp [intOf]; omega
      · have HN := Lib.hid (diff_step HS.out (d := x - y - c) (b' := 0) (by rw [hx, hy]; omega) (by omega) (by omega))
        obtain ⟨b, hb⟩ : ∃ b, UInt8.ofNat (48 + (x - y - c)) = b := ⟨_, rfl⟩
        have hcv : ∀ W : World, (convert 43 9 (.slice (some ⟨W.heap.size, 0, none⟩) 1 1)).run Tryd.prog (W.alloc (.cells #[.int .u8 (48 + ((x : Int) - (y : Int) - (c : Int)))] 5)) = .ok (.string ⟨#[b]⟩) (W.alloc (.cells #[.int .u8 (48 + ((x : Int) - (y : Int) - (c : Int)))] 5)) := fun W => one_byte W _ b (by rw [← hb, ofNat_toNat (by omega)]; omega)
        rw [hb] at HN
        clear hx hy hb hbel
        go_wp2_with fail
        go_at_call 52; refine (HX.out _).mono ?_; rintro e w' ⟨rfl, rfl⟩
        go_wp2_with fail
        go_at_call 52; refine (HY.out _).mono ?_; rintro e w' ⟨rfl, rfl⟩
        go_wp2
        go_roundw
        case rel => exact ⟨_, 0, k + 1, rfl, rfl, by go_num, by omega, by omega, by rw [head_size, hsz], Lib.hid (by rw [head_bytes]; exact HN.out), HH.out.alloc (Nat.le_trans HLO HH.out.size) _⟩
        case measure => simp [intOf]; omega
    · have HM : Hid (m < 10 ^ k) := Lib.hid (Nat.lt_of_lt_of_le hlm.out (Nat.pow_le_pow_right (by omega) (by omega)))
      obtain rfl : c = 0 := diff_owed HS.out HM.out HNM.out
      have HV := Lib.hid (diff_end HS.out HM.out HNM.out)
      have HG := Lib.hid (fun W => refBare_dig (s := out) (by omega) (by omega) HS.out.1 W)
      rw [HV.out] at HG
      clear hbel
      go_wp2_with (go_at_call 44; refine (HG.out _).mono ?_; rintro e w' ⟨rfl, rfl⟩)
      go_ret
      exact ⟨rfl, HH.out⟩
end Go.Proofs.YtlilojaefpnkmaaDoor
