/- The document's own answers, walked: Digits, Int. -/
import Derived.Test.YtlilojaefpnkmaaDoorInts1
import Derived.Test.YtlilojaefpnkmaaDoorRefT
namespace Go.Proofs.YtlilojaefpnkmaaDoor
open Go.RowKit
set_option linter.unusedVariables false

/-- What Digits has written when K is left of N. -/
def Wrote (N K : Nat) (s : List UInt8) : Prop := (K ≠ 0 → Lib.decDigits N = Lib.decDigits K ++ s) ∧ (K = 0 → s = Lib.decDigits N)
theorem wrote_step {N K : Nat} {s : List UInt8} (h : Wrote N K s) (hK : K ≠ 0) : Wrote N (K / 10) (UInt8.ofNat (48 + K % 10) :: s) := by
  have h1 := h.1 hK
  constructor
  · intro h2
    rw [h1]
    have := decDigits_snoc h2 (d := K % 10) (by omega)
    rw [show K / 10 * 10 + K % 10 = K by omega] at this
    rw [this]
    simp
  · intro h2
    rw [h1, Lib.decDigits_one (i := K) (by omega), show K % 10 = K by omega]
    rfl
theorem wrote_size {N K : Nat} {s : List UInt8} (h : Wrote N K s) (hN : Lib.nDigits N ≤ 19) : s.length ≤ 19 := by
  by_cases hK : K = 0
  · rw [h.2 hK, Lib.decDigits_length]; exact hN
  · have := congrArg List.length (h.1 hK)
    rw [List.length_append, Lib.decDigits_length] at this
    omega

set_option maxRecDepth 100000 in
set_option maxHeartbeats 1000000 in
theorem refDigits_pos {N : Nat} (h0 : N ≠ 0) (h1 : N ≤ 9223372036854775807) (w : World) : Calls Tryd.prog 28 #[.int .i64 (N : Int)] w fun e w' => e = .returned (.string (str (N : Int))) ∧ Below w.heap.size w w' := by
  have hN : Lib.nDigits N ≤ 19 := nDigits_le (by omega) (by omega)
  have HG := Lib.hid (fun W => refSigned_str false (m := N) (by omega) W)
  rw [show sg false N = (N : Int) from rfl] at HG
  obtain ⟨R, hR⟩ : ∃ R, str (N : Int) = R := ⟨_, rfl⟩
  rw [hR] at HG ⊢
  have HN := Lib.hid hN
  have hNz : ((N : Int) == 0) = false := beq_eq_false_iff_ne.2 (by omega)
  have hlt0 : decide ((N : Int) < 0) = false := decide_eq_false (by omega)
  clear hR hN
  obtain ⟨lo, hlo⟩ : ∃ lo, w.heap.size = lo := ⟨_, rfl⟩
  rw [hlo]
  have HLO : Hid (lo ≤ w.heap.size) := Lib.hid (by omega)
  clear hlo
  go_enter Tryd.func28, Tryd.ntmps28
  go_wp2
  go_loopw [3, 4] (fun sv kv wr => ∃ (s : ByteArray) (K : Nat), sv = .string s ∧ kv = .int .i64 (K : Int) ∧ K ≤ N ∧ Hid (Wrote N K s.data.toList) ∧ Hid (Below lo w wr)) (fun _ kv _ => (intOf kv).toNat)
  case atStart => exact ⟨⟨#[]⟩, N, rfl, rfl, Nat.le_refl _, Lib.hid ⟨fun _ => by simp, fun h => absurd h h0⟩, Lib.hid (Below.refl _ _)⟩
  case round =>
    obtain ⟨s, K, rfl, rfl, hK, HW, HH⟩ := hrel
    have hs : s.size ≤ 19 := by rw [← bytes_len]; exact wrote_size HW.out HN.out
    by_cases hK0 : K = 0
    · subst hK0
      obtain rfl : s = dstr N := WideShapes.bytes_inj (by rw [HW.out.2 rfl, dstr_list])
      go_wp2_with (go_at_call 35; refine (HG.out _).mono ?_; rintro e w' ⟨rfl, rfl⟩)
      go_ret
      exact ⟨rfl, HH.out⟩
    · have hKz : ((K : Int) == 0) = false := beq_eq_false_iff_ne.2 (by omega)
      have HST := Lib.hid (wrote_step HW.out hK0)
      obtain ⟨b, hb⟩ : ∃ b, UInt8.ofNat (48 + K % 10) = b := ⟨_, rfl⟩
      have hcv : ∀ W : World, (convert 43 9 (.slice (some ⟨W.heap.size, 0, none⟩) 1 1)).run Tryd.prog (W.alloc (.cells #[.int .u8 (48 + (K : Int) % 10)] 5)) = .ok (.string ⟨#[b]⟩) (W.alloc (.cells #[.int .u8 (48 + (K : Int) % 10)] 5)) := fun W => one_byte W _ b (by rw [← hb, ofNat_toNat (by omega)]; omega)
      rw [hb] at HST
      clear hb
      go_wp2
      go_roundw
      case rel => exact ⟨_, K / 10, rfl, by go_num, by omega, Lib.hid (by rw [head_bytes]; exact HST.out), Lib.hid (HH.out.alloc (Nat.le_trans HLO.out HH.out.size) _)⟩
      case measure => simp [intOf]; omega

set_option maxRecDepth 100000 in
set_option maxHeartbeats 1000000 in
theorem refDigits_neg {N : Nat} (h0 : N ≠ 0) (h1 : N ≤ 9223372036854775808) (w : World) : Calls Tryd.prog 28 #[.int .i64 (-(N : Int))] w fun e w' => e = .returned (.string (str (-(N : Int)))) ∧ Below w.heap.size w w' := by
  have hN : Lib.nDigits N ≤ 19 := nDigits_le (by omega) (by omega)
  have HG := Lib.hid (fun W => refSigned_str true (m := N) (by omega) W)
  rw [show sg true N = -(N : Int) from rfl] at HG
  obtain ⟨R, hR⟩ : ∃ R, str (-(N : Int)) = R := ⟨_, rfl⟩
  rw [hR] at HG ⊢
  have HN := Lib.hid hN
  have hNz : (-(N : Int) == 0) = false := beq_eq_false_iff_ne.2 (by omega)
  have hlt0 : decide (0 < N) = true := decide_eq_true (by omega)
  clear hR hN
  obtain ⟨lo, hlo⟩ : ∃ lo, w.heap.size = lo := ⟨_, rfl⟩
  rw [hlo]
  have HLO : Hid (lo ≤ w.heap.size) := Lib.hid (by omega)
  clear hlo
  go_enter Tryd.func28, Tryd.ntmps28
  go_wp2
  go_loopw [3, 4] (fun sv kv wr => ∃ (s : ByteArray) (K : Nat), sv = .string s ∧ kv = .int .i64 (-(K : Int)) ∧ K ≤ N ∧ Hid (Wrote N K s.data.toList) ∧ Hid (Below lo w wr)) (fun _ kv _ => (-(intOf kv)).toNat)
  case atStart => exact ⟨⟨#[]⟩, N, rfl, rfl, Nat.le_refl _, Lib.hid ⟨fun _ => by simp, fun h => absurd h h0⟩, Lib.hid (Below.refl _ _)⟩
  case round =>
    obtain ⟨s, K, rfl, rfl, hK, HW, HH⟩ := hrel
    have hs : s.size ≤ 19 := by rw [← bytes_len]; exact wrote_size HW.out HN.out
    by_cases hK0 : K = 0
    · subst hK0
      obtain rfl : s = dstr N := WideShapes.bytes_inj (by rw [HW.out.2 rfl, dstr_list])
      rw [show -((0 : Nat) : Int) = 0 from rfl]
      go_wp2_with (go_at_call 35; refine (HG.out _).mono ?_; rintro e w' ⟨rfl, rfl⟩)
      go_ret
      exact ⟨rfl, HH.out⟩
    · have hKz : (-(K : Int) == 0) = false := beq_eq_false_iff_ne.2 (by omega)
      have hrem : (-(K : Int)).tmod 10 = -((K % 10 : Nat) : Int) := by rw [Int.neg_tmod]; rfl
      have hquo : (-(K : Int)).tdiv 10 = -((K / 10 : Nat) : Int) := by rw [Int.neg_tdiv]; rfl
      have HST := Lib.hid (wrote_step HW.out hK0)
      obtain ⟨b, hb⟩ : ∃ b, UInt8.ofNat (48 + K % 10) = b := ⟨_, rfl⟩
      have hcv : ∀ W : World, (convert 43 9 (.slice (some ⟨W.heap.size, 0, none⟩) 1 1)).run Tryd.prog (W.alloc (.cells #[.int .u8 (48 + ((K % 10 : Nat) : Int))] 5)) = .ok (.string ⟨#[b]⟩) (W.alloc (.cells #[.int .u8 (48 + ((K % 10 : Nat) : Int))] 5)) := fun W => one_byte W _ b (by rw [← hb, ofNat_toNat (by omega)]; omega)
      rw [hb] at HST
      obtain ⟨q, hq⟩ : ∃ q, K / 10 = q := ⟨_, rfl⟩
      obtain ⟨r, hr⟩ : ∃ r, K % 10 = r := ⟨_, rfl⟩
      have hr9 : r ≤ 9 := by omega
      have hqK : q < K := by omega
      rw [hr] at hrem hcv
      rw [hq] at hquo HST
      clear hb hq hr
      by_cases hr0 : r = 0
      · subst hr0
        have hrem' : (-(K : Int)).tmod 10 = 0 := by rw [hrem]; rfl
        have hcv' : ∀ W : World, (convert 43 9 (.slice (some ⟨W.heap.size, 0, none⟩) 1 1)).run Tryd.prog (W.alloc (.cells #[.int .u8 48] 5)) = .ok (.string ⟨#[b]⟩) (W.alloc (.cells #[.int .u8 48] 5)) := hcv
        clear hrem hcv
        go_wp2
        go_roundw
        case rel => exact ⟨_, q, rfl, by go_num, by omega, Lib.hid (by rw [head_bytes]; exact HST.out), Lib.hid (HH.out.alloc (Nat.le_trans HLO.out HH.out.size) _)⟩
        case measure => simp [intOf]; omega
      · have hneg : decide (-((r : Nat) : Int) < 0) = true := decide_eq_true (by omega)
        go_wp2
        go_roundw
        case rel => exact ⟨_, q, rfl, by go_num, by omega, Lib.hid (by rw [head_bytes]; exact HST.out), Lib.hid (HH.out.alloc (Nat.le_trans HLO.out HH.out.size) _)⟩
        case measure => simp [intOf]; omega

theorem refDigits_zero (w : World) : Calls Tryd.prog 28 #[.int .i64 0] w fun e w' => e = .returned (.string ⟨#[48]⟩) ∧ w = w' := by
  go_enter Tryd.func28, Tryd.ntmps28
  go_wp2
  go_ret
  exact ⟨rfl, rfl⟩
theorem At.refDigits {w : World} {n : Int} (h1 : -9223372036854775808 ≤ n) (h2 : n ≤ 9223372036854775807) : At w 28 #[.int .i64 n] (.string (str n)) := by
  rcases Int.lt_trichotomy n 0 with h | h | h
  · obtain ⟨N, rfl⟩ : ∃ N : Nat, n = -(N : Int) := ⟨n.natAbs, by omega⟩
    exact At.of fun W _ => refDigits_neg (by omega) (by omega) W
  · subst h
    rw [str_zero]
    exact fun W hW => (refDigits_zero W).mono fun _ _ ⟨h1, h2⟩ => ⟨h1, h2 ▸ hW⟩
  · obtain ⟨N, rfl⟩ : ∃ N : Nat, n = (N : Int) := ⟨n.natAbs, by omega⟩
    exact At.of fun W _ => refDigits_pos (by omega) (by omega) W

/-! ### Int -/
def maxText : ByteArray := ⟨#[57, 50, 50, 51, 51, 55, 50, 48, 51, 54, 56, 53, 52, 55, 55, 53, 56, 48, 55]⟩
def minText : ByteArray := ⟨#[45, 57, 50, 50, 51, 51, 55, 50, 48, 51, 54, 56, 53, 52, 55, 55, 53, 56, 48, 56]⟩
theorem digs_of {l : List UInt8} (h : (l.all fun c => decide (48 ≤ c.toNat) && decide (c.toNat ≤ 57)) = true) : Digs l := fun c hc => by
  have := List.all_eq_true.1 h c hc
  simpa using this
theorem max_text : maxText = str 9223372036854775807 := by
  have h := decDigits_dval (l := [57, 50, 50, 51, 51, 55, 50, 48, 51, 54, 56, 53, 52, 55, 55, 53, 56, 48, 55]) ⟨digs_of (by decide), by decide, by decide⟩
  rw [show dval [57, 50, 50, 51, 51, 55, 50, 48, 51, 54, 56, 53, 52, 55, 55, 53, 56, 48, 55] = 9223372036854775807 by decide +kernel] at h
  rw [show (9223372036854775807 : Int) = ((9223372036854775807 : Nat) : Int) from rfl, str_pos (by omega), Int.natAbs_natCast]
  exact WideShapes.bytes_inj (by rw [dstr_list, h]; rfl)
theorem min_text : minText = str (-9223372036854775808) := by
  have h := decDigits_dval (l := [57, 50, 50, 51, 51, 55, 50, 48, 51, 54, 56, 53, 52, 55, 55, 53, 56, 48, 56]) ⟨digs_of (by decide), by decide, by decide⟩
  rw [show dval [57, 50, 50, 51, 51, 55, 50, 48, 51, 54, 56, 53, 52, 55, 55, 53, 56, 48, 56] = 9223372036854775808 by decide +kernel] at h
  rw [str_minus (by omega), show (-9223372036854775808 : Int).natAbs = 9223372036854775808 from rfl]
  exact WideShapes.bytes_inj (by rw [head_bytes, dstr_list, h]; rfl)
end Go.Proofs.YtlilojaefpnkmaaDoor
