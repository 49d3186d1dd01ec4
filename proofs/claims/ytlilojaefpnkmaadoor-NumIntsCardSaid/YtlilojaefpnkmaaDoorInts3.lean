/- The document's own answers, walked: Int. -/
import Derived.Test.YtlilojaefpnkmaaDoorInts2
namespace Go.Proofs.YtlilojaefpnkmaaDoor
open Go.RowKit
set_option linter.unusedVariables false

set_option maxRecDepth 100000 in
set_option maxHeartbeats 1000000 in
theorem refInt_bad {w : World} {A : ByteArray} (GA : Hid (At w 14 #[.string A] (.bool false))) : At w 27 #[.string A] (.tuple #[.int .i64 0, .bool false]) := by
  intro W hb
  go_enter Tryd.func27, Tryd.ntmps27
  go_wp2_with fail
  go_at_call 14; refine (GA.out _ hb).mono ?_; rintro e W1 ⟨rfl, hb⟩
  go_wp2
  refine bodyPost_ret (v := .tuple #[.int .i64 0, .bool false]) ?_ rfl ⟨rfl, hb⟩
  simp [results, Tryd.results27, go_sem]
set_option maxRecDepth 100000 in
set_option maxHeartbeats 1000000 in
theorem refInt_more {w : World} {A : ByteArray} (GA : Hid (At w 14 #[.string A] (.bool true))) (C1 : Hid (At w 23 #[.string A, .string ⟨#[57, 50, 50, 51, 51, 55, 50, 48, 51, 54, 56, 53, 52, 55, 55, 53, 56, 48, 55]⟩] (.int .i64 1))) : At w 27 #[.string A] (.tuple #[.int .i64 0, .bool false]) := by
  intro W hb
  go_enter Tryd.func27, Tryd.ntmps27
  go_wp2_with fail
  go_at_call 14; refine (GA.out _ hb).mono ?_; rintro e W1 ⟨rfl, hb⟩
  go_wp2_with fail
  go_at_call 23; refine (C1.out _ hb).mono ?_; rintro e W1 ⟨rfl, hb⟩
  go_wp2
  refine bodyPost_ret (v := .tuple #[.int .i64 0, .bool false]) ?_ rfl ⟨rfl, hb⟩
  simp [results, Tryd.results27, go_sem]
set_option maxRecDepth 100000 in
set_option maxHeartbeats 1000000 in
theorem refInt_less {w : World} {A : ByteArray} {c : Int} (hc : c ≤ 0) (GA : Hid (At w 14 #[.string A] (.bool true))) (C1 : Hid (At w 23 #[.string A, .string ⟨#[57, 50, 50, 51, 51, 55, 50, 48, 51, 54, 56, 53, 52, 55, 55, 53, 56, 48, 55]⟩] (.int .i64 c))) (C2 : Hid (At w 23 #[.string A, .string ⟨#[45, 57, 50, 50, 51, 51, 55, 50, 48, 51, 54, 56, 53, 52, 55, 55, 53, 56, 48, 56]⟩] (.int .i64 (-1)))) : At w 27 #[.string A] (.tuple #[.int .i64 0, .bool false]) := by
  intro W hb
  go_enter Tryd.func27, Tryd.ntmps27
  go_wp2_with fail
  go_at_call 14; refine (GA.out _ hb).mono ?_; rintro e W1 ⟨rfl, hb⟩
  go_wp2_with fail
  go_at_call 23; refine (C1.out _ hb).mono ?_; rintro e W1 ⟨rfl, hb⟩
  go_wp2_with fail
  go_at_call 23; refine (C2.out _ hb).mono ?_; rintro e W1 ⟨rfl, hb⟩
  go_wp2
  refine bodyPost_ret (v := .tuple #[.int .i64 0, .bool false]) ?_ rfl ⟨rfl, hb⟩
  simp [results, Tryd.results27, go_sem]

theorem str_nat0 (m : Nat) : str (m : Int) = dstr m := by rw [str_pos (by omega), Int.natAbs_natCast]
set_option maxRecDepth 100000 in
set_option maxHeartbeats 1000000 in
theorem refInt_pos {w : World} {m : Nat} {c d : Int} (hm : m ≤ 9223372036854775807) (hc : c ≤ 0) (hd : 0 ≤ d) (GA : Hid (At w 14 #[.string (dstr m)] (.bool true))) (C1 : Hid (At w 23 #[.string (dstr m), .string ⟨#[57, 50, 50, 51, 51, 55, 50, 48, 51, 54, 56, 53, 52, 55, 55, 53, 56, 48, 55]⟩] (.int .i64 c))) (C2 : Hid (At w 23 #[.string (dstr m), .string ⟨#[45, 57, 50, 50, 51, 51, 55, 50, 48, 51, 54, 56, 53, 52, 55, 55, 53, 56, 48, 56]⟩] (.int .i64 d))) : At w 27 #[.string (dstr m)] (.tuple #[.int .i64 m, .bool true]) := by
  have hn : Lib.nDigits m ≤ 19 := nDigits_le (by omega) (by omega)
  have HB := Lib.hid (fun W => refBelow_str (m : Int) W)
  rw [str_nat0, show decide ((m : Int) < 0) = false from decide_eq_false (by omega)] at HB
  obtain ⟨A, hA⟩ : ∃ A, dstr m = A := ⟨_, rfl⟩
  have hs : A.size ≤ 19 := by rw [← hA, dstr_size]; exact hn
  have HS : Hid (A.size = Lib.nDigits m) := Lib.hid (by rw [← hA, dstr_size])
  have HD : Hid (∀ k (h : k < A.size), 48 ≤ A[k].toNat ∧ A[k].toNat ≤ 57 ∧ front m (k + 1) = front m k * 10 + (A[k].toNat - 48)) := Lib.hid (fun k h => dstr_byte hA h)
  rw [hA] at HB GA C1 C2 ⊢
  clear hA hn
  intro W hb
  go_enter Tryd.func27, Tryd.ntmps27
  go_wp2_with fail
  go_at_call 14; refine (GA.out _ hb).mono ?_; rintro e W1 ⟨rfl, hb⟩
  go_wp2_with fail
  go_at_call 23; refine (C1.out _ hb).mono ?_; rintro e W1 ⟨rfl, hb⟩
  go_wp2_with fail
  go_at_call 23; refine (C2.out _ hb).mono ?_; rintro e W1 ⟨rfl, hb⟩
  go_wp2
  go_loop [4, 5] (fun nv iv => ∃ v i : Nat, nv = .int .i64 v ∧ iv = .int .i64 i ∧ i ≤ A.size ∧ v ≤ m ∧ Hid (v = front m i)) (fun _ iv => A.size - (intOf iv).toNat)
  case atStart => exact ⟨0, 0, rfl, rfl, by omega, by omega, Lib.hid (front_zero m).symm⟩
  case round =>
    obtain ⟨v, i, rfl, rfl, hi, hv, HV⟩ := hrel
    by_cases hlt : i < A.size
    · obtain ⟨h1, h2, h3⟩ := HD.out i hlt
      obtain ⟨x, hx⟩ : ∃ x, A[i].toNat = x := ⟨_, rfl⟩
      rw [hx, ← HV.out] at h3
      rw [hx] at h1 h2
      have hle := front_le m (i + 1)
      have H3 := Lib.hid h3
      have hb1 : v * 10 + (x - 48) ≤ 9223372036854775807 := by omega
      have hb2 : v * 10 + (x - 48) ≤ m := by omega
      have hne : ((x : Int) == 45) = false := beq_eq_false_iff_ne.2 (by omega)
      clear h3 hle
      go_wp2_with (go_at_call 34; refine (HB.out _).mono ?_; rintro e w' ⟨rfl, rfl⟩)
      go_round
      case rel => exact ⟨v * 10 + (x - 48), i + 1, by go_num, by go_num, by omega, hb2, Lib.hid H3.out.symm⟩
      case measure => simp [intOf]; omega
    · obtain rfl : v = m := by rw [HV.out, show i = A.size by omega, HS.out, front_all]
      go_wp2
      refine bodyPost_ret (v := .tuple #[.int .i64 v, .bool true]) ?_ rfl ⟨rfl, hb⟩
      simp [results, Tryd.results27, go_sem]

theorem minus_list {m : Nat} (hm : m ≠ 0) : (str (-(m : Int))).data.toList = 45 :: Lib.decDigits m := by rw [str_list, itoa_minus (by omega), show (-(m : Int)).natAbs = m by omega]
theorem minus_byte {m k : Nat} {A : ByteArray} (hm : m ≠ 0) (hA : str (-(m : Int)) = A) (h : k + 1 < A.size) : 48 ≤ A[k + 1].toNat ∧ A[k + 1].toNat ≤ 57 ∧ front m (k + 1) = front m k * 10 + (A[k + 1].toNat - 48) := by
  subst hA
  have hs : (str (-(m : Int))).size = Lib.nDigits m + 1 := by rw [← bytes_len, minus_list hm, List.length_cons, Lib.decDigits_length]
  have hk : k < Lib.nDigits m := by omega
  have e : (str (-(m : Int)))[k + 1] = (Lib.decDigits m)[k]'(by rw [Lib.decDigits_length]; exact hk) := by
    simp only [← bytes_at, minus_list hm, List.getElem_cons_succ]
  have h1 := digs_decDigits m _ (List.getElem_mem (l := Lib.decDigits m) (n := k) (by rw [Lib.decDigits_length]; exact hk))
  rw [e]
  exact ⟨h1.1, h1.2, front_succ hk⟩

set_option maxRecDepth 100000 in
set_option maxHeartbeats 1000000 in
theorem refInt_neg {w : World} {m : Nat} {c d : Int} (hm0 : m ≠ 0) (hm : m ≤ 9223372036854775808) (hc : c ≤ 0) (hd : 0 ≤ d) (GA : Hid (At w 14 #[.string (str (-(m : Int)))] (.bool true))) (C1 : Hid (At w 23 #[.string (str (-(m : Int))), .string ⟨#[57, 50, 50, 51, 51, 55, 50, 48, 51, 54, 56, 53, 52, 55, 55, 53, 56, 48, 55]⟩] (.int .i64 c))) (C2 : Hid (At w 23 #[.string (str (-(m : Int))), .string ⟨#[45, 57, 50, 50, 51, 51, 55, 50, 48, 51, 54, 56, 53, 52, 55, 55, 53, 56, 48, 56]⟩] (.int .i64 d))) : At w 27 #[.string (str (-(m : Int)))] (.tuple #[.int .i64 (-(m : Int)), .bool true]) := by
  have hn : Lib.nDigits m ≤ 19 := nDigits_le (by omega) (by omega)
  have HB := Lib.hid (fun W => refBelow_str (-(m : Int)) W)
  rw [show decide (-(m : Int) < 0) = true from decide_eq_true (by omega)] at HB
  obtain ⟨A, hA⟩ : ∃ A, str (-(m : Int)) = A := ⟨_, rfl⟩
  have hs' : A.size = Lib.nDigits m + 1 := by rw [← hA, ← bytes_len, minus_list hm0, List.length_cons, Lib.decDigits_length]
  have hs : A.size ≤ 20 := by omega
  have hs0 : 0 < A.size := by omega
  have h45 : ((A[0].toNat : Int) == 45) = true := beq_iff_eq.2 (by subst hA; exact (str_head _).2 (by omega))
  have H45 : A[0].toNat = 45 := by have := beq_iff_eq.1 h45; omega
  have HS := Lib.hid hs'
  have HD : Hid (∀ k (h : k + 1 < A.size), 48 ≤ A[k + 1].toNat ∧ A[k + 1].toNat ≤ 57 ∧ front m (k + 1) = front m k * 10 + (A[k + 1].toNat - 48)) := Lib.hid (fun k h => minus_byte hm0 hA h)
  rw [hA] at HB GA C1 C2 ⊢
  clear hA hn hs'
  intro W hb
  go_enter Tryd.func27, Tryd.ntmps27
  go_wp2_with fail
  go_at_call 14; refine (GA.out _ hb).mono ?_; rintro e W1 ⟨rfl, hb⟩
  go_wp2_with fail
  go_at_call 23; refine (C1.out _ hb).mono ?_; rintro e W1 ⟨rfl, hb⟩
  go_wp2_with fail
  go_at_call 23; refine (C2.out _ hb).mono ?_; rintro e W1 ⟨rfl, hb⟩
  go_wp2
  go_loop [4, 5] (fun nv iv => ∃ (z : Int) (v i : Nat), nv = .int .i64 z ∧ iv = .int .i64 i ∧ i ≤ A.size ∧ v ≤ m ∧ Hid (z = -(v : Int) ∧ (i = 0 → v = 0) ∧ (∀ k, i = k + 1 → v = front m k))) (fun _ iv => A.size - (intOf iv).toNat)
  case atStart => exact ⟨0, 0, 0, rfl, rfl, by omega, by omega, Lib.hid ⟨rfl, fun _ => rfl, fun k h => by omega⟩⟩
  case round =>
    obtain ⟨z, v, i, rfl, rfl, hi, hv, HV⟩ := hrel
    by_cases hlt : i < A.size
    · rcases Nat.eq_zero_or_pos i with hi0 | hi0
      · subst hi0
        have hv0 := HV.out.2.1 rfl
        have hz0 : z = 0 := by rw [HV.out.1, hv0]; rfl
        subst hz0
        go_wp2
        go_round
        case rel => exact ⟨0, 0, 1, rfl, by go_num, by omega, by omega, Lib.hid ⟨rfl, fun h => by omega, fun k h => by rw [show k = 0 by omega, front_zero]⟩⟩
        case measure => simp [intOf]; omega
      · obtain ⟨k, rfl⟩ : ∃ k, i = k + 1 := ⟨i - 1, by omega⟩
        obtain ⟨h1, h2, h3⟩ := HD.out k hlt
        obtain ⟨x, hx⟩ : ∃ x, A[k + 1].toNat = x := ⟨_, rfl⟩
        rw [hx, ← HV.out.2.2 k rfl] at h3
        rw [hx] at h1 h2
        have hle := front_le m (k + 1)
        have H3 := Lib.hid h3
        have hz := HV.out.1
        have HZ := Lib.hid hz
        have hb0 : z ≤ 0 := by omega
        have hb1 : -9223372036854775808 ≤ 10 * z - ((x : Int) - 48) := by omega
        have hb2 : v * 10 + (x - 48) ≤ m := by omega
        have hne : ((x : Int) == 45) = false := beq_eq_false_iff_ne.2 (by omega)
        have hfin : Hid (10 * z + -((x : Int) - 48) = -((v * 10 + (x - 48) : Nat) : Int)) := Lib.hid (by omega)
        clear h3 hle hz
        go_wp2_with (go_at_call 34; refine (HB.out _).mono ?_; rintro e w' ⟨rfl, rfl⟩)
        go_round
        case rel => exact ⟨_, v * 10 + (x - 48), k + 1 + 1, rfl, by go_num, by omega, hb2, Lib.hid ⟨hfin.out, fun h => by omega, fun j h => by rw [show j = k + 1 by omega]; exact H3.out.symm⟩⟩
        case measure => simp [intOf]; omega
    · have hv2 : v = m := by rw [HV.out.2.2 (A.size - 1) (by omega), HS.out, Nat.add_sub_cancel, front_all]
      obtain rfl : z = -(m : Int) := by rw [HV.out.1, hv2]
      go_wp2
      refine bodyPost_ret (v := .tuple #[.int .i64 (-(m : Int)), .bool true]) ?_ rfl ⟨rfl, hb⟩
      simp [results, Tryd.results27, go_sem]

theorem fits_dig {a : Int} (h : Fits a) : Lib.nDigits a.natAbs ≤ 100000 := by have := fits_digits h; omega
theorem fits_max : Fits 9223372036854775807 := by unfold Fits; omega
theorem fits_min : Fits (-9223372036854775808) := by unfold Fits; omega
theorem At.refInt {w : World} {a : Int} (ha : Fits a) : At w 27 #[.string (str a)] (if -9223372036854775808 ≤ a ∧ a ≤ 9223372036854775807 then .tuple #[.int .i64 a, .bool true] else .tuple #[.int .i64 0, .bool false]) := by
  have GA := At.refGood (w := w) (str a)
  rw [good_str, decide_eq_true ha] at GA
  have C1 := At.refCmp (w := w) (fits_dig ha) (fits_dig fits_max)
  have C2 := At.refCmp (w := w) (fits_dig ha) (fits_dig fits_min)
  rw [← max_text] at C1
  rw [← min_text] at C2
  by_cases h1 : 9223372036854775807 < a
  · rw [show sgnI a 9223372036854775807 = 1 by unfold sgnI; repeat' split <;> omega] at C1
    rw [if_neg (by omega)]
    exact refInt_more (Lib.hid GA) (Lib.hid C1)
  · have hc : sgnI a 9223372036854775807 ≤ 0 := by unfold sgnI; repeat' split <;> omega
    by_cases h2 : a < -9223372036854775808
    · rw [show sgnI a (-9223372036854775808) = -1 by unfold sgnI; repeat' split <;> omega] at C2
      rw [if_neg (by omega)]
      exact refInt_less hc (Lib.hid GA) (Lib.hid C1) (Lib.hid C2)
    · have hd : 0 ≤ sgnI a (-9223372036854775808) := by unfold sgnI; repeat' split <;> omega
      rw [if_pos (by omega)]
      by_cases h3 : a < 0
      · obtain ⟨m, rfl⟩ : ∃ m : Nat, a = -(m : Int) := ⟨a.natAbs, by omega⟩
        exact refInt_neg (by omega) (by omega) hc hd (Lib.hid GA) (Lib.hid C1) (Lib.hid C2)
      · obtain ⟨m, rfl⟩ : ∃ m : Nat, a = (m : Int) := ⟨a.natAbs, by omega⟩
        rw [str_nat0] at GA C1 C2 ⊢
        exact refInt_pos (by omega) hc hd (Lib.hid GA) (Lib.hid C1) (Lib.hid C2)
theorem At.refIntBad {w : World} {s : ByteArray} (h : goodB s.data.toList = false) : At w 27 #[.string s] (.tuple #[.int .i64 0, .bool false]) := by
  have GA := At.refGood (w := w) s
  rw [h] at GA
  exact refInt_bad (Lib.hid GA)
theorem At.numOf {w : World} (ht : Tab w.heap.size w) {n : Int} (h1 : -9223372036854775808 ≤ n) (h2 : n ≤ 9223372036854775807) : At w 26 #[.int .i64 n] (.string (str n)) := At.of fun W hW => Of_any n h1 h2 (ht.on hW)

set_option maxRecDepth 100000 in
set_option maxHeartbeats 1000000 in
theorem ints_way {w : World} {n x : Int} {is : Bool} {N s : ByteArray} (CA : Hid (At w 10 #[] (.bool true))) (CO : Hid (At w 26 #[.int .i64 n] (.string N))) (CI : Hid (At w 25 #[.string N] (.tuple #[.int .i64 n, .bool true]))) (CS : Hid (At w 25 #[.string s] (.tuple #[.int .i64 x, .bool is]))) (RS : Hid (At w 27 #[.string s] (.tuple #[.int .i64 x, .bool is]))) (RD : Hid (At w 28 #[.int .i64 n] (.string N))) : At w 6 #[.int .i64 n, .string s] (.bool true) := by
  intro W hb
  go_enter Tryd.func6, Tryd.ntmps6
  go_wp2_with fail
  go_at_call 10; refine (CA.out _ hb).mono ?_; rintro e W1 ⟨rfl, hb⟩
  go_wp2_with fail
  go_at_call 26; refine (CO.out _ hb).mono ?_; rintro e W1 ⟨rfl, hb⟩
  go_wp2_with fail
  go_at_call 25; refine (CI.out _ hb).mono ?_; rintro e W1 ⟨rfl, hb⟩
  go_wp2_with fail
  go_at_call 25; refine (CS.out _ hb).mono ?_; rintro e W1 ⟨rfl, hb⟩
  go_wp2_with fail
  go_at_call 27; refine (RS.out _ hb).mono ?_; rintro e W1 ⟨rfl, hb⟩
  go_wp2_with fail
  go_at_call 26; refine (CO.out _ hb).mono ?_; rintro e W1 ⟨rfl, hb⟩
  go_wp2_with fail
  go_at_call 28; refine (RD.out _ hb).mono ?_; rintro e W1 ⟨rfl, hb⟩
  go_wp2
  refine bodyPost_ret (v := .bool true) ?_ rfl ⟨rfl, hb⟩
  simp [results, Tryd.results6, go_sem]

theorem fits_int {n : Int} (h1 : -9223372036854775808 ≤ n) (h2 : n ≤ 9223372036854775807) : Fits n := by unfold Fits; omega
theorem ints_any {w : World} (ht : Tab w.heap.size w) (hv : RangeVar w) (n : Int) (s : ByteArray) (hn : (Lit.int .i64 n).wf = true) : At w 6 #[.int .i64 n, .string s] (.bool true) := by
  obtain ⟨h1, h2⟩ : -9223372036854775808 ≤ n ∧ n ≤ 9223372036854775807 := by simp [Lit.wf, IntKind.min, IntKind.max, IntKind.signed, IntKind.bits] at hn; omega
  have CA := Lib.hid (At.awake ht)
  have CO := Lib.hid (At.numOf ht h1 h2)
  have CI := Lib.hid (At.intOk (w := w) (fits_int h1 h2) h1 h2)
  have RD := Lib.hid (At.refDigits (w := w) h1 h2)
  rcases good_cases s with h | ⟨a, ha, rfl⟩
  · exact ints_way CA CO CI (Lib.hid (At.intBad h)) (Lib.hid (At.refIntBad h)) RD
  · have RS := At.refInt (w := w) ha
    by_cases hr : -9223372036854775808 ≤ a ∧ a ≤ 9223372036854775807
    · rw [if_pos hr] at RS
      exact ints_way CA CO CI (Lib.hid (At.intOk ha hr.1 hr.2)) (Lib.hid RS) RD
    · rw [if_neg hr] at RS
      exact ints_way CA CO CI (Lib.hid (At.intLong hv ha hr)) (Lib.hid RS) RD
end Go.Proofs.YtlilojaefpnkmaaDoor
