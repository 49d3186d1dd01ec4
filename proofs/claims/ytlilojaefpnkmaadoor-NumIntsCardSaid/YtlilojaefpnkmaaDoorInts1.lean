/- strconv.ParseInt at a number's text; num.Int. -/
import Derived.Test.YtlilojaefpnkmaaDoorRefE
import Derived.Test.YtlilojaefpnkmaaDoorShelfInts
import Derived.Lib.ParseIntBCases
import Derived.Lib.AtoiErrMem
namespace Go.Proofs.YtlilojaefpnkmaaDoor
open Go.RowKit
set_option linter.unusedVariables false

theorem parseM_digs {l : List UInt8} : ∀ {acc : Nat}, Digs l → acc ≤ 18446744073709551615 → Lib.parseUintM 18446744073709551615 acc l = if acc * 10 ^ l.length + dval l ≤ 18446744073709551615 then .ok (acc * 10 ^ l.length + dval l) else .range := by
  induction l with
  | nil => intro acc _ h; simp [Lib.parseUintM, dval, h]
  | cons c l ih =>
    intro acc hd h
    have hc := hd c (by simp)
    have hd' : Digs l := fun x hx => hd x (List.mem_cons_of_mem _ hx)
    have hp : 0 < 10 ^ l.length := Nat.pow_pos (by omega)
    have hv : acc * 10 ^ (c :: l).length + dval (c :: l) = (acc * 10 + (c.toNat - 48)) * 10 ^ l.length + dval l := by
      rw [dval_cons, List.length_cons, Nat.pow_succ, Nat.add_mul, Nat.mul_assoc, Nat.mul_comm 10, Nat.add_assoc]
    rw [hv]
    have hge : acc * 10 + (c.toNat - 48) ≤ (acc * 10 + (c.toNat - 48)) * 10 ^ l.length := Nat.le_mul_of_pos_right _ hp
    unfold Lib.parseUintM
    rw [if_pos hc]
    by_cases h1 : 1844674407370955162 ≤ acc
    · rw [if_pos h1, if_neg (by omega)]
    · rw [if_neg h1]
      by_cases h2 : 18446744073709551615 < acc * 10 + (c.toNat - 48)
      · rw [if_pos h2, if_neg (by omega)]
      · rw [if_neg h2, ih hd' (by omega)]
theorem parseU_dec (m : Nat) : Lib.parseUintB 64 (Lib.decDigits m) = if m ≤ 18446744073709551615 then .ok m else .range := by
  unfold Lib.parseUintB
  rw [if_neg (decDigits_ne m), show 2 ^ 64 - 1 = 18446744073709551615 by decide, parseM_digs (digs_decDigits m) (by omega), Nat.zero_mul, Nat.zero_add, dval_decDigits]
theorem parse_itoa (a : Int) : Lib.parseIntB 64 (Lib.itoa a) = if -9223372036854775808 ≤ a ∧ a ≤ 9223372036854775807 then .ok a else .range := by
  have hB : 2 ^ (64 - 1) = 9223372036854775808 := by decide
  by_cases h : a < 0
  · rw [itoa_minus h, Lib.parseIntB_minus, parseU_dec, hB]
    by_cases h1 : a.natAbs ≤ 18446744073709551615
    · rw [if_pos h1]
      unfold Lib.signedC
      by_cases h2 : 9223372036854775808 < a.natAbs
      · simp only [h2, if_true]; rw [if_neg (by omega)]
      · simp only [h2, if_false]; rw [if_pos (by omega)]; congr 1; omega
    · rw [if_neg h1, if_neg (by omega)]; rfl
  · rw [itoa_pos h]
    have e := parseU_dec a.natAbs
    have hd := digs_decDigits a.natAbs
    have hm := dec_minus a.natAbs
    have hne := decDigits_ne a.natAbs
    generalize Lib.decDigits a.natAbs = l at e hd hm hne
    match l, hne with
    | c :: r, _ =>
      have hc := hd c (by simp)
      rw [Lib.parseIntB_plain 64 c r (by omega) (by omega), e, hB]
      by_cases h1 : a.natAbs ≤ 18446744073709551615
      · rw [if_pos h1]
        unfold Lib.signlessC
        by_cases h2 : 9223372036854775808 ≤ a.natAbs
        · simp only [h2, if_true]; rw [if_neg (by omega)]
        · simp only [h2, if_false]; rw [if_pos (by omega)]; congr 1; omega
      · rw [if_neg h1, if_neg (by omega)]; rfl

/-- The variable strconv.ErrRange holds some error, from W on. -/
def RangeVar (W : World) : Prop := ∃ tp p, ∀ W', Below W.heap.size W W' → W'.var? Tryd.prog "strconv.ErrRange" = some #[.iface tp p]

section
variable {w : World}
theorem At.intOk {a : Int} (ha : Fits a) (h1 : -9223372036854775808 ≤ a) (h2 : a ≤ 9223372036854775807) : At w 25 #[.string (str a)] (.tuple #[.int .i64 a, .bool true]) := by
  have GA := At.good (w := w) (str a)
  rw [good_str, decide_eq_true ha] at GA
  have hp := parse_itoa a
  rw [if_pos ⟨h1, h2⟩, ← str_list] at hp
  have hs : (str a).size ≤ 9223372036854775806 := by
    have := fits_digits ha
    rw [← bytes_len, str_list]
    unfold Lib.itoa
    split
    · rw [List.length_cons, Lib.decDigits_length]; omega
    · rw [show a.toNat = a.natAbs by omega, Lib.decDigits_length]; omega
  have CP := Lib.hid (fun W => Tryd.strconv_ParseInt_10_at64_ok (str a) hs a hp W)
  have GA := Lib.hid GA
  generalize str a = A at CP GA ⊢
  clear hp hs ha
  intro W hb
  go_enter Tryd.func25, Tryd.ntmps25
  go_wp2_with fail
  go_at_call 13; refine (GA.out _ hb).mono ?_; rintro e W1 ⟨rfl, hb⟩
  go_wp2_with fail
  go_at_call 45; refine (CP.out _).mono ?_; rintro e W2 ⟨rfl, hw⟩
  have hb2 : Below w.heap.size w W2 := by
    rcases hw with rfl | ⟨t, rfl⟩
    · exact hb
    · exact hb.trans ((Lib.bytesWorld_below W1 _ t).mono hb.size)
  clear hw
  go_wp2
  refine bodyPost_ret (v := .tuple #[.int .i64 a, .bool true]) ?_ rfl ⟨rfl, hb2⟩
  simp [results, Tryd.results25, go_sem]
theorem At.intLong (hv : RangeVar w) {a : Int} (ha : Fits a) (h : ¬ (-9223372036854775808 ≤ a ∧ a ≤ 9223372036854775807)) : At w 25 #[.string (str a)] (.tuple #[.int .i64 0, .bool false]) := by
  have GA := At.good (w := w) (str a)
  rw [good_str, decide_eq_true ha] at GA
  have hp := parse_itoa a
  rw [if_neg h, ← str_list] at hp
  have hs : (str a).size ≤ 281474976710656 := by
    have := fits_digits ha
    rw [← bytes_len, str_list]
    unfold Lib.itoa
    split
    · rw [List.length_cons, Lib.decDigits_length]; omega
    · rw [show a.toNat = a.natAbs by omega, Lib.decDigits_length]; omega
  obtain ⟨tp, p, hv⟩ := hv
  have CP := Lib.hid (fun W (hb : Below w.heap.size w W) => Tryd.strconv_ParseInt_10_at64_range_var (str a) hs hp tp p W (hv W hb))
  have GA := Lib.hid GA
  generalize Lib.intSat 64 (str a).data.toList = z at CP
  generalize str a = A at CP GA ⊢
  clear hp hs ha hv h
  intro W hb
  go_enter Tryd.func25, Tryd.ntmps25
  go_wp2_with fail
  go_at_call 13; refine (GA.out _ hb).mono ?_; rintro e W1 ⟨rfl, hb⟩
  go_wp2_with fail
  go_at_call 45; refine (CP.out _ hb).mono ?_; rintro e W2 ⟨N, rfl, -, -, hb2⟩
  have hb3 : Below w.heap.size w W2 := hb.trans (hb2.mono hb.size)
  go_wp2
  refine bodyPost_ret (v := .tuple #[.int .i64 0, .bool false]) ?_ rfl ⟨rfl, hb3⟩
  simp [results, Tryd.results25, go_sem]
theorem At.intBad {s : ByteArray} (h : goodB s.data.toList = false) : At w 25 #[.string s] (.tuple #[.int .i64 0, .bool false]) := by
  have GA := At.good (w := w) s
  rw [h] at GA
  have GA := Lib.hid GA
  clear h
  intro W hb
  go_enter Tryd.func25, Tryd.ntmps25
  go_wp2_with fail
  go_at_call 13; refine (GA.out _ hb).mono ?_; rintro e W1 ⟨rfl, hb⟩
  go_wp2
  refine bodyPost_ret (v := .tuple #[.int .i64 0, .bool false]) ?_ rfl ⟨rfl, hb⟩
  simp [results, Tryd.results25, go_sem]
end
end Go.Proofs.YtlilojaefpnkmaaDoor
