/- NumProducts. -/
import Derived.Test.YtlilojaefpnkmaaDoorRefE
import Derived.Test.YtlilojaefpnkmaaDoorRefP
import Derived.Test.YtlilojaefpnkmaaDoorSums
namespace Go.Proofs.YtlilojaefpnkmaaDoor
open Go.RowKit
set_option linter.unusedVariables false

set_option maxRecDepth 100000 in
set_option maxHeartbeats 1000000 in
theorem products_bad {w : World} {sa sb : ByteArray} {g h : Bool} (hgh : g = false ∨ h = false) (he : (⟨#[]⟩ : ByteArray) ++ (⟨#[]⟩ : ByteArray) = ⟨#[]⟩) (CA : Hid (At w 10 #[] (.bool true))) (RA : Hid (At w 14 #[.string sa] (.bool g))) (RB : Hid (At w 14 #[.string sb] (.bool h))) (CM : Hid (At w 19 #[.string sa, .string sb] (.tuple #[.string ⟨#[]⟩, .int .i64 6]))) (CD : Hid (At w 20 #[.string sa, .string sb] (.tuple #[.string ⟨#[]⟩, .string ⟨#[]⟩, .int .i64 6]))) (CC : Hid (At w 21 #[.string sa, .string sb] (.int .i64 0))) (S1 : Hid (At w 15 #[.string ⟨#[]⟩, .int .i64 6, .string ⟨#[]⟩, .int .i64 6] (.bool true))) :
    At w 4 #[.string sa, .string sb] (.bool true) := by
  intro W hb
  rcases (show (g = false) ∨ (g = true ∧ h = false) by cases g <;> cases h <;> simp_all) with rfl | ⟨rfl, rfl⟩
  · clear hgh
    go_enter Tryd.func4, Tryd.ntmps4
    go_wp2_with fail
    go_at_call 10; refine (CA.out _ hb).mono ?_; rintro e W1 ⟨rfl, hb⟩
    go_wp2_with fail
    go_at_call 19; refine (CM.out _ hb).mono ?_; rintro e W1 ⟨rfl, hb⟩
    go_wp2_with fail
    go_at_call 20; refine (CD.out _ hb).mono ?_; rintro e W1 ⟨rfl, hb⟩
    go_wp2_with fail
    go_at_call 14; refine (RA.out _ hb).mono ?_; rintro e W1 ⟨rfl, hb⟩
    go_wp2_with fail
    go_at_call 15; refine (S1.out _ hb).mono ?_; rintro e W1 ⟨rfl, hb⟩
    go_wp2_with fail
    go_at_call 15; refine (S1.out _ hb).mono ?_; rintro e W1 ⟨rfl, hb⟩
    go_wp2_with fail
    go_at_call 21; refine (CC.out _ hb).mono ?_; rintro e W1 ⟨rfl, hb⟩
    go_wp2
    refine bodyPost_ret (v := .bool true) ?_ rfl ⟨rfl, hb⟩
    simp [results, Tryd.results4, go_sem]
  · clear hgh
    go_enter Tryd.func4, Tryd.ntmps4
    go_wp2_with fail
    go_at_call 10; refine (CA.out _ hb).mono ?_; rintro e W1 ⟨rfl, hb⟩
    go_wp2_with fail
    go_at_call 19; refine (CM.out _ hb).mono ?_; rintro e W1 ⟨rfl, hb⟩
    go_wp2_with fail
    go_at_call 20; refine (CD.out _ hb).mono ?_; rintro e W1 ⟨rfl, hb⟩
    go_wp2_with fail
    go_at_call 14; refine (RA.out _ hb).mono ?_; rintro e W1 ⟨rfl, hb⟩
    go_wp2_with fail
    go_at_call 14; refine (RB.out _ hb).mono ?_; rintro e W1 ⟨rfl, hb⟩
    go_wp2_with fail
    go_at_call 15; refine (S1.out _ hb).mono ?_; rintro e W1 ⟨rfl, hb⟩
    go_wp2_with fail
    go_at_call 15; refine (S1.out _ hb).mono ?_; rintro e W1 ⟨rfl, hb⟩
    go_wp2_with fail
    go_at_call 21; refine (CC.out _ hb).mono ?_; rintro e W1 ⟨rfl, hb⟩
    go_wp2
    refine bodyPost_ret (v := .bool true) ?_ rfl ⟨rfl, hb⟩
    simp [results, Tryd.results4, go_sem]

set_option maxRecDepth 100000 in
set_option maxHeartbeats 1000000 in
theorem products_zero {w : World} {sa sb sp st sq sr : ByteArray} {e1 k : Int} (he : (⟨#[]⟩ : ByteArray) ++ (⟨#[]⟩ : ByteArray) = ⟨#[]⟩) (CA : Hid (At w 10 #[] (.bool true))) (RA : Hid (At w 14 #[.string sa] (.bool true))) (RB : Hid (At w 14 #[.string ⟨#[48]⟩] (.bool true))) (CM : Hid (At w 19 #[.string sa, .string ⟨#[48]⟩] (.tuple #[.string sp, .int .i64 e1]))) (CT : Hid (At w 22 #[.string sa, .string ⟨#[48]⟩] (.string st))) (CX : Hid (At w 16 #[.string st] (.tuple #[.string sp, .int .i64 e1]))) (S1 : Hid (At w 15 #[.string sp, .int .i64 e1, .string sp, .int .i64 e1] (.bool true))) (CC : Hid (At w 21 #[.string sa, .string ⟨#[48]⟩] (.int .i64 k))) (RC : Hid (At w 23 #[.string sa, .string ⟨#[48]⟩] (.int .i64 k))) (CD : Hid (At w 20 #[.string sa, .string ⟨#[48]⟩] (.tuple #[.string ⟨#[]⟩, .string ⟨#[]⟩, .int .i64 10]))) (S2 : Hid (At w 15 #[.string ⟨#[]⟩, .int .i64 10, .string ⟨#[]⟩, .int .i64 10] (.bool true))) :
    At w 4 #[.string sa, .string ⟨#[48]⟩] (.bool true) := by
  intro W hb
  go_enter Tryd.func4, Tryd.ntmps4
  go_wp2_with fail
  go_at_call 10; refine (CA.out _ hb).mono ?_; rintro e W1 ⟨rfl, hb⟩
  go_wp2_with fail
  go_at_call 19; refine (CM.out _ hb).mono ?_; rintro e W1 ⟨rfl, hb⟩
  go_wp2_with fail
  go_at_call 20; refine (CD.out _ hb).mono ?_; rintro e W1 ⟨rfl, hb⟩
  go_wp2_with fail
  go_at_call 14; refine (RA.out _ hb).mono ?_; rintro e W1 ⟨rfl, hb⟩
  go_wp2_with fail
  go_at_call 14; refine (RB.out _ hb).mono ?_; rintro e W1 ⟨rfl, hb⟩
  go_wp2_with fail
  go_at_call 22; refine (CT.out _ hb).mono ?_; rintro e W1 ⟨rfl, hb⟩
  go_wp2_with fail
  go_at_call 16; refine (CX.out _ hb).mono ?_; rintro e W1 ⟨rfl, hb⟩
  go_wp2_with fail
  go_at_call 15; refine (S1.out _ hb).mono ?_; rintro e W1 ⟨rfl, hb⟩
  go_wp2_with fail
  go_at_call 21; refine (CC.out _ hb).mono ?_; rintro e W1 ⟨rfl, hb⟩
  go_wp2_with fail
  go_at_call 23; refine (RC.out _ hb).mono ?_; rintro e W1 ⟨rfl, hb⟩
  go_wp2_with fail
  go_at_call 15; refine (S2.out _ hb).mono ?_; rintro e W1 ⟨rfl, hb⟩
  go_wp2
  refine bodyPost_ret (v := .bool true) ?_ rfl ⟨rfl, hb⟩
  simp [results, Tryd.results4, go_sem]

set_option maxRecDepth 100000 in
set_option maxHeartbeats 1000000 in
theorem products_good {w : World} {sa sb sp st sq sr : ByteArray} {e1 k : Int} (hne : (sb.toList == [48]) = false) (CA : Hid (At w 10 #[] (.bool true))) (RA : Hid (At w 14 #[.string sa] (.bool true))) (RB : Hid (At w 14 #[.string sb] (.bool true))) (CM : Hid (At w 19 #[.string sa, .string sb] (.tuple #[.string sp, .int .i64 e1]))) (CT : Hid (At w 22 #[.string sa, .string sb] (.string st))) (CX : Hid (At w 16 #[.string st] (.tuple #[.string sp, .int .i64 e1]))) (S1 : Hid (At w 15 #[.string sp, .int .i64 e1, .string sp, .int .i64 e1] (.bool true))) (CC : Hid (At w 21 #[.string sa, .string sb] (.int .i64 k))) (RC : Hid (At w 23 #[.string sa, .string sb] (.int .i64 k))) (CD : Hid (At w 20 #[.string sa, .string sb] (.tuple #[.string sq, .string sr, .int .i64 0]))) (CP : Hid (At w 24 #[.string sa, .string sb] (.tuple #[.string sq, .string sr]))) :
    At w 4 #[.string sa, .string sb] (.bool true) := by
  intro W hb
  go_enter Tryd.func4, Tryd.ntmps4
  go_wp2_with fail
  go_at_call 10; refine (CA.out _ hb).mono ?_; rintro e W1 ⟨rfl, hb⟩
  go_wp2_with fail
  go_at_call 19; refine (CM.out _ hb).mono ?_; rintro e W1 ⟨rfl, hb⟩
  go_wp2_with fail
  go_at_call 20; refine (CD.out _ hb).mono ?_; rintro e W1 ⟨rfl, hb⟩
  go_wp2_with fail
  go_at_call 14; refine (RA.out _ hb).mono ?_; rintro e W1 ⟨rfl, hb⟩
  go_wp2_with fail
  go_at_call 14; refine (RB.out _ hb).mono ?_; rintro e W1 ⟨rfl, hb⟩
  go_wp2_with fail
  go_at_call 22; refine (CT.out _ hb).mono ?_; rintro e W1 ⟨rfl, hb⟩
  go_wp2_with fail
  go_at_call 16; refine (CX.out _ hb).mono ?_; rintro e W1 ⟨rfl, hb⟩
  go_wp2_with fail
  go_at_call 15; refine (S1.out _ hb).mono ?_; rintro e W1 ⟨rfl, hb⟩
  go_wp2_with fail
  go_at_call 21; refine (CC.out _ hb).mono ?_; rintro e W1 ⟨rfl, hb⟩
  go_wp2_with fail
  go_at_call 23; refine (RC.out _ hb).mono ?_; rintro e W1 ⟨rfl, hb⟩
  go_wp2_with fail
  go_at_call 24; refine (CP.out _ hb).mono ?_; rintro e W1 ⟨rfl, hb⟩
  go_wp2
  refine bodyPost_ret (v := .bool true) ?_ rfl ⟨rfl, hb⟩
  simp [results, Tryd.results4, go_sem]

section
variable {w : World}
theorem At.refTimes {a b : Int} (ha : Lib.nDigits a.natAbs ≤ 1000) (hb : Lib.nDigits b.natAbs ≤ 1000) : At w 22 #[.string (str a), .string (str b)] (.string (str (a * b))) := At.of fun W _ => RefTimes_any ha hb W
theorem At.refParted {a b : Int} (ha : Lib.nDigits a.natAbs ≤ 1000) (hb : Lib.nDigits b.natAbs ≤ 1000) (h0 : b ≠ 0) : At w 24 #[.string (str a), .string (str b)] (.tuple #[.string (str (a.tdiv b)), .string (str (a.tmod b))]) := At.of fun W _ => RefParted_any ha hb h0 W
end
theorem Fits.dig2 {a : Int} (h : Fits a) : Lib.nDigits a.natAbs ≤ 1000 := by have := fits_digits h; omega
theorem empty_app : (⟨#[]⟩ : ByteArray) ++ (⟨#[]⟩ : ByteArray) = ⟨#[]⟩ := WideShapes.bytes_inj (by rw [ByteArray.data_append]; rfl)

theorem products_any {w : World} (ht : Tab w.heap.size w) (s t : ByteArray) : At w 4 #[.string s, .string t] (.bool true) := by
  have CA := Lib.hid (At.awake ht)
  have bad : goodB s.data.toList = false ∨ goodB t.data.toList = false → At w 4 #[.string s, .string t] (.bool true) := fun h =>
    products_bad h empty_app CA (Lib.hid (At.refGood s)) (Lib.hid (At.refGood t)) (Lib.hid (At.bad two_mul h)) (Lib.hid (At.divBad h)) (Lib.hid (At.cmpBad h)) (Lib.hid (At.same _ _))
  rcases good_cases s with h | ⟨a, ha, rfl⟩
  · exact bad (.inl h)
  · rcases good_cases t with h | ⟨b, hb, rfl⟩
    · exact bad (.inr h)
    · clear bad
      have RA := At.refGood (w := w) (str a)
      have RB := At.refGood (w := w) (str b)
      rw [good_str, decide_eq_true ha] at RA
      rw [good_str, decide_eq_true hb] at RB
      obtain ⟨sp, e1, CM, CX⟩ := two_cap two_mul ht ha hb
      have CT := At.refTimes (w := w) ha.dig2 hb.dig2
      have CC := At.cmp (w := w) ha hb
      have RC := At.refCmp (w := w) ha.dig hb.dig
      by_cases hb0 : b = 0
      · have e0 : str b = ⟨#[48]⟩ := by rw [hb0]; exact str_zero
        rw [e0] at RB CM CT CC RC ⊢
        exact products_zero (sb := ⟨#[]⟩) (sq := ⟨#[]⟩) (sr := ⟨#[]⟩) empty_app CA (Lib.hid RA) (Lib.hid RB) (Lib.hid CM) (Lib.hid CT) (Lib.hid CX) (Lib.hid (At.same _ _)) (Lib.hid CC) (Lib.hid RC) (Lib.hid (At.divZero ha)) (Lib.hid (At.same _ _))
      · exact products_good (str_eq0 hb0) CA (Lib.hid RA) (Lib.hid RB) (Lib.hid CM) (Lib.hid CT) (Lib.hid CX) (Lib.hid (At.same _ _)) (Lib.hid CC) (Lib.hid RC) (Lib.hid (At.div ht ha hb hb0)) (Lib.hid (At.refParted ha.dig2 hb.dig2 hb0))
end Go.Proofs.YtlilojaefpnkmaaDoor
