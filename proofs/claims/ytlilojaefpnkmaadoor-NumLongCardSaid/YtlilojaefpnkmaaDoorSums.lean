/- NumSums. -/
import Derived.Test.YtlilojaefpnkmaaDoorRefE
namespace Go.Proofs.YtlilojaefpnkmaaDoor
open Go.RowKit
set_option linter.unusedVariables false

set_option maxRecDepth 100000 in
set_option maxHeartbeats 1000000 in
theorem sums_good {w : World} {sa sb ss sd sp st sq : ByteArray} {e1 e2 : Int} (CA : Hid (At w 10 #[] (.bool true))) (GA : Hid (At w 13 #[.string sa] (.bool true))) (GB : Hid (At w 13 #[.string sb] (.bool true))) (RA : Hid (At w 14 #[.string sa] (.bool true))) (RB : Hid (At w 14 #[.string sb] (.bool true)))
    (CS : Hid (At w 11 #[.string sa, .string sb] (.tuple #[.string ss, .int .i64 e1]))) (CD : Hid (At w 12 #[.string sa, .string sb] (.tuple #[.string sd, .int .i64 e2])))
    (CP : Hid (At w 17 #[.string sa, .string sb] (.string sp))) (CT : Hid (At w 18 #[.string sb] (.string st))) (CQ : Hid (At w 17 #[.string sa, .string st] (.string sq)))
    (CX : Hid (At w 16 #[.string sp] (.tuple #[.string ss, .int .i64 e1]))) (CY : Hid (At w 16 #[.string sq] (.tuple #[.string sd, .int .i64 e2])))
    (S1 : Hid (At w 15 #[.string ss, .int .i64 e1, .string ss, .int .i64 e1] (.bool true))) (S2 : Hid (At w 15 #[.string sd, .int .i64 e2, .string sd, .int .i64 e2] (.bool true))) :
    At w 3 #[.string sa, .string sb] (.bool true) := by
  intro W hb
  go_enter Tryd.func3, Tryd.ntmps3
  go_wp2_with fail
  go_at_call 10; refine (CA.out _ hb).mono ?_; rintro e W1 ⟨rfl, hb⟩
  go_wp2_with fail
  go_at_call 11; refine (CS.out _ hb).mono ?_; rintro e W1 ⟨rfl, hb⟩
  go_wp2_with fail
  go_at_call 12; refine (CD.out _ hb).mono ?_; rintro e W1 ⟨rfl, hb⟩
  go_wp2_with fail
  go_at_call 13; refine (GA.out _ hb).mono ?_; rintro e W1 ⟨rfl, hb⟩
  go_wp2_with fail
  go_at_call 14; refine (RA.out _ hb).mono ?_; rintro e W1 ⟨rfl, hb⟩
  go_wp2_with fail
  go_at_call 13; refine (GB.out _ hb).mono ?_; rintro e W1 ⟨rfl, hb⟩
  go_wp2_with fail
  go_at_call 14; refine (RB.out _ hb).mono ?_; rintro e W1 ⟨rfl, hb⟩
  go_wp2_with fail
  go_at_call 14; refine (RA.out _ hb).mono ?_; rintro e W1 ⟨rfl, hb⟩
  go_wp2_with fail
  go_at_call 14; refine (RB.out _ hb).mono ?_; rintro e W1 ⟨rfl, hb⟩
  go_wp2_with fail
  go_at_call 17; refine (CP.out _ hb).mono ?_; rintro e W1 ⟨rfl, hb⟩
  go_wp2_with fail
  go_at_call 16; refine (CX.out _ hb).mono ?_; rintro e W1 ⟨rfl, hb⟩
  go_wp2_with fail
  go_at_call 18; refine (CT.out _ hb).mono ?_; rintro e W1 ⟨rfl, hb⟩
  go_wp2_with fail
  go_at_call 17; refine (CQ.out _ hb).mono ?_; rintro e W1 ⟨rfl, hb⟩
  go_wp2_with fail
  go_at_call 16; refine (CY.out _ hb).mono ?_; rintro e W1 ⟨rfl, hb⟩
  go_wp2_with fail
  go_at_call 15; refine (S1.out _ hb).mono ?_; rintro e W1 ⟨rfl, hb⟩
  go_wp2_with fail
  go_at_call 15; refine (S2.out _ hb).mono ?_; rintro e W1 ⟨rfl, hb⟩
  go_wp2
  refine bodyPost_ret (v := .bool true) ?_ rfl ⟨rfl, hb⟩
  simp [results, Tryd.results3, go_sem]

set_option maxRecDepth 100000 in
set_option maxHeartbeats 1000000 in
theorem sums_bad {w : World} {sa sb : ByteArray} {g h : Bool} (hgh : g = false ∨ h = false) (CA : Hid (At w 10 #[] (.bool true))) (GA : Hid (At w 13 #[.string sa] (.bool g))) (GB : Hid (At w 13 #[.string sb] (.bool h))) (RA : Hid (At w 14 #[.string sa] (.bool g))) (RB : Hid (At w 14 #[.string sb] (.bool h)))
    (CS : Hid (At w 11 #[.string sa, .string sb] (.tuple #[.string ⟨#[]⟩, .int .i64 6]))) (CD : Hid (At w 12 #[.string sa, .string sb] (.tuple #[.string ⟨#[]⟩, .int .i64 6])))
    (S1 : Hid (At w 15 #[.string ⟨#[]⟩, .int .i64 6, .string ⟨#[]⟩, .int .i64 6] (.bool true))) :
    At w 3 #[.string sa, .string sb] (.bool true) := by
  intro W hb
  rcases (show (g = false ∧ h = false) ∨ (g = false ∧ h = true) ∨ (g = true ∧ h = false) by cases g <;> cases h <;> simp_all) with ⟨rfl, rfl⟩ | ⟨rfl, rfl⟩ | ⟨rfl, rfl⟩
  · clear hgh
    go_enter Tryd.func3, Tryd.ntmps3
    go_wp2_with fail
    go_at_call 10; refine (CA.out _ hb).mono ?_; rintro e W1 ⟨rfl, hb⟩
    go_wp2_with fail
    go_at_call 11; refine (CS.out _ hb).mono ?_; rintro e W1 ⟨rfl, hb⟩
    go_wp2_with fail
    go_at_call 12; refine (CD.out _ hb).mono ?_; rintro e W1 ⟨rfl, hb⟩
    go_wp2_with fail
    go_at_call 13; refine (GA.out _ hb).mono ?_; rintro e W1 ⟨rfl, hb⟩
    go_wp2_with fail
    go_at_call 14; refine (RA.out _ hb).mono ?_; rintro e W1 ⟨rfl, hb⟩
    go_wp2_with fail
    go_at_call 13; refine (GB.out _ hb).mono ?_; rintro e W1 ⟨rfl, hb⟩
    go_wp2_with fail
    go_at_call 14; refine (RB.out _ hb).mono ?_; rintro e W1 ⟨rfl, hb⟩
    go_wp2_with fail
    go_at_call 14; refine (RA.out _ hb).mono ?_; rintro e W1 ⟨rfl, hb⟩
    go_wp2_with fail
    go_at_call 15; refine (S1.out _ hb).mono ?_; rintro e W1 ⟨rfl, hb⟩
    go_wp2_with fail
    go_at_call 15; refine (S1.out _ hb).mono ?_; rintro e W1 ⟨rfl, hb⟩
    go_wp2
    refine bodyPost_ret (v := .bool true) ?_ rfl ⟨rfl, hb⟩
    simp [results, Tryd.results3, go_sem]
  · clear hgh
    go_enter Tryd.func3, Tryd.ntmps3
    go_wp2_with fail
    go_at_call 10; refine (CA.out _ hb).mono ?_; rintro e W1 ⟨rfl, hb⟩
    go_wp2_with fail
    go_at_call 11; refine (CS.out _ hb).mono ?_; rintro e W1 ⟨rfl, hb⟩
    go_wp2_with fail
    go_at_call 12; refine (CD.out _ hb).mono ?_; rintro e W1 ⟨rfl, hb⟩
    go_wp2_with fail
    go_at_call 13; refine (GA.out _ hb).mono ?_; rintro e W1 ⟨rfl, hb⟩
    go_wp2_with fail
    go_at_call 14; refine (RA.out _ hb).mono ?_; rintro e W1 ⟨rfl, hb⟩
    go_wp2_with fail
    go_at_call 13; refine (GB.out _ hb).mono ?_; rintro e W1 ⟨rfl, hb⟩
    go_wp2_with fail
    go_at_call 14; refine (RB.out _ hb).mono ?_; rintro e W1 ⟨rfl, hb⟩
    go_wp2_with fail
    go_at_call 14; refine (RA.out _ hb).mono ?_; rintro e W1 ⟨rfl, hb⟩
    go_wp2_with fail
    go_at_call 15; refine (S1.out _ hb).mono ?_; rintro e W1 ⟨rfl, hb⟩
    go_wp2_with fail
    go_at_call 15; refine (S1.out _ hb).mono ?_; rintro e W1 ⟨rfl, hb⟩
    go_wp2
    refine bodyPost_ret (v := .bool true) ?_ rfl ⟨rfl, hb⟩
    simp [results, Tryd.results3, go_sem]
  · clear hgh
    go_enter Tryd.func3, Tryd.ntmps3
    go_wp2_with fail
    go_at_call 10; refine (CA.out _ hb).mono ?_; rintro e W1 ⟨rfl, hb⟩
    go_wp2_with fail
    go_at_call 11; refine (CS.out _ hb).mono ?_; rintro e W1 ⟨rfl, hb⟩
    go_wp2_with fail
    go_at_call 12; refine (CD.out _ hb).mono ?_; rintro e W1 ⟨rfl, hb⟩
    go_wp2_with fail
    go_at_call 13; refine (GA.out _ hb).mono ?_; rintro e W1 ⟨rfl, hb⟩
    go_wp2_with fail
    go_at_call 14; refine (RA.out _ hb).mono ?_; rintro e W1 ⟨rfl, hb⟩
    go_wp2_with fail
    go_at_call 13; refine (GB.out _ hb).mono ?_; rintro e W1 ⟨rfl, hb⟩
    go_wp2_with fail
    go_at_call 14; refine (RB.out _ hb).mono ?_; rintro e W1 ⟨rfl, hb⟩
    go_wp2_with fail
    go_at_call 14; refine (RA.out _ hb).mono ?_; rintro e W1 ⟨rfl, hb⟩
    go_wp2_with fail
    go_at_call 14; refine (RB.out _ hb).mono ?_; rintro e W1 ⟨rfl, hb⟩
    go_wp2_with fail
    go_at_call 15; refine (S1.out _ hb).mono ?_; rintro e W1 ⟨rfl, hb⟩
    go_wp2_with fail
    go_at_call 15; refine (S1.out _ hb).mono ?_; rintro e W1 ⟨rfl, hb⟩
    go_wp2
    refine bodyPost_ret (v := .bool true) ?_ rfl ⟨rfl, hb⟩
    simp [results, Tryd.results3, go_sem]

/-- What a call of num answers, capped. -/
theorem two_cap {w : World} {F : Nat} {op : Int → Int → Int} (h : Two F op) (ht : Tab w.heap.size w) {a b : Int} (ha : Fits a) (hb : Fits b) : ∃ (s : ByteArray) (e : Int), At w F #[.string (str a), .string (str b)] (.tuple #[.string s, .int .i64 e]) ∧ At w 16 #[.string (str (op a b))] (.tuple #[.string s, .int .i64 e]) := by
  by_cases hf : Fits (op a b)
  · exact ⟨_, _, At.two h ht ha hb hf, At.capFits hf⟩
  · exact ⟨_, _, At.long h ht ha hb hf, At.capLong hf⟩
theorem Fits.dig {a : Int} (h : Fits a) : Lib.nDigits a.natAbs ≤ 100000 := by have := fits_digits h; omega

theorem sums_any {w : World} (ht : Tab w.heap.size w) (s t : ByteArray) : At w 3 #[.string s, .string t] (.bool true) := by
  have CA := Lib.hid (At.awake ht)
  have bad : goodB s.data.toList = false ∨ goodB t.data.toList = false → At w 3 #[.string s, .string t] (.bool true) := fun h =>
    sums_bad h CA (Lib.hid (At.good s)) (Lib.hid (At.good t)) (Lib.hid (At.refGood s)) (Lib.hid (At.refGood t)) (Lib.hid (At.bad two_add h)) (Lib.hid (At.bad two_sub h)) (Lib.hid (At.same _ _))
  rcases good_cases s with h | ⟨a, ha, rfl⟩
  · exact bad (.inl h)
  · rcases good_cases t with h | ⟨b, hb, rfl⟩
    · exact bad (.inr h)
    · clear bad
      have GA := At.good (w := w) (str a)
      have GB := At.good (w := w) (str b)
      have RA := At.refGood (w := w) (str a)
      have RB := At.refGood (w := w) (str b)
      rw [good_str, decide_eq_true ha] at GA RA
      rw [good_str, decide_eq_true hb] at GB RB
      obtain ⟨ss, e1, CS, CX⟩ := two_cap two_add ht ha hb
      obtain ⟨sd, e2, CD, CY⟩ := two_cap two_sub ht ha hb
      have CQ := At.refPlus (w := w) ha.dig (hb.neg).dig
      rw [show a + -b = a - b by omega] at CQ
      exact sums_good CA (Lib.hid GA) (Lib.hid GB) (Lib.hid RA) (Lib.hid RB) (Lib.hid CS) (Lib.hid CD) (Lib.hid (At.refPlus ha.dig hb.dig)) (Lib.hid (At.refTurned (by have := hb.dig; omega))) (Lib.hid CQ) (Lib.hid CX) (Lib.hid CY) (Lib.hid (At.same _ _)) (Lib.hid (At.same _ _))
end Go.Proofs.YtlilojaefpnkmaaDoor
