/- The document's own answers, walked: whole numbers: Below, Size, signed, Less, Plus, Turned · purlinref01.Cmp in value's seat -/
import Derived.Test.YthmojhfakmdlfaaGreatDoorOr07
import Derived.Test.YthmojhfakmdlfaaGreatDoorOr08
import Derived.Test.YthmojhfakmdlfaaGreatDoorOr15
namespace Go.Proofs.YthmojhfakmdlfaaGreatDoor
open Go.RowKit

theorem itoa_pos {a : Int} (h : ¬ a < 0) : Lib.itoa a = Lib.decDigits a.natAbs := by unfold Lib.itoa; rw [if_neg h, show a.toNat = a.natAbs by omega]
theorem itoa_minus {a : Int} (h : a < 0) : Lib.itoa a = 45 :: Lib.decDigits a.natAbs := by unfold Lib.itoa; rw [if_pos h]
theorem str_pos {a : Int} (h : ¬ a < 0) : str a = dstr a.natAbs := by unfold str dstr; rw [itoa_pos h]
theorem str_minus {a : Int} (h : a < 0) : str a = ⟨#[45]⟩ ++ dstr a.natAbs := WideShapes.bytes_inj (by rw [ByteArray.data_append]; unfold str dstr; rw [itoa_minus h]; simp)
theorem str_size (a : Int) : 0 < (str a).size := by rw [← bytes_len, str_list]; exact List.length_pos_iff.2 (itoa_ne a)
theorem str_head (a : Int) : (((str a)[0]'(str_size a)).toNat : Int) = 45 ↔ a < 0 := by
  have h0 := byte0 (str_size a)
  rw [str_list] at h0
  by_cases h : a < 0
  · rw [itoa_minus h] at h0
    simp at h0
    rw [← h0]
    simp [h]
  · rw [itoa_pos h] at h0
    have h1 : (str a)[0]'(str_size a) ∈ Lib.decDigits a.natAbs := List.mem_of_getElem? h0
    have := digs_decDigits _ _ h1
    constructor
    · intro h'; omega
    · intro h'; exact absurd h' h

theorem refBelow_str (a : Int) (w : World) : Calls Tryz.prog 81 #[.string (str a)] w fun e w' => e = .returned (.bool (decide (a < 0))) ∧ w = w' := by
  have := refBelow_any (str a) (str_size a) w
  rw [show ((((str a)[0]'(str_size a)).toNat : Int) == 45) = decide (a < 0) by rw [Bool.eq_iff_iff, beq_iff_eq, decide_eq_true_iff]; exact str_head a] at this
  exact this
theorem refSize_str (a : Int) (w : World) : Calls Tryz.prog 117 #[.string (str a)] w fun e w' => e = .returned (.string (dstr a.natAbs)) ∧ w = w' := by
  by_cases h : a < 0
  · have := refSize_neg (str a) (str_size a) ((str_head a).2 h) w
    rw [show (str a).extract 1 (str a).size = dstr a.natAbs by
      refine WideShapes.bytes_inj ?_
      rw [Lib.extract_to_end, str_list, itoa_minus h, dstr_list]
      rfl] at this
    exact this
  · have := refSize_pos (str a) (str_size a) (fun h' => h ((str_head a).1 h')) w
    rw [← str_pos h]
    exact this
theorem dstr_zero {m : Nat} : ((dstr m).toList == [48]) = decide (m = 0) := by
  rw [Bool.eq_iff_iff, beq_iff_eq, decide_eq_true_iff, ByteArray.toList_eq, dstr_list]
  constructor
  · intro h; exact dec_head0 (by rw [h]; rfl)
  · intro h; rw [h, Lib.decDigits_one (by omega)]; rfl
theorem refSigned_str (b : Bool) {m : Nat} (hm : Lib.nDigits m ≤ 1000000) (w : World) : Calls Tryz.prog 115 #[.bool b, .string (dstr m)] w fun e w' => e = .returned (.string (str (sg b m))) ∧ w = w' := by
  by_cases h : b = false ∨ m = 0
  · have := refSigned_plain b (dstr m) (h.imp_right fun h => by rw [dstr_zero]; simpa using h) w
    rw [str_pos (a := sg b m) (by unfold sg; rcases h with h | h <;> subst h <;> simp <;> omega), sg_abs]
    exact this
  · obtain ⟨h1, h2⟩ := not_or.1 h
    obtain rfl : b = true := by simpa using h1
    have := refSigned_minus (dstr m) (by rw [dstr_zero]; simpa using h2) (by rw [dstr_size]; exact hm) w
    rw [str_minus (a := sg true m) (by unfold sg; simp; omega), sg_abs]
    exact this
theorem refLess_str (m n : Nat) (w : World) : Calls Tryz.prog 118 #[.string (dstr m), .string (dstr n)] w fun e w' => e = .returned (.bool (decide (m < n))) ∧ w = w' := by
  by_cases h : Lib.nDigits m = Lib.nDigits n
  · have := refLess_eq (dstr m) (dstr n) (by rw [dstr_size, dstr_size, h]) w
    rw [dstr_list, dstr_list, show decide (Lib.decDigits m < Lib.decDigits n) = decide (m < n) by rw [Bool.eq_iff_iff, decide_eq_true_iff, decide_eq_true_iff]; exact dec_lt h] at this
    exact this
  · have := refLess_len (dstr m) (dstr n) (by rw [dstr_size, dstr_size]; exact h) w
    rw [dstr_size, dstr_size, show decide (Lib.nDigits m < Lib.nDigits n) = decide (m < n) by
      rw [Bool.eq_iff_iff, decide_eq_true_iff, decide_eq_true_iff]
      constructor
      · exact nDigits_lt
      · intro h'; have := nDigits_mono (Nat.le_of_lt h'); omega] at this
    exact this

theorem refTurned_str {a : Int} (ha : Lib.nDigits a.natAbs ≤ 1000000) (w : World) : Calls Tryz.prog 80 #[.string (str a)] w fun e w' => e = .returned (.string (str (-a))) ∧ w = w' := by
  have HB := Lib.hid (fun W => refBelow_str a W)
  have HS := Lib.hid (fun W => refSize_str a W)
  have HG := Lib.hid (fun W => refSigned_str (!decide (a < 0)) ha W)
  have e : sg (!decide (a < 0)) a.natAbs = -a := by unfold sg; by_cases h : a < 0 <;> simp [h] <;> omega
  rw [e] at HG
  generalize str a = A at HB HS ⊢
  generalize dstr a.natAbs = S at HS HG
  generalize str (-a) = R at HG ⊢
  generalize decide (a < 0) = b at HB HG
  clear e ha
  go_enter Tryz.func80, Tryz.ntmps80
  go_wp2_with (first
    | (go_at_call 81; refine (HB.out _).mono ?_; rintro e w' ⟨rfl, rfl⟩)
    | (go_at_call 117; refine (HS.out _).mono ?_; rintro e w' ⟨rfl, rfl⟩)
    | (go_at_call 115; refine (HG.out _).mono ?_; rintro e w' ⟨rfl, rfl⟩))
  go_ret
  exact ⟨rfl, rfl⟩

section
variable {A B SA SB S R : ByteArray} {w : World}
/-- Plus where the signs are the same. -/
theorem refPlus_same {b : Bool} (hA : Hid (∀ W, Calls Tryz.prog 81 #[.string A] W fun e w' => e = .returned (.bool b) ∧ W = w')) (hB : Hid (∀ W, Calls Tryz.prog 81 #[.string B] W fun e w' => e = .returned (.bool b) ∧ W = w')) (hSA : Hid (∀ W, Calls Tryz.prog 117 #[.string A] W fun e w' => e = .returned (.string SA) ∧ W = w')) (hSB : Hid (∀ W, Calls Tryz.prog 117 #[.string B] W fun e w' => e = .returned (.string SB) ∧ W = w'))
    (hP : Hid (∀ W, Calls Tryz.prog 116 #[.string SA, .string SB] W fun e w' => e = .returned (.string S) ∧ Below W.heap.size W w')) (hG : Hid (∀ W, Calls Tryz.prog 115 #[.bool b, .string S] W fun e w' => e = .returned (.string R) ∧ W = w')) :
    Calls Tryz.prog 79 #[.string A, .string B] w fun e w' => e = .returned (.string R) ∧ Below w.heap.size w w' := by
  cases b
  all_goals
    go_enter Tryz.func79, Tryz.ntmps79
    go_wp2_with fail
    go_at_call 81; refine (hA.out _).mono ?_; rintro e w' ⟨rfl, rfl⟩
    go_wp2_with fail
    go_at_call 81; refine (hB.out _).mono ?_; rintro e w' ⟨rfl, rfl⟩
    go_wp2_with fail
    go_at_call 81; refine (hA.out _).mono ?_; rintro e w' ⟨rfl, rfl⟩
    go_wp2_with fail
    go_at_call 117; refine (hSA.out _).mono ?_; rintro e w' ⟨rfl, rfl⟩
    go_wp2_with fail
    go_at_call 117; refine (hSB.out _).mono ?_; rintro e w' ⟨rfl, rfl⟩
    go_wp2_with (first
      | (go_at_call 116; refine (hP.out _).mono ?_; rintro e w1 ⟨rfl, hb⟩)
      | (go_at_call 115; refine (hG.out _).mono ?_; rintro e w' ⟨rfl, rfl⟩))
    go_ret
    exact ⟨rfl, hb⟩
/-- Plus where they differ and the first size is the lesser. -/
theorem refPlus_less {b c : Bool} (hbc : b = !c) (hA : Hid (∀ W, Calls Tryz.prog 81 #[.string A] W fun e w' => e = .returned (.bool b) ∧ W = w')) (hB : Hid (∀ W, Calls Tryz.prog 81 #[.string B] W fun e w' => e = .returned (.bool c) ∧ W = w')) (hSA : Hid (∀ W, Calls Tryz.prog 117 #[.string A] W fun e w' => e = .returned (.string SA) ∧ W = w')) (hSB : Hid (∀ W, Calls Tryz.prog 117 #[.string B] W fun e w' => e = .returned (.string SB) ∧ W = w'))
    (hL : Hid (∀ W, Calls Tryz.prog 118 #[.string SA, .string SB] W fun e w' => e = .returned (.bool true) ∧ W = w'))
    (hP : Hid (∀ W, Calls Tryz.prog 119 #[.string SB, .string SA] W fun e w' => e = .returned (.string S) ∧ Below W.heap.size W w')) (hG : Hid (∀ W, Calls Tryz.prog 115 #[.bool c, .string S] W fun e w' => e = .returned (.string R) ∧ W = w')) :
    Calls Tryz.prog 79 #[.string A, .string B] w fun e w' => e = .returned (.string R) ∧ Below w.heap.size w w' := by
  subst hbc
  cases c
  all_goals
    simp only [Bool.not_true, Bool.not_false] at hA
    go_enter Tryz.func79, Tryz.ntmps79
    go_wp2_with fail
    go_at_call 81; refine (hA.out _).mono ?_; rintro e w' ⟨rfl, rfl⟩
    go_wp2_with fail
    go_at_call 81; refine (hB.out _).mono ?_; rintro e w' ⟨rfl, rfl⟩
    go_wp2_with fail
    go_at_call 117; refine (hSA.out _).mono ?_; rintro e w' ⟨rfl, rfl⟩
    go_wp2_with fail
    go_at_call 117; refine (hSB.out _).mono ?_; rintro e w' ⟨rfl, rfl⟩
    go_wp2_with (go_at_call 118; refine (hL.out _).mono ?_; rintro e w' ⟨rfl, rfl⟩)
    go_at_call 81; refine (hB.out _).mono ?_; rintro e w' ⟨rfl, rfl⟩
    go_wp2_with fail
    go_at_call 117; refine (hSB.out _).mono ?_; rintro e w' ⟨rfl, rfl⟩
    go_wp2_with fail
    go_at_call 117; refine (hSA.out _).mono ?_; rintro e w' ⟨rfl, rfl⟩
    go_wp2_with (first
      | (go_at_call 119; refine (hP.out _).mono ?_; rintro e w1 ⟨rfl, hb⟩)
      | (go_at_call 115; refine (hG.out _).mono ?_; rintro e w' ⟨rfl, rfl⟩))
    go_ret
    exact ⟨rfl, hb⟩
/-- Plus where they differ and the first size is not the lesser. -/
theorem refPlus_more {b c : Bool} (hbc : b = !c) (hA : Hid (∀ W, Calls Tryz.prog 81 #[.string A] W fun e w' => e = .returned (.bool b) ∧ W = w')) (hB : Hid (∀ W, Calls Tryz.prog 81 #[.string B] W fun e w' => e = .returned (.bool c) ∧ W = w')) (hSA : Hid (∀ W, Calls Tryz.prog 117 #[.string A] W fun e w' => e = .returned (.string SA) ∧ W = w')) (hSB : Hid (∀ W, Calls Tryz.prog 117 #[.string B] W fun e w' => e = .returned (.string SB) ∧ W = w'))
    (hL : Hid (∀ W, Calls Tryz.prog 118 #[.string SA, .string SB] W fun e w' => e = .returned (.bool false) ∧ W = w'))
    (hP : Hid (∀ W, Calls Tryz.prog 119 #[.string SA, .string SB] W fun e w' => e = .returned (.string S) ∧ Below W.heap.size W w')) (hG : Hid (∀ W, Calls Tryz.prog 115 #[.bool b, .string S] W fun e w' => e = .returned (.string R) ∧ W = w')) :
    Calls Tryz.prog 79 #[.string A, .string B] w fun e w' => e = .returned (.string R) ∧ Below w.heap.size w w' := by
  subst hbc
  cases c
  all_goals
    simp only [Bool.not_true, Bool.not_false] at hA hG
    go_enter Tryz.func79, Tryz.ntmps79
    go_wp2_with fail
    go_at_call 81; refine (hA.out _).mono ?_; rintro e w' ⟨rfl, rfl⟩
    go_wp2_with fail
    go_at_call 81; refine (hB.out _).mono ?_; rintro e w' ⟨rfl, rfl⟩
    go_wp2_with fail
    go_at_call 117; refine (hSA.out _).mono ?_; rintro e w' ⟨rfl, rfl⟩
    go_wp2_with fail
    go_at_call 117; refine (hSB.out _).mono ?_; rintro e w' ⟨rfl, rfl⟩
    go_wp2_with (go_at_call 118; refine (hL.out _).mono ?_; rintro e w' ⟨rfl, rfl⟩)
    go_at_call 81; refine (hA.out _).mono ?_; rintro e w' ⟨rfl, rfl⟩
    go_wp2_with fail
    go_at_call 117; refine (hSA.out _).mono ?_; rintro e w' ⟨rfl, rfl⟩
    go_wp2_with fail
    go_at_call 117; refine (hSB.out _).mono ?_; rintro e w' ⟨rfl, rfl⟩
    go_wp2_with (first
      | (go_at_call 119; refine (hP.out _).mono ?_; rintro e w1 ⟨rfl, hb⟩)
      | (go_at_call 115; refine (hG.out _).mono ?_; rintro e w' ⟨rfl, rfl⟩))
    go_ret
    exact ⟨rfl, hb⟩
end
theorem nDigits_add {m n k : Nat} (hk : 1 ≤ k) (hm : Lib.nDigits m ≤ k) (hn : Lib.nDigits n ≤ k) : Lib.nDigits (m + n) ≤ k + 1 := by
  have h1 : m < 10 ^ k := Nat.lt_of_lt_of_le (Lib.lt_pow_nDigits m) (Nat.pow_le_pow_right (by omega) hm)
  have h2 : n < 10 ^ k := Nat.lt_of_lt_of_le (Lib.lt_pow_nDigits n) (Nat.pow_le_pow_right (by omega) hn)
  exact nDigits_le (by omega) (by rw [Nat.pow_succ]; omega)
theorem RefPlus_any {a b : Int} (ha : Lib.nDigits a.natAbs ≤ 100000) (hb : Lib.nDigits b.natAbs ≤ 100000) (w : World) :
    Calls Tryz.prog 79 #[.string (str a), .string (str b)] w fun e w' => e = .returned (.string (str (a + b))) ∧ Below w.heap.size w w' := by
  have hA := Lib.hid (fun W => refBelow_str a W)
  have hB := Lib.hid (fun W => refBelow_str b W)
  have hSA := Lib.hid (fun W => refSize_str a W)
  have hSB := Lib.hid (fun W => refSize_str b W)
  by_cases hs : decide (a < 0) = decide (b < 0)
  · rw [← hs] at hB
    refine refPlus_same hA hB hSA hSB (Lib.hid (fun W => refPlus_any ha hb W)) (Lib.hid (fun W => ?_))
    have := refSigned_str (decide (a < 0)) (m := a.natAbs + b.natAbs) (by have := nDigits_add (k := 100000) (by omega) ha hb; omega) W
    rw [show sg (decide (a < 0)) (a.natAbs + b.natAbs) = a + b by unfold sg; by_cases h : a < 0 <;> by_cases h' : b < 0 <;> simp [h, h'] at hs ⊢ <;> omega] at this
    exact this
  · have hbc : decide (a < 0) = !decide (b < 0) := by
      cases h : decide (a < 0) <;> cases h' : decide (b < 0) <;> simp_all
    by_cases hl : a.natAbs < b.natAbs
    · refine refPlus_less hbc hA hB hSA hSB (Lib.hid (fun W => ?_)) (Lib.hid (fun W => refMinus_any hb (Nat.le_of_lt hl) W)) (Lib.hid (fun W => ?_))
      · have := refLess_str a.natAbs b.natAbs W
        rw [decide_eq_true hl] at this
        exact this
      · have := refSigned_str (decide (b < 0)) (m := b.natAbs - a.natAbs) (by have := nDigits_mono (Nat.sub_le b.natAbs a.natAbs); omega) W
        rw [show sg (decide (b < 0)) (b.natAbs - a.natAbs) = a + b by unfold sg; by_cases h : a < 0 <;> by_cases h' : b < 0 <;> simp [h, h'] at hs ⊢ <;> omega] at this
        exact this
    · refine refPlus_more hbc hA hB hSA hSB (Lib.hid (fun W => ?_)) (Lib.hid (fun W => refMinus_any ha (by omega) W)) (Lib.hid (fun W => ?_))
      · have := refLess_str a.natAbs b.natAbs W
        rw [decide_eq_false hl] at this
        exact this
      · have := refSigned_str (decide (a < 0)) (m := a.natAbs - b.natAbs) (by have := nDigits_mono (Nat.sub_le a.natAbs b.natAbs); omega) W
        rw [show sg (decide (a < 0)) (a.natAbs - b.natAbs) = a + b by unfold sg; by_cases h : a < 0 <;> by_cases h' : b < 0 <;> simp [h, h'] at hs ⊢ <;> omega] at this
        exact this
end Go.Proofs.YthmojhfakmdlfaaGreatDoor
namespace Go.Proofs.YthmojhfakmdlfaaGreatDoor
open Go.RowKit
set_option linter.unusedVariables false

theorem itoa_zero : Lib.itoa 0 = [48] := by unfold Lib.itoa; simp [Lib.decDigits_one]
theorem str_eq0 {b : Int} (h : b ≠ 0) : ((str b).toList == [48]) = false := by
  rw [beq_eq_false_iff_ne]
  intro h'
  rw [ByteArray.toList_eq, str_list, ← itoa_zero] at h'
  exact h (itoa_inj h')
theorem str_zero_eq {d : Int} : ((str d).toList == [48]) = decide (d = 0) := by
  by_cases h : d = 0
  · rw [decide_eq_true h, h, str_zero, ByteArray.toList_eq]; rfl
  · rw [decide_eq_false h]; exact str_eq0 h
theorem refCmp_any {a b : Int} (ha : Lib.nDigits a.natAbs ≤ 100000) (hb : Lib.nDigits b.natAbs ≤ 100000) (w : World) : Calls Tryz.prog 47 #[.string (str a), .string (str b)] w fun e w' => e = .returned (.int .i64 (sgnI a b)) ∧ Below w.heap.size w w' := by
  have HT := Lib.hid (fun W => refTurned_str (a := b) (by omega) W)
  have HP := Lib.hid (fun W => RefPlus_any ha (b := -b) (by rw [Int.natAbs_neg]; exact hb) W)
  have HB := Lib.hid (fun W => refBelow_str (a + -b) W)
  have hz := str_zero_eq (d := a + -b)
  have h1 : sgnI a b = if a + -b < 0 then -1 else if a + -b = 0 then 0 else 1 := by unfold sgnI; repeat' split <;> omega
  rw [h1]
  generalize a + -b = d at HP HB hz ⊢
  generalize str a = A at HP ⊢
  generalize str b = B at HT ⊢
  generalize str (-b) = C at HT HP
  generalize str d = E at HP HB hz
  clear h1 ha hb
  rcases (show d < 0 ∨ d = 0 ∨ 0 < d by omega) with h | h | h
  · have h0 : d ≠ 0 := by omega
    rw [decide_eq_false h0] at hz
    rw [decide_eq_true h] at HB
    rw [if_pos h]
    clear h h0
    go_enter Tryz.func47, Tryz.ntmps47
    go_wp2_with (first
      | (go_at_call 80; refine (HT.out _).mono ?_; rintro e w' ⟨rfl, rfl⟩)
      | (go_at_call 79; refine (HP.out _).mono ?_; rintro e w1 ⟨rfl, hb⟩)
      | (go_at_call 81; refine (HB.out _).mono ?_; rintro e w' ⟨rfl, rfl⟩))
    go_ret
    exact ⟨rfl, hb⟩
  · rw [decide_eq_true h] at hz
    rw [if_neg (by omega), if_pos h]
    clear h HB
    go_enter Tryz.func47, Tryz.ntmps47
    go_wp2_with (first
      | (go_at_call 80; refine (HT.out _).mono ?_; rintro e w' ⟨rfl, rfl⟩)
      | (go_at_call 79; refine (HP.out _).mono ?_; rintro e w1 ⟨rfl, hb⟩))
    go_ret
    exact ⟨rfl, hb⟩
  · have h0 : d ≠ 0 := by omega
    have h2 : ¬ d < 0 := by omega
    rw [decide_eq_false h0] at hz
    rw [decide_eq_false h2] at HB
    rw [if_neg h2, if_neg h0]
    clear h h0 h2
    go_enter Tryz.func47, Tryz.ntmps47
    go_wp2_with (first
      | (go_at_call 80; refine (HT.out _).mono ?_; rintro e w' ⟨rfl, rfl⟩)
      | (go_at_call 79; refine (HP.out _).mono ?_; rintro e w1 ⟨rfl, hb⟩)
      | (go_at_call 81; refine (HB.out _).mono ?_; rintro e w' ⟨rfl, rfl⟩))
    go_ret
    exact ⟨rfl, hb⟩

end Go.Proofs.YthmojhfakmdlfaaGreatDoor
