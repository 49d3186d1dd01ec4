/- NumParts. -/
import Derived.Test.YtlilojaefpnkmaaDoorRefP
import Derived.Test.YtlilojaefpnkmaaDoorSums
namespace Go.Proofs.YtlilojaefpnkmaaDoor
open Go.RowKit
set_option linter.unusedVariables false

set_option maxRecDepth 100000 in
set_option maxHeartbeats 1000000 in
theorem parts_good {w : World} {A F Lw H : ByteArray} {n : Int} {T : Nat} {g : Nat → ByteArray} (hA2 : 2 ≤ A.size) (hA100 : A.size ≤ 100) (hm : ((A[0].toNat : Int) == 45) = false)
    (hT : wrap64 (1 + wrap64 ((IntKind.u64.wrap n).tmod ((A.size : Int) - 1))) = (T : Int)) (hT1 : 1 ≤ T) (hTA : T < A.size) (hg0 : g 0 = ⟨#[49]⟩) (hgs : Hid (∀ j, g j ++ ⟨#[48]⟩ = g (j + 1))) (hgl : Hid (∀ j, (g j).size = j + 1)) (hF : A.extract 0 T = F) (hLw : Hid (bareL (A.data.toList.drop T) = Lw.data.toList))
    (CA : Hid (At w 10 #[] (.bool true))) (GA : Hid (At w 13 #[.string A] (.bool true)))
    (CM : Hid (At w 19 #[.string F, .string (g (A.size - T))] (.tuple #[.string H, .int .i64 0]))) (CP : Hid (At w 11 #[.string H, .string Lw] (.tuple #[.string A, .int .i64 0]))) (CD : Hid (At w 20 #[.string A, .string (g (A.size - T))] (.tuple #[.string F, .string Lw, .int .i64 0]))) :
    At w 8 #[.string A, .int .i64 n] (.bool true) := by
  intro W hb
  have HG0 := Lib.hid hg0
  clear hg0
  go_enter Tryd.func8, Tryd.ntmps8
  go_wp2_with fail
  go_at_call 10; refine (CA.out _ hb).mono ?_; rintro e W1 ⟨rfl, hb⟩
  go_wp2_with fail
  go_at_call 13; refine (GA.out _ hb).mono ?_; rintro e W1 ⟨rfl, hb⟩
  go_wp2
  rw [hT]
  clear hT
  go_loop [5, 6] (fun sv iv => ∃ j : Nat, sv = .string (g j) ∧ iv = .int .i64 ((T + j : Nat) : Int) ∧ T + j ≤ A.size) (fun _ iv => A.size - (intOf iv).toNat)
  case atStart => exact ⟨0, by rw [HG0.out], by rw [Nat.add_zero], by omega⟩
  case round =>
    obtain ⟨j, rfl, rfl, hj⟩ := hrel
    by_cases hlt : T + j < A.size
    · have hg1 := hgl.out j
      have hg2 := hgs.out j
      go_wp2
      go_round
      case rel => exact ⟨j + 1, rfl, by go_num, by omega⟩
      case measure => simp [intOf]; omega
    · obtain ⟨K, hK⟩ : ∃ K, g (A.size - T) = K := ⟨_, rfl⟩
      have hgj : g j = K := by rw [← hK]; congr 1; omega
      rw [hK] at CM CD
      clear hK
      go_wp2
      obtain ⟨E, hE⟩ : ∃ E, A.extract T A.size = E := ⟨_, rfl⟩
      have hE1 : E.size = A.size - T := by rw [← hE]; simp
      have hE2 : Hid (bareL E.data.toList = Lw.data.toList) := Lib.hid (by rw [← hLw.out, ← hE, Lib.extract_to_end])
      rw [hE]
      clear hE
      go_loop [7] (fun v => ∃ d : ByteArray, v = .string d ∧ 0 < d.size ∧ d.size ≤ E.size ∧ Hid (bareL d.data.toList = Lw.data.toList)) (fun v => match v with | .string d => d.size | _ => 0)
      case atStart => exact ⟨E, rfl, by omega, Nat.le_refl _, hE2⟩
      case round =>
        obtain ⟨d, rfl, h0, hds, HD⟩ := hrel
        by_cases h1 : 1 < d.size
        · by_cases hc : d[0].toNat = 48
          · go_wp2
            go_round
            case rel => exact ⟨_, rfl, by simp; omega, by simp; omega, Lib.hid (by rw [bareL_step h1 hc, HD.out])⟩
            case measure => simp; omega
          · obtain rfl : d = Lw := WideShapes.bytes_inj (by rw [← HD.out, bareL_stop h1 hc])
            go_wp2_with fail
            go_at_call 19; refine (CM.out _ hb).mono ?_; rintro e W1 ⟨rfl, hb⟩
            go_wp2_with fail
            go_at_call 11; refine (CP.out _ hb).mono ?_; rintro e W1 ⟨rfl, hb⟩
            go_wp2_with fail
            go_at_call 20; refine (CD.out _ hb).mono ?_; rintro e W1 ⟨rfl, hb⟩
            go_wp2
            refine bodyPost_ret (v := .bool true) ?_ rfl ⟨rfl, hb⟩
            simp [results, Tryd.results8, go_sem]
        · obtain rfl : d = Lw := WideShapes.bytes_inj (by rw [← HD.out, bareL_one (by omega)])
          go_wp2_with fail
          go_at_call 19; refine (CM.out _ hb).mono ?_; rintro e W1 ⟨rfl, hb⟩
          go_wp2_with fail
          go_at_call 11; refine (CP.out _ hb).mono ?_; rintro e W1 ⟨rfl, hb⟩
          go_wp2_with fail
          go_at_call 20; refine (CD.out _ hb).mono ?_; rintro e W1 ⟨rfl, hb⟩
          go_wp2
          refine bodyPost_ret (v := .bool true) ?_ rfl ⟨rfl, hb⟩
          simp [results, Tryd.results8, go_sem]
set_option maxRecDepth 100000 in
set_option maxHeartbeats 1000000 in
theorem parts_bad {w : World} {A : ByteArray} {n : Int}  (CA : Hid (At w 10 #[] (.bool true))) (GA : Hid (At w 13 #[.string A] (.bool false))) : At w 8 #[.string A, .int .i64 n] (.bool true) := by
  intro W hb
  go_enter Tryd.func8, Tryd.ntmps8
  go_wp2_with fail
  go_at_call 10; refine (CA.out _ hb).mono ?_; rintro e W1 ⟨rfl, hb⟩
  go_wp2_with fail
  go_at_call 13; refine (GA.out _ hb).mono ?_; rintro e W1 ⟨rfl, hb⟩
  go_wp2
  refine bodyPost_ret (v := .bool true) ?_ rfl ⟨rfl, hb⟩
  simp [results, Tryd.results8, go_sem]
set_option maxRecDepth 100000 in
set_option maxHeartbeats 1000000 in
theorem parts_minus {w : World} {A : ByteArray} {n : Int} (h0 : 0 < A.size) (hm : ((A[0].toNat : Int) == 45) = true) (CA : Hid (At w 10 #[] (.bool true))) (GA : Hid (At w 13 #[.string A] (.bool true))) : At w 8 #[.string A, .int .i64 n] (.bool true) := by
  intro W hb
  go_enter Tryd.func8, Tryd.ntmps8
  go_wp2_with fail
  go_at_call 10; refine (CA.out _ hb).mono ?_; rintro e W1 ⟨rfl, hb⟩
  go_wp2_with fail
  go_at_call 13; refine (GA.out _ hb).mono ?_; rintro e W1 ⟨rfl, hb⟩
  go_wp2
  refine bodyPost_ret (v := .bool true) ?_ rfl ⟨rfl, hb⟩
  simp [results, Tryd.results8, go_sem]
set_option maxRecDepth 100000 in
set_option maxHeartbeats 1000000 in
theorem parts_one {w : World} {A : ByteArray} {n : Int} (h0 : A.size = 1) (hm : ((A[0].toNat : Int) == 45) = false) (CA : Hid (At w 10 #[] (.bool true))) (GA : Hid (At w 13 #[.string A] (.bool true))) : At w 8 #[.string A, .int .i64 n] (.bool true) := by
  intro W hb
  go_enter Tryd.func8, Tryd.ntmps8
  go_wp2_with fail
  go_at_call 10; refine (CA.out _ hb).mono ?_; rintro e W1 ⟨rfl, hb⟩
  go_wp2_with fail
  go_at_call 13; refine (GA.out _ hb).mono ?_; rintro e W1 ⟨rfl, hb⟩
  go_wp2
  refine bodyPost_ret (v := .bool true) ?_ rfl ⟨rfl, hb⟩
  simp [results, Tryd.results8, go_sem]

theorem dstr_zero_one : dstr (10 ^ 0) = ⟨#[49]⟩ := by unfold dstr; rw [Nat.pow_zero, Lib.decDigits_one (by omega)]; rfl
theorem str_nat (m : Nat) : str (m : Int) = dstr m := by rw [str_pos (by omega), Int.natAbs_natCast]
theorem dec_take {m T : Nat} (hT : 1 ≤ T) (hl : T ≤ Lib.nDigits m) : (Lib.decDigits m).take T = Lib.decDigits (m / 10 ^ (Lib.nDigits m - T)) ∧ dval ((Lib.decDigits m).drop T) = m % 10 ^ (Lib.nDigits m - T) := by
  have hd := digs_decDigits m
  have e : (Lib.decDigits m).take T ++ (Lib.decDigits m).drop T = Lib.decDigits m := List.take_append_drop _ _
  have h1 := dval_append ((Lib.decDigits m).take T) ((Lib.decDigits m).drop T)
  have h2 := dval_lt (hd.drop T)
  rw [e, dval_decDigits, List.length_drop, Lib.decDigits_length] at h1
  rw [List.length_drop, Lib.decDigits_length] at h2
  obtain ⟨P, hP⟩ : ∃ P, 10 ^ (Lib.nDigits m - T) = P := ⟨_, rfl⟩
  rw [hP] at h1 h2 ⊢
  have hP0 : 0 < P := by rw [← hP]; exact Nat.pow_pos (by omega)
  have hlen : ((Lib.decDigits m).take T).length = T := by rw [List.length_take, Lib.decDigits_length]; omega
  have hne : (Lib.decDigits m).take T ≠ [] := by intro h; rw [h] at hlen; simp at hlen; omega
  have gen : ∀ q r : Nat, m = q * P + r → r < P → m / P = q ∧ m % P = r := by
    intro q r h h'
    subst h
    rw [Nat.mul_comm q P]
    exact ⟨by rw [Nat.mul_add_div hP0, Nat.div_eq_of_lt h', Nat.add_zero], by rw [Nat.mul_add_mod, Nat.mod_eq_of_lt h']⟩
  obtain ⟨q1, q2⟩ := gen _ _ h1 h2
  refine ⟨?_, q2.symm⟩
  rw [q1]
  refine (decDigits_dval ⟨hd.take T, hne, fun hc => ?_⟩).symm
  have h5 := (canon_decDigits m).2.2 (by rw [Lib.decDigits_length]; rw [hlen] at hc; omega)
  rw [← e, head_app hne] at h5
  exact h5
theorem dstr_ten (j : Nat) : dstr (10 ^ j) ++ ⟨#[48]⟩ = dstr (10 ^ (j + 1)) := by
  refine WideShapes.bytes_inj ?_
  rw [snoc_list, dstr_list, dstr_list, Nat.pow_succ]
  have hp : 0 < 10 ^ j := Nat.pow_pos (by omega)
  have := decDigits_snoc (n := 10 ^ j) (d := 0) (Nat.ne_of_gt hp) (by omega)
  rw [Nat.add_zero] at this
  rw [this]
  rfl
theorem nDigits_ten (j : Nat) : Lib.nDigits (10 ^ j) = j + 1 := Lib.nDigits_unique j _ (Nat.le_refl _) (Nat.pow_lt_pow_right (by omega) (by omega))

set_option maxRecDepth 100000 in
theorem parts_any {w : World} (ht : Tab w.heap.size w) (A : ByteArray) (n : Int) : At w 8 #[.string A, .int .i64 n] (.bool true) := by
  have CA := Lib.hid (At.awake ht)
  have GA := At.good (w := w) A
  rcases good_cases A with h | ⟨a, ha, rfl⟩
  · rw [h] at GA
    exact parts_bad CA (Lib.hid GA)
  · rw [good_str, decide_eq_true ha] at GA
    have h0 := str_size a
    by_cases hneg : a < 0
    · exact parts_minus h0 (beq_iff_eq.2 ((str_head a).2 hneg)) CA (Lib.hid GA)
    · have hm : ((((str a)[0]'(str_size a)).toNat : Int) == 45) = false := beq_eq_false_iff_ne.2 (fun h => hneg ((str_head a).1 h))
      by_cases h1 : (str a).size = 1
      · exact parts_one h1 hm CA (Lib.hid GA)
      · obtain ⟨m, rfl⟩ : ∃ m : Nat, a = (m : Int) := ⟨a.toNat, by omega⟩
        have hsz : (str (m : Int)).size = Lib.nDigits m := by rw [str_nat, dstr_size]
        have hL : Lib.nDigits m ≤ 100 := by have := fits_digits ha; simpa using this
        have hL2 : 2 ≤ Lib.nDigits m := by omega
        have hx0 : 0 ≤ (IntKind.u64.wrap n).tmod ((Lib.nDigits m : Int) - 1) := Int.tmod_nonneg _ (Int.emod_nonneg _ (by decide))
        have hx1 : (IntKind.u64.wrap n).tmod ((Lib.nDigits m : Int) - 1) < (Lib.nDigits m : Int) - 1 := Int.tmod_lt_of_pos _ (by omega)
        obtain ⟨x, hx⟩ : ∃ x, (IntKind.u64.wrap n).tmod ((Lib.nDigits m : Int) - 1) = x := ⟨_, rfl⟩
        rw [hx] at hx0 hx1
        obtain ⟨T, hTx⟩ : ∃ T : Nat, (T : Int) = 1 + x := ⟨(1 + x).toNat, by omega⟩
        obtain ⟨P, hP⟩ : ∃ P, 10 ^ (Lib.nDigits m - T) = P := ⟨_, rfl⟩
        obtain ⟨ht1, ht2⟩ := dec_take (m := m) (T := T) (by omega) (by omega)
        rw [hP] at ht1 ht2
        have hP0 : 0 < P := by rw [← hP]; exact Nat.pow_pos (by omega)
        have hPf : Fits (P : Int) := by unfold Fits; rw [Int.natAbs_natCast, ← hP]; exact Nat.pow_lt_pow_right (by omega) (by omega)
        have hmf : m < 10 ^ 100 := by have := ha; unfold Fits at this; simpa using this
        have hFf : Fits ((m / P : Nat) : Int) := by unfold Fits; rw [Int.natAbs_natCast]; exact Nat.lt_of_le_of_lt (Nat.div_le_self _ _) hmf
        have hRf : Fits ((m % P : Nat) : Int) := by unfold Fits; rw [Int.natAbs_natCast]; exact Nat.lt_of_le_of_lt (Nat.mod_le _ _) hmf
        have hHf : Fits ((m / P : Nat) * (P : Int)) := by unfold Fits; rw [← Int.natCast_mul, Int.natAbs_natCast]; exact Nat.lt_of_le_of_lt (Nat.div_mul_le_self _ _) hmf
        have hsum : (m / P : Nat) * (P : Int) + ((m % P : Nat) : Int) = (m : Int) := by rw [← Int.natCast_mul, ← Int.natCast_add, Nat.mul_comm, Nat.div_add_mod]
        have CM := At.two two_mul ht hFf hPf hHf
        have CP := At.two two_add ht hHf hRf (by rw [hsum]; exact ha)
        have CD := At.div ht ha hPf (by omega)
        simp only [hsum] at CP
        rw [show (m : Int).tdiv (P : Int) = ((m / P : Nat) : Int) from rfl, show (m : Int).tmod (P : Int) = ((m % P : Nat) : Int) from rfl] at CD
        rw [str_nat (m / P), str_nat (m % P), str_nat P] at CD
        rw [str_nat (m / P), str_nat P] at CM
        rw [str_nat (m % P)] at CP
        have eK : dstr P = dstr (10 ^ ((str (m : Int)).size - T)) := by rw [hsz, hP]
        rw [eK] at CM CD
        refine parts_good (T := T) (g := fun j => dstr (10 ^ j)) (by omega) (by omega) hm ?_ (by omega) (by omega) dstr_zero_one (Lib.hid dstr_ten) (Lib.hid (fun j => by rw [dstr_size, nDigits_ten])) (F := dstr (m / P)) ?_ (Lw := dstr (m % P)) (Lib.hid ?_) CA (Lib.hid GA) (Lib.hid CM) (Lib.hid CP) (Lib.hid CD)
        · rw [hsz, hx, hTx]
          unfold wrap64
          omega
        · refine WideShapes.bytes_inj ?_
          rw [Lib.extract_from_zero, str_nat, dstr_list, dstr_list, ht1]
        · rw [str_nat, dstr_list, dstr_list, ← ht2]
          refine bareL_dec ((digs_decDigits m).drop T) (fun h => ?_)
          have := congrArg List.length h
          rw [List.length_drop, Lib.decDigits_length] at this
          simp at this
          omega
end Go.Proofs.YtlilojaefpnkmaaDoor
