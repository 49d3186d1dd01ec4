/- NumLong. -/
import Derived.Test.YtlilojaefpnkmaaDoorParts
import Derived.Deep.RegionHeld3
namespace Go.Proofs.YtlilojaefpnkmaaDoor
open Go.RowKit
set_option linter.unusedVariables false

set_option maxRecDepth 100000 in
set_option maxHeartbeats 2000000 in
theorem long_good {w : World} {S C M S9 P1 P2 P3 P4 R : ByteArray} {d n : Int} {k : Nat} {b : UInt8} {g : Nat → ByteArray} (hg0 : Hid (g 0 = ⟨#[]⟩)) (hgs : Hid (∀ j, g j ++ ⟨#[57]⟩ = g (j + 1))) (hgl : Hid (∀ j, (g j).size = j)) (hS : Hid (g 100 = S)) (hS9 : S ++ ⟨#[57]⟩ = S9) (hM : (⟨#[45]⟩ : ByteArray) ++ S = M)
    (hd : 0 ≤ d) (hd2 : d < 256) (hbd : Hid (49 + d % 9 = (b.toNat : Int))) (hC : Hid ((⟨#[b]⟩ : ByteArray) = C)) (hk : wrap64 ((IntKind.u64.wrap n).tmod 50) = (k : Int)) (hk50 : k < 50) (h1 : S.extract 0 (50 + k) = P1) (h2 : S.extract 0 (50 - k) = P2) (h3 : S.extract 0 50 = P3) (h4 : S.extract 0 51 = P4) (hR : R.size = 100)
    (CA : Hid (At w 10 #[] (.bool true))) (GA : Hid (At w 13 #[.string S] (.bool true))) (GB : Hid (At w 13 #[.string S9] (.bool false)))
    (C1 : Hid (At w 11 #[.string S, .string C] (.tuple #[.string ⟨#[]⟩, .int .i64 3]))) (C2 : Hid (At w 12 #[.string M, .string C] (.tuple #[.string ⟨#[]⟩, .int .i64 3]))) (C3 : Hid (At w 19 #[.string S, .string ⟨#[49, 48]⟩] (.tuple #[.string ⟨#[]⟩, .int .i64 3])))
    (C4 : Hid (At w 19 #[.string P1, .string P2] (.tuple #[.string R, .int .i64 0]))) (C5 : Hid (At w 19 #[.string P3, .string P4] (.tuple #[.string ⟨#[]⟩, .int .i64 3]))) :
    At w 7 #[.int .u8 d, .int .i64 n] (.bool true) := by
  intro W hb
  have hsz : S.size = 100 := by rw [← hS.out, hgl.out]
  have hcv : ∀ W : World, (convert 43 9 (.slice (some ⟨W.heap.size, 0, none⟩) 1 1)).run Tryd.prog (W.alloc (.cells #[.int .u8 (49 + d % 9)] 5)) = .ok (.string C) (W.alloc (.cells #[.int .u8 (49 + d % 9)] 5)) := fun W => by rw [← hC.out]; exact one_byte W _ b hbd.out
  go_enter Tryd.func7, Tryd.ntmps7
  go_wp2_with fail
  go_at_call 10; refine (CA.out _ hb).mono ?_; rintro e W1 ⟨rfl, hb⟩
  go_wp2
  go_loop [5, 6] (fun sv iv => ∃ j : Nat, sv = .string (g j) ∧ iv = .int .i64 (j : Int) ∧ j ≤ 100) (fun _ iv => 100 - (intOf iv).toNat)
  case atStart => exact ⟨0, by rw [hg0.out], rfl, by omega⟩
  case round =>
    obtain ⟨j, rfl, rfl, hj⟩ := hrel
    by_cases hlt : j < 100
    · have hg1 := hgl.out j
      have hg2 := hgs.out j
      go_wp2
      go_round
      case rel => exact ⟨j + 1, rfl, by go_num, by omega⟩
      case measure => simp [intOf]; omega
    · obtain rfl : j = 100 := by omega
      have hgj := hS.out
      go_wp2_with fail
      have hb := hb.alloc hb.size (.cells #[.int .u8 (49 + d % 9)] 5)
      go_at_call 11; refine (C1.out _ hb).mono ?_; rintro e W1 ⟨rfl, hb⟩
      go_wp2_with fail
      go_at_call 12; refine (C2.out _ hb).mono ?_; rintro e W1 ⟨rfl, hb⟩
      go_wp2_with fail
      go_at_call 19; refine (C3.out _ hb).mono ?_; rintro e W1 ⟨rfl, hb⟩
      go_wp2_with fail
      have hb := hb.drew
      have hi1 : (0 : Int) ≤ 50 + (k : Int) := by omega
      have hi2 : (50 : Int) + (k : Int) ≤ 100 := by omega
      have hi3 : (0 : Int) ≤ 50 - (k : Int) := by omega
      have hi4 : (50 : Int) - (k : Int) ≤ 100 := by omega
      have hw1 : IntKind.i64.wrap (50 + (k : Int)) = 50 + (k : Int) := by simp [IntKind.wrap, IntKind.bits, IntKind.signed]; omega
      have hw2 : IntKind.i64.wrap (50 - (k : Int)) = 50 - (k : Int) := by simp [IntKind.wrap, IntKind.bits, IntKind.signed]; omega
      have hsl1 : ∀ W, (Instr.sliceAt 9 (.string S) none (some (.int .i64 (50 + (k : Int)))) none).run Tryd.prog W = .ok (.string P1) W := fun W => by
        go_simp
        rw [show (50 + (k : Int)).toNat = 50 + k by omega]
        exact h1
      have hsl2 : ∀ W, (Instr.sliceAt 9 (.string S) none (some (.int .i64 (50 - (k : Int)))) none).run Tryd.prog W = .ok (.string P2) W := fun W => by
        go_simp
        intro h
        omega
      go_region_held3 (fun _ => True) (first | trivial)
        (first
          | (go_at_call 19; refine (C4.out _ hb).mono ?_; rintro e W2 ⟨rfl, hb⟩))
      go_wp2_with fail
      have hb := hb.drew
      go_region_held3 (fun _ => True) (first | trivial)
        (first
          | (go_at_call 19; refine (C5.out _ hb).mono ?_; rintro e W2 ⟨rfl, hb⟩))
      go_wp2_with fail
      go_at_call 13; refine (GA.out _ hb).mono ?_; rintro e W1 ⟨rfl, hb⟩
      go_wp2_with fail
      go_at_call 13; refine (GB.out _ hb).mono ?_; rintro e W1 ⟨rfl, hb⟩
      go_wp2
      refine bodyPost_ret (v := .bool true) ?_ rfl ⟨rfl, hb⟩
      simp [results, Tryd.results7, go_sem]

/-- A text of nines. -/
def nines (j : Nat) : ByteArray := ⟨(List.replicate j 57).toArray⟩
theorem nines_list (j : Nat) : (nines j).data.toList = List.replicate j 57 := by simp [nines]
theorem nines_size (j : Nat) : (nines j).size = j := by rw [← bytes_len, nines_list, List.length_replicate]
theorem nines_step (j : Nat) : nines j ++ ⟨#[57]⟩ = nines (j + 1) := WideShapes.bytes_inj (by rw [snoc_list, nines_list, nines_list, List.replicate_succ'])
theorem nines_val (j : Nat) : dval (List.replicate j 57) + 1 = 10 ^ j := by
  induction j with
  | zero => rfl
  | succ j ih =>
    rw [List.replicate_succ', dval_snoc, Nat.pow_succ, ← ih]
    simp
    omega
theorem nines_str {j : Nat} (hj : 1 ≤ j) : nines j = dstr (10 ^ j - 1) := by
  refine WideShapes.bytes_inj ?_
  rw [nines_list, dstr_list, ← nines_val, Nat.add_sub_cancel]
  refine (decDigits_dval ⟨fun c hc => ?_, fun h => ?_, fun _ h => ?_⟩).symm
  · rw [List.eq_of_mem_replicate hc]; decide
  · have := congrArg List.length h; simp at this; omega
  · obtain ⟨i, rfl⟩ : ∃ i, j = i + 1 := ⟨j - 1, by omega⟩
    simp [List.replicate_succ] at h
theorem nines_cut {i j : Nat} (h : i ≤ j) : (nines j).extract 0 i = nines i := WideShapes.bytes_inj (by rw [Lib.extract_from_zero, nines_list, nines_list, List.take_replicate, Nat.min_eq_left h])
theorem long_prod {k : Nat} (hk : k < 50) : 10 ^ 99 ≤ (10 ^ (50 + k) - 1) * (10 ^ (50 - k) - 1) ∧ (10 ^ (50 + k) - 1) * (10 ^ (50 - k) - 1) < 10 ^ 100 := by
  have h1 : 10 ^ (50 + k) * 10 ^ (50 - k) = 10 ^ 100 := by rw [← Nat.pow_add]; congr 1; omega
  have h2 : 10 ^ (50 + k) ≤ 10 ^ 99 := Nat.pow_le_pow_right (by omega) (by omega)
  have h3 : 10 ^ (50 - k) ≤ 10 ^ 50 := Nat.pow_le_pow_right (by omega) (by omega)
  have h4 : 0 < 10 ^ (50 + k) := Nat.pow_pos (by omega)
  have h5 : 0 < 10 ^ (50 - k) := Nat.pow_pos (by omega)
  generalize 10 ^ (50 + k) = A at h1 h2 h4 ⊢
  generalize 10 ^ (50 - k) = B at h1 h3 h5 ⊢
  obtain ⟨a, rfl⟩ : ∃ a, A = a + 1 := ⟨A - 1, by omega⟩
  obtain ⟨b, rfl⟩ : ∃ b, B = b + 1 := ⟨B - 1, by omega⟩
  rw [Nat.add_sub_cancel, Nat.add_sub_cancel]
  have h6 : (a + 1) * (b + 1) = a * b + a + b + 1 := by rw [Nat.add_mul, Nat.mul_add]; omega
  rw [h6] at h1
  omega

set_option maxRecDepth 100000 in
theorem long_any {w : World} (ht : Tab w.heap.size w) (d n : Int) (hd : (Lit.int .u8 d).wf = true) (_ : (Lit.int .i64 n).wf = true) : At w 7 #[.int .u8 d, .int .i64 n] (.bool true) := by
  obtain ⟨hd0, hd1⟩ : 0 ≤ d ∧ d < 256 := by simp [Lit.wf, IntKind.min, IntKind.max, IntKind.signed, IntKind.bits] at hd; omega
  have hN : nines 100 = str (((10 ^ 100 - 1 : Nat)) : Int) := by rw [nines_str (by omega), str_nat]
  have fN : Fits (((10 ^ 100 - 1 : Nat)) : Int) := by unfold Fits; omega
  obtain ⟨c, hc⟩ : ∃ c : Nat, (c : Int) = 1 + d % 9 := ⟨(1 + d % 9).toNat, by omega⟩
  have hc1 : 1 ≤ c := by omega
  have hc9 : c ≤ 9 := by omega
  have fC : Fits (c : Int) := by unfold Fits; omega
  have hC : (⟨#[UInt8.ofNat (48 + c)]⟩ : ByteArray) = str (c : Int) := by rw [str_nat]; unfold dstr; rw [Lib.decDigits_one (by omega)]
  have f10 : Fits 10 := by decide
  have h10 : (⟨#[49, 48]⟩ : ByteArray) = str 10 := by rw [show (10 : Int) = ((10 : Nat) : Int) from rfl, str_nat]; unfold dstr; rw [Lib.decDigits_two (by omega) (by omega)]; rfl
  have hM : (⟨#[45]⟩ : ByteArray) ++ nines 100 = str (-((10 ^ 100 - 1 : Nat) : Int)) := by rw [str_minus (by omega), nines_str (by omega)]; congr 2
  have hk0 : 0 ≤ (IntKind.u64.wrap n).tmod 50 := Int.tmod_nonneg _ (Int.emod_nonneg _ (by decide))
  have hk1 : (IntKind.u64.wrap n).tmod 50 < 50 := Int.tmod_lt_of_pos _ (by omega)
  obtain ⟨k, hk⟩ : ∃ k : Nat, (k : Int) = (IntKind.u64.wrap n).tmod 50 := ⟨((IntKind.u64.wrap n).tmod 50).toNat, by omega⟩
  have hk50 : k < 50 := by omega
  have CA := Lib.hid (At.awake ht)
  have GA := At.good (w := w) (nines 100)
  have GB := At.good (w := w) (nines 101)
  rw [hN, good_str, decide_eq_true fN, ← hN] at GA
  rw [nines_str (by omega), ← str_nat, good_str, decide_eq_false (by unfold Fits; omega), str_nat, ← nines_str (by omega)] at GB
  have C1 := At.long two_add ht fN fC (by unfold Fits; omega)
  have C2 := At.long two_sub ht (a := -((10 ^ 100 - 1 : Nat) : Int)) fN.neg fC (by unfold Fits; omega)
  have C3 := At.long two_mul ht fN f10 (by unfold Fits; omega)
  rw [← hN, ← hC] at C1
  rw [← hM, ← hC] at C2
  rw [← hN, ← h10] at C3
  obtain ⟨q1, q2⟩ := long_prod hk50
  have fP : ∀ j, j ≤ 100 → Fits ((10 ^ j - 1 : Nat) : Int) := fun j hj => by
    have : 10 ^ j ≤ 10 ^ 100 := Nat.pow_le_pow_right (by omega) hj
    unfold Fits
    rw [Int.natAbs_natCast]
    omega
  have C4 := At.two two_mul ht (fP (50 + k) (by omega)) (fP (50 - k) (by omega)) (by unfold Fits; rw [← Int.natCast_mul, Int.natAbs_natCast]; exact q2)
  simp only [← Int.natCast_mul] at C4
  rw [str_nat, str_nat, str_nat, ← nines_str (by omega), ← nines_str (by omega)] at C4
  have C5 := At.long two_mul ht (fP 50 (by omega)) (fP 51 (by omega)) (by unfold Fits; rw [← Int.natCast_mul, Int.natAbs_natCast]; omega)
  rw [str_nat, str_nat, ← nines_str (by omega), ← nines_str (by omega)] at C5
  refine long_good (S := nines 100) (C := ⟨#[UInt8.ofNat (48 + c)]⟩) (S9 := nines 101) (M := ⟨#[45]⟩ ++ nines 100) (k := k) (b := UInt8.ofNat (48 + c)) (g := nines) (P1 := nines (50 + k)) (P2 := nines (50 - k)) (P3 := nines 50) (P4 := nines 51) (R := dstr ((10 ^ (50 + k) - 1) * (10 ^ (50 - k) - 1))) (Lib.hid rfl) (Lib.hid nines_step) (Lib.hid nines_size) (Lib.hid rfl) (nines_step 100) rfl hd0 hd1 (Lib.hid ?_) (Lib.hid rfl) ?_ hk50 (nines_cut (by omega)) (nines_cut (by omega)) (nines_cut (by omega)) (nines_cut (by omega)) ?_ CA (Lib.hid GA) (Lib.hid GB) (Lib.hid C1) (Lib.hid C2) (Lib.hid C3) (Lib.hid C4) (Lib.hid C5)
  · rw [ofNat_toNat (by omega)]; omega
  · rw [← hk]; unfold wrap64; omega
  · rw [dstr_size]
    exact Nat.le_antisymm (nDigits_le (by omega) q2) (nDigits_ge q1)
end Go.Proofs.YtlilojaefpnkmaaDoor
