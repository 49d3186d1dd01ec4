/- The texts of numbers. -/
import Derived.Test.YthmojhfakmdlfaaDoorWalkWhole
import Derived.Test.YthmojhfakmdlfaaDoorWalkG
namespace Go.Proofs.YthmojhfakmdlfaaDoor
open Go.RowKit

/-- A number's text. -/
def str (n : Int) : ByteArray := ⟨(Lib.itoa n).toArray⟩
theorem str_list (n : Int) : (str n).data.toList = Lib.itoa n := by simp [str]
theorem str_of {s : ByteArray} {n : Int} (h : s.data.toList = Lib.itoa n) : s = str n := by
  unfold str
  rw [← h]
theorem digitsOf_itoa (n : Int) : digitsOf (Lib.itoa n) = Lib.decDigits n.natAbs := by
  unfold digitsOf Lib.itoa
  split
  · rfl
  · rename_i h0
    rw [show n.toNat = n.natAbs by omega]
    rcases trim_minus (Lib.decDigits n.natAbs) with ⟨r, h, -, -⟩ | ⟨-, h, -⟩
    · exact absurd (by rw [h]; rfl) (dec_minus n.natAbs)
    · exact h
theorem prefix_itoa (n : Int) : Lib.hasPrefix (Lib.itoa n) [45] = decide (n < 0) := by
  unfold Lib.itoa
  split
  · rename_i h; rw [decide_eq_true h]; rfl
  · rename_i h
    rw [decide_eq_false h, show n.toNat = n.natAbs by omega]
    rcases trim_minus (Lib.decDigits n.natAbs) with ⟨r, h, -, -⟩ | ⟨-, -, h⟩
    · exact absurd (by rw [h]; rfl) (dec_minus n.natAbs)
    · exact h
theorem textVal_itoa (n : Int) : textVal (Lib.itoa n) = n := by
  unfold textVal
  rw [prefix_itoa, digitsOf_itoa, dval_decDigits, sg_self]
theorem itoa_inj {a b : Int} (h : Lib.itoa a = Lib.itoa b) : a = b := by rw [← textVal_itoa a, h, textVal_itoa]
theorem str_inj {a b : Int} (h : str a = str b) : a = b := itoa_inj (by rw [← str_list, h, str_list])
theorem fits_digits {n : Int} (h : Fits n) : Lib.nDigits n.natAbs ≤ 100 := nDigits_le (by omega) h
theorem fits_limbs {x k : Nat} (h : x < 10 ^ (9 * k)) : (limbs x).length ≤ k := limbs_length (by rw [show (1000000000 : Nat) = 10 ^ 9 by rfl, ← Nat.pow_mul]; exact h)
theorem Fits.limbs {n : Int} (h : Fits n) : (limbs n.natAbs).length ≤ 12 := fits_limbs (Nat.lt_of_lt_of_le h (Nat.pow_le_pow_right (by omega) (by omega)))
theorem Fits.room {n : Int} (h : Fits n) : Room n := Nat.le_trans h.limbs (by omega)
instance (n : Int) : Decidable (Fits n) := by unfold Fits; infer_instance
theorem good_str (n : Int) : goodB (str n).data.toList = decide (Fits n) := by
  rw [str_list]
  by_cases h : Fits n
  · rw [decide_eq_true h]; exact (good_iff _).2 ⟨n, h, rfl⟩
  · rw [decide_eq_false h]
    cases hg : goodB (Lib.itoa n) with
    | false => rfl
    | true =>
      obtain ⟨m, hm, e⟩ := (good_iff _).1 hg
      rw [itoa_inj e] at h
      exact absurd hm h
theorem good_cases (s : ByteArray) : goodB s.data.toList = false ∨ ∃ n, Fits n ∧ s = str n := by
  cases hg : goodB s.data.toList with
  | false => exact .inl rfl
  | true =>
    obtain ⟨m, hm, e⟩ := (good_iff _).1 hg
    exact .inr ⟨m, hm, str_of e⟩
theorem read_str {n : Int} (h : Fits n) (w : World) : Calls Tryd.prog 56 #[.string (str n)] w fun e w' => MakesW w.heap.size w.heap.size w n e w' := by
  have := read_any (str n) w (by rw [str_list, digitsOf_itoa]; exact digs_decDigits _) (by rw [str_list, digitsOf_itoa, Lib.decDigits_length]; exact Nat.le_trans (fits_digits h) (by omega))
  rw [str_list, textVal_itoa] at this
  exact this
theorem Fits.add {a b : Int} (ha : Fits a) (hb : Fits b) : Room (a + b) := by
  refine Nat.le_trans (fits_limbs (k := 12) ?_) (by omega)
  have h1 : (a + b).natAbs < 10 ^ 101 := by unfold Fits at ha hb; omega
  exact Nat.lt_of_lt_of_le h1 (Nat.pow_le_pow_right (by omega) (by omega))
theorem Fits.sub {a b : Int} (ha : Fits a) (hb : Fits b) : Room (a - b) := by
  refine Nat.le_trans (fits_limbs (k := 12) ?_) (by omega)
  have h1 : (a - b).natAbs < 10 ^ 101 := by unfold Fits at ha hb; omega
  exact Nat.lt_of_lt_of_le h1 (Nat.pow_le_pow_right (by omega) (by omega))
theorem Fits.mul {a b : Int} (ha : Fits a) (hb : Fits b) : Room (a * b) := by
  refine Nat.le_trans (fits_limbs (k := 23) ?_) (by omega)
  have h1 : (a * b).natAbs < 10 ^ 100 * 10 ^ 100 := by rw [Int.natAbs_mul]; exact Nat.mul_lt_mul'' ha hb
  exact Nat.lt_of_lt_of_le (by rw [← Nat.pow_add] at h1; exact h1) (Nat.pow_le_pow_right (by omega) (by omega))
theorem Fits.tdiv {a b : Int} (ha : Fits a) : Fits (a.tdiv b) := by
  unfold Fits at *
  rw [Int.natAbs_tdiv]
  exact Nat.lt_of_le_of_lt (Nat.div_le_self _ _) ha
theorem Fits.tmod {a b : Int} (ha : Fits a) : Fits (a.tmod b) := by
  unfold Fits at *
  rw [Int.natAbs_tmod]
  exact Nat.lt_of_le_of_lt (Nat.mod_le _ _) ha
end Go.Proofs.YthmojhfakmdlfaaDoor
