/- Plain mathematics of the document's own answers, second part: which numeral is the lesser, and what times and parted go through. It speaks of no program. -/
import Derived.Test.YtlilojaefpnkmaaDoorRefMath
namespace Go.Proofs.YtlilojaefpnkmaaDoor
open Go.Lib

theorem uint8_lt (a b : UInt8) : a < b ↔ a.toNat < b.toNat := Iff.rfl
/-- Of digits of one length the lesser as a text is the lesser as a number. -/
theorem digs_lt {a b : List UInt8} (ha : Digs a) (hb : Digs b) (hl : a.length = b.length) : a < b ↔ dval a < dval b := by
  induction a generalizing b with
  | nil =>
    cases b with
    | nil => simp
    | cons y b => simp at hl
  | cons x a ih =>
    cases b with
    | nil => simp at hl
    | cons y b =>
      have hx := ha x (by simp)
      have hy := hb y (by simp)
      have ha' : Digs a := fun c hc => ha c (List.mem_cons_of_mem _ hc)
      have hb' : Digs b := fun c hc => hb c (List.mem_cons_of_mem _ hc)
      have hl' : a.length = b.length := by simpa using hl
      have h1 := dval_lt ha'
      have h2 := dval_lt hb'
      rw [List.cons_lt_cons_iff, ih ha' hb' hl', dval_cons, dval_cons, hl', uint8_lt, ← UInt8.toNat_inj]
      rw [hl'] at h1
      obtain ⟨P, hP⟩ : ∃ P, 10 ^ b.length = P := ⟨_, rfl⟩
      rw [hP] at h1 h2 ⊢
      rcases Nat.lt_trichotomy x.toNat y.toNat with h | h | h
      · have : (x.toNat - 48) * P + P ≤ (y.toNat - 48) * P := by
          rw [← Nat.succ_mul]; exact Nat.mul_le_mul_right _ (by omega)
        exact ⟨fun _ => by omega, fun _ => .inl h⟩
      · rw [h]
        constructor
        · rintro (h' | ⟨-, h'⟩)
          · omega
          · omega
        · intro h'; exact .inr ⟨rfl, by omega⟩
      · have : (y.toNat - 48) * P + P ≤ (x.toNat - 48) * P := by
          rw [← Nat.succ_mul]; exact Nat.mul_le_mul_right _ (by omega)
        constructor
        · rintro (h' | ⟨h', -⟩)
          · omega
          · omega
        · intro h'; omega
theorem nDigits_mono {m n : Nat} (h : m ≤ n) : nDigits m ≤ nDigits n := nDigits_le (nDigits_pos n) (Nat.lt_of_le_of_lt h (lt_pow_nDigits n))
theorem nDigits_lt {m n : Nat} (h : nDigits m < nDigits n) : m < n := by
  rcases Nat.lt_or_ge m n with h' | h'
  · exact h'
  · have := nDigits_mono h'; omega
theorem dec_lt {m n : Nat} (h : nDigits m = nDigits n) : decDigits m < decDigits n ↔ m < n := by
  rw [digs_lt (digs_decDigits m) (digs_decDigits n) (by rw [decDigits_length, decDigits_length, h]), dval_decDigits, dval_decDigits]

/-- A numeral's digit at a place. -/
theorem dec_at (m i : Nat) (h : i < nDigits m) : ((decDigits m)[nDigits m - 1 - i]'(by rw [decDigits_length]; omega)).toNat - 48 = m / 10 ^ i % 10 ∧ 48 ≤ ((decDigits m)[nDigits m - 1 - i]'(by rw [decDigits_length]; omega)).toNat ∧ ((decDigits m)[nDigits m - 1 - i]'(by rw [decDigits_length]; omega)).toNat ≤ 57 := by
  have h1 := digR_dval (digs_decDigits m) i
  rw [dval_decDigits] at h1
  refine ⟨?_, digs_decDigits m _ (List.getElem_mem _)⟩
  rw [← h1]
  have e : (decDigits m).length - 1 - i = nDigits m - 1 - i := by rw [decDigits_length]
  have h2 : (decDigits m).reverse[i]? = (decDigits m)[nDigits m - 1 - i]? := by rw [← e]; exact List.getElem?_reverse (by rw [decDigits_length]; exact h)
  have h3 : (decDigits m)[nDigits m - 1 - i]? = some ((decDigits m)[nDigits m - 1 - i]'(by rw [decDigits_length]; omega)) := List.getElem?_eq_getElem _
  unfold digR
  rw [h2, h3]
theorem dec_beyond (m i : Nat) (h : nDigits m ≤ i) : m / 10 ^ i % 10 = 0 := by
  have h1 := lt_pow_nDigits m
  have h2 : m < 10 ^ i := Nat.lt_of_lt_of_le h1 (Nat.pow_le_pow_right (by omega) h)
  rw [Nat.div_eq_of_lt h2]

/-- The number of a numeral's first k digits. -/
def front (m k : Nat) : Nat := m / 10 ^ (nDigits m - k)
theorem front_zero (m : Nat) : front m 0 = 0 := Nat.div_eq_of_lt (by have := lt_pow_nDigits m; simpa [front] using this)
theorem front_all (m : Nat) : front m (nDigits m) = m := by simp [front]
theorem front_succ {m k : Nat} (h : k < nDigits m) : front m (k + 1) = front m k * 10 + (((decDigits m)[k]'(by rw [decDigits_length]; exact h)).toNat - 48) := by
  have h1 := (dec_at m (nDigits m - 1 - k) (by omega)).1
  have e : nDigits m - 1 - (nDigits m - 1 - k) = k := by omega
  simp only [e] at h1
  rw [h1]
  unfold front
  rw [show nDigits m - k = nDigits m - 1 - k + 1 by omega, show nDigits m - (k + 1) = nDigits m - 1 - k by omega, Nat.pow_succ, Nat.mul_comm (10 ^ _) 10, Nat.mul_comm 10 (10 ^ _), ← Nat.div_div_eq_div_mul]
  omega
theorem front_le (m k : Nat) : front m k ≤ m := Nat.div_le_self _ _
end Go.Proofs.YtlilojaefpnkmaaDoor
