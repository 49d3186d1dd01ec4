/- Plain mathematics of the document's own answers: what is written digit by digit. It speaks of no program. -/
import Derived.Test.YtlilojaefpnkmaaDoorDigits
namespace Go.Proofs.YtlilojaefpnkmaaDoor
open Go.Lib

/-- A numeral without the 0s at its front. -/
def bareL : List UInt8 → List UInt8
  | [] => []
  | [c] => [c]
  | c :: d :: l => if c = 48 then bareL (d :: l) else c :: d :: l
theorem dval_cons (c : UInt8) (l : List UInt8) : dval (c :: l) = (c.toNat - 48) * 10 ^ l.length + dval l := by
  have := dval_append [c] l
  rw [List.singleton_append] at this
  rw [this]
  simp [dval]
theorem bareL_dec {l : List UInt8} (h : Digs l) (hne : l ≠ []) : bareL l = decDigits (dval l) := by
  induction l with
  | nil => exact absurd rfl hne
  | cons c l ih =>
    cases l with
    | nil => exact (decDigits_dval ⟨h, by simp, fun h2 => by simp at h2⟩).symm
    | cons d l =>
      unfold bareL
      by_cases hc : c = 48
      · rw [if_pos hc, ih (fun x hx => h x (List.mem_cons_of_mem _ hx)) (by simp), hc, dval_cons 48]
        simp
      · rw [if_neg hc]
        exact (decDigits_dval ⟨h, by simp, fun _ => by simpa using hc⟩).symm

/-- The digit at place i from the right; 0 beyond. -/
def digR (l : List UInt8) (i : Nat) : Nat := match l.reverse[i]? with | some c => c.toNat - 48 | none => 0
theorem digR_dval {l : List UInt8} (h : Digs l) : ∀ i, digR l i = dval l / 10 ^ i % 10 := by
  revert h
  refine snoc_ind (P := fun l => Digs l → ∀ i, digR l i = dval l / 10 ^ i % 10) ?_ ?_ l
  · intro _ i
    simp [digR, dval]
  · intro l c ih hd i
    have hc := hd c (by simp)
    rw [dval_snoc]
    cases i with
    | zero =>
      simp only [digR, List.reverse_append, List.reverse_singleton, List.singleton_append, List.getElem?_cons_zero, Nat.pow_zero, Nat.div_one]
      omega
    | succ i =>
      have h1 := ih hd.left i
      have h2 : digR (l ++ [c]) (i + 1) = digR l i := by
        simp only [digR, List.reverse_append, List.reverse_singleton, List.singleton_append, List.getElem?_cons_succ]
      rw [h2, h1, Nat.pow_succ, Nat.mul_comm (10 ^ i) 10, ← Nat.div_div_eq_div_mul]
      congr 2
      omega

/-- What paper has written of a sum behind i places. -/
def SumIs (m n i : Nat) (out : List UInt8) (carry : Nat) : Prop := Digs out ∧ out.length = i ∧ carry ≤ 1 ∧ dval out + carry * 10 ^ i = m % 10 ^ i + n % 10 ^ i
theorem sum_start (m n : Nat) : SumIs m n 0 [] 0 := ⟨fun _ h => by simp at h, rfl, by omega, by simp [dval, Nat.mod_one]⟩
theorem sum_step {m n i carry d : Nat} {out : List UInt8} (h : SumIs m n i out carry) (hd : d = m / 10 ^ i % 10 + n / 10 ^ i % 10 + carry) : SumIs m n (i + 1) (UInt8.ofNat (48 + d % 10) :: out) (d / 10) := by
  obtain ⟨h1, h2, h3, h4⟩ := h
  have hb : (UInt8.ofNat (48 + d % 10)).toNat = 48 + d % 10 := ofNat_toNat (by omega)
  have h19 : d / 10 ≤ 1 := by omega
  refine ⟨?_, by simp [h2], h19, ?_⟩
  · intro c hc
    rcases List.mem_cons.1 hc with rfl | hc
    · rw [hb]; omega
    · exact h1 c hc
  · rw [dval_cons, hb, h2, Nat.mod_pow_succ, Nat.mod_pow_succ, Nat.add_sub_cancel_left]
    have e1 : 10 ^ i * (m / 10 ^ i % 10) + 10 ^ i * (n / 10 ^ i % 10) + carry * 10 ^ i = d * 10 ^ i := by
      rw [hd, Nat.add_mul, Nat.add_mul, Nat.mul_comm (10 ^ i), Nat.mul_comm (10 ^ i)]
    have e2 : d * 10 ^ i = (d % 10) * 10 ^ i + d / 10 * 10 ^ (i + 1) := by
      rw [Nat.pow_succ, Nat.mul_comm (10 ^ i) 10, ← Nat.mul_assoc, ← Nat.add_mul]
      congr 1
      omega
    omega
theorem sum_end {m n i : Nat} {out : List UInt8} (h : SumIs m n i out 0) (hm : m < 10 ^ i) (hn : n < 10 ^ i) : dval out = m + n := by
  obtain ⟨-, -, -, h4⟩ := h
  rw [Nat.mod_eq_of_lt hm, Nat.mod_eq_of_lt hn] at h4
  omega

/-- What paper has written of a difference behind i places. -/
def DiffIs (m n i : Nat) (out : List UInt8) (borrow : Nat) : Prop := Digs out ∧ out.length = i ∧ borrow ≤ 1 ∧ dval out + n % 10 ^ i = m % 10 ^ i + borrow * 10 ^ i
theorem diff_start (m n : Nat) : DiffIs m n 0 [] 0 := ⟨fun _ h => by simp at h, rfl, by omega, by simp [dval, Nat.mod_one]⟩
theorem diff_step {m n i borrow d b' : Nat} {out : List UInt8} (h : DiffIs m n i out borrow) (hd : d + (n / 10 ^ i % 10) + borrow = m / 10 ^ i % 10 + 10 * b') (hb' : b' ≤ 1) (hd9 : d < 10) : DiffIs m n (i + 1) (UInt8.ofNat (48 + d) :: out) b' := by
  obtain ⟨h1, h2, h3, h4⟩ := h
  have hb : (UInt8.ofNat (48 + d)).toNat = 48 + d := ofNat_toNat (by omega)
  refine ⟨?_, by simp [h2], hb', ?_⟩
  · intro c hc
    rcases List.mem_cons.1 hc with rfl | hc
    · rw [hb]; omega
    · exact h1 c hc
  · rw [dval_cons, hb, h2, Nat.mod_pow_succ, Nat.mod_pow_succ, Nat.add_sub_cancel_left]
    have e1 : d * 10 ^ i + 10 ^ i * (n / 10 ^ i % 10) + borrow * 10 ^ i = 10 ^ i * (m / 10 ^ i % 10) + b' * 10 ^ (i + 1) := by
      rw [Nat.pow_succ, Nat.mul_comm (10 ^ i) (n / 10 ^ i % 10), Nat.mul_comm (10 ^ i) (m / 10 ^ i % 10), ← Nat.add_mul, ← Nat.add_mul, hd, Nat.add_mul, Nat.mul_comm 10 b', Nat.mul_assoc, Nat.mul_comm 10 (10 ^ i)]
    omega
theorem diff_end {m n i : Nat} {out : List UInt8} (h : DiffIs m n i out 0) (hm : m < 10 ^ i) (hn : n ≤ m) : dval out = m - n := by
  obtain ⟨-, -, -, h4⟩ := h
  rw [Nat.mod_eq_of_lt hm, Nat.mod_eq_of_lt (Nat.lt_of_le_of_lt hn hm)] at h4
  omega
/-- When the last place is done nothing is owed. -/
theorem diff_owed {m n i b : Nat} {out : List UInt8} (h : DiffIs m n i out b) (hm : m < 10 ^ i) (hn : n ≤ m) : b = 0 := by
  obtain ⟨h1, h2, h3, h4⟩ := h
  have := dval_lt h1
  rw [h2] at this
  rw [Nat.mod_eq_of_lt hm, Nat.mod_eq_of_lt (Nat.lt_of_le_of_lt hn hm)] at h4
  rcases Nat.eq_zero_or_pos b with h0 | h0
  · exact h0
  · obtain rfl : b = 1 := by omega
    omega
end Go.Proofs.YtlilojaefpnkmaaDoor
