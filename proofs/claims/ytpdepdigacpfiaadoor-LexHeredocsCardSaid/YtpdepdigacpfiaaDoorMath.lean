/- Plain mathematics for package num: numbers as limbs of nine digits, the lowest first, and as decimal texts. It speaks of no program. -/
import Derived.Lib.ItoaNum
import Derived.Lib.ItoaMem
namespace Go.Proofs.YtpdepdigacpfiaaDoor
open Go.Lib

/-- A number's limbs, the lowest first; 0 has none. -/
def limbs (n : Nat) : List Nat := if h : n = 0 then [] else (n % 1000000000) :: limbs (n / 1000000000)
termination_by n
decreasing_by omega

/-- What limbs say. -/
def lval : List Nat → Nat
  | [] => 0
  | x :: r => x + 1000000000 * lval r

theorem limbs_zero : limbs 0 = [] := by rw [limbs]; simp
theorem limbs_pos {n : Nat} (h : n ≠ 0) : limbs n = (n % 1000000000) :: limbs (n / 1000000000) := by rw [limbs]; simp [h]

theorem lval_limbs (n : Nat) : lval (limbs n) = n := by
  induction n using Nat.strongRecOn with
  | _ n ih =>
    by_cases h : n = 0
    · subst h; rw [limbs_zero]; rfl
    · rw [limbs_pos h, lval, ih (n / 1000000000) (by omega)]; omega

theorem limbs_lt (n : Nat) : ∀ x ∈ limbs n, x < 1000000000 := by
  induction n using Nat.strongRecOn with
  | _ n ih =>
    by_cases h : n = 0
    · subst h; rw [limbs_zero]; simp
    · rw [limbs_pos h]
      intro x hx
      rcases List.mem_cons.1 hx with rfl | hx
      · omega
      · exact ih (n / 1000000000) (by omega) x hx

theorem getD_in {l : List Nat} {i : Nat} (h : i < l.length) : l.getD i 0 = l[i] := by simp [List.getD, h]
theorem getD_out {l : List Nat} {i : Nat} (h : l.length ≤ i) : l.getD i 0 = 0 := by simp [List.getD, h]
/-- No limb is too great. -/
def Low (l : List Nat) : Prop := ∀ x ∈ l, x < 1000000000
theorem Low.tail {x : Nat} {l : List Nat} (h : Low (x :: l)) : Low l := fun y hy => h y (List.mem_cons_of_mem _ hy)
theorem Low.head {x : Nat} {l : List Nat} (h : Low (x :: l)) : x < 1000000000 := h x List.mem_cons_self
theorem Low.take {l : List Nat} (h : Low l) (k : Nat) : Low (l.take k) := fun x hx => h x (List.mem_of_mem_take hx)
theorem Low.drop {l : List Nat} (h : Low l) (k : Nat) : Low (l.drop k) := fun x hx => h x (List.mem_of_mem_drop hx)
theorem Low.snoc {l : List Nat} (h : Low l) {x : Nat} (hx : x < 1000000000) : Low (l ++ [x]) := fun y hy => by
  rcases List.mem_append.1 hy with hy | hy
  · exact h y hy
  · simp at hy; omega
theorem Low.getD {l : List Nat} (h : Low l) (i : Nat) : l.getD i 0 < 1000000000 := by
  by_cases hi : i < l.length
  · rw [getD_in hi]; exact h _ (List.getElem_mem hi)
  · rw [getD_out (by omega)]; omega
theorem low_limbs (n : Nat) : Low (limbs n) := limbs_lt n

theorem lval_append (a b : List Nat) : lval (a ++ b) = lval a + 1000000000 ^ a.length * lval b := by
  induction a with
  | nil => simp [lval]
  | cons x a ih => simp only [List.cons_append, lval, ih, List.length_cons, Nat.pow_succ, Nat.mul_add]; rw [Nat.mul_comm (1000000000 ^ a.length) 1000000000, Nat.mul_assoc]; omega

theorem lval_lt {l : List Nat} (h : Low l) : lval l < 1000000000 ^ l.length := by
  induction l with
  | nil => simp [lval]
  | cons x l ih =>
    have := ih h.tail
    have := h.head
    simp only [lval, List.length_cons, Nat.pow_succ]
    omega

/-- Limbs of which the last isn't 0 are the number's. -/
theorem limbs_lval {l : List Nat} (h : Low l) (hl : ∀ (hn : l ≠ []), l.getLast hn ≠ 0) : limbs (lval l) = l := by
  induction l with
  | nil => exact limbs_zero
  | cons x l ih =>
    have hx := h.head
    by_cases hn : l = []
    · subst hn
      have : x ≠ 0 := hl (by simp)
      simp only [lval]
      rw [limbs_pos (by omega), show (x + 1000000000 * 0) / 1000000000 = 0 by omega, limbs_zero, show (x + 1000000000 * 0) % 1000000000 = x by omega]
    · have e := ih h.tail (fun hn' => by have := hl (by simp); rwa [List.getLast_cons hn'] at this)
      have hp : lval l ≠ 0 := fun h0 => by rw [h0, limbs_zero] at e; exact hn e.symm
      simp only [lval]
      rw [limbs_pos (by omega), show (x + 1000000000 * lval l) / 1000000000 = lval l by omega, show (x + 1000000000 * lval l) % 1000000000 = x by omega, e]

theorem limbs_last (n : Nat) : ∀ (hn : limbs n ≠ []), (limbs n).getLast hn ≠ 0 := by
  induction n using Nat.strongRecOn with
  | _ n ih =>
    intro hn
    by_cases h : n = 0
    · subst h; exact absurd limbs_zero hn
    · have e := limbs_pos h
      by_cases h2 : n / 1000000000 = 0
      · have e2 : limbs n = [n % 1000000000] := by rw [e, h2, limbs_zero]
        simp only [e2, List.getLast_singleton]
        omega
      · have e3 : limbs (n / 1000000000) ≠ [] := by rw [limbs_pos h2]; simp
        have := ih (n / 1000000000) (by omega) e3
        simp only [e, List.getLast_cons e3]
        exact this

theorem limbs_nil {n : Nat} : limbs n = [] ↔ n = 0 := ⟨fun h => by by_cases h0 : n = 0; exact h0; rw [limbs_pos h0] at h; simp at h, fun h => by subst h; exact limbs_zero⟩

theorem limbs_length {n k : Nat} (h : n < 1000000000 ^ k) : (limbs n).length ≤ k := by
  induction k generalizing n with
  | zero =>
    obtain rfl : n = 0 := by simp at h; omega
    rw [limbs_zero]; simp
  | succ k ih =>
    by_cases h0 : n = 0
    · subst h0; rw [limbs_zero]; simp
    · rw [limbs_pos h0, List.length_cons]
      have := @ih (n / 1000000000) (by rw [Nat.pow_succ] at h; omega)
      omega

theorem limbs_length_lt {n k : Nat} (h : 1000000000 ^ k ≤ n) : k < (limbs n).length := by
  by_cases hk : k < (limbs n).length
  · exact hk
  · exfalso
    have h1 := lval_lt (low_limbs n)
    rw [lval_limbs] at h1
    have h2 : 1000000000 ^ (limbs n).length ≤ 1000000000 ^ k := Nat.pow_le_pow_right (by omega) (by omega)
    omega

/-- One limb more, taken from the front. -/
theorem lval_take_succ {l : List Nat} {k : Nat} (h : k < l.length) : lval (l.take (k + 1)) = lval (l.take k) + 1000000000 ^ k * l.getD k 0 := by
  rw [List.take_succ_eq_append_getElem h, lval_append, List.length_take, Nat.min_eq_left (by omega), getD_in h]
  simp [lval]
theorem lval_split (l : List Nat) (k : Nat) (h : k ≤ l.length) : lval l = lval (l.take k) + 1000000000 ^ k * lval (l.drop k) := by
  have := lval_append (l.take k) (l.drop k)
  rw [List.take_append_drop, List.length_take, Nat.min_eq_left h] at this
  exact this
theorem lval_drop {l : List Nat} {k : Nat} (h : k < l.length) : lval (l.drop k) = l.getD k 0 + 1000000000 * lval (l.drop (k + 1)) := by
  rw [List.drop_eq_getElem_cons h, lval, getD_in h]

/-- A last limb that is 0 says nothing. -/
theorem lval_take_pred {l : List Nat} {k : Nat} (h : k < l.length) (h0 : l.getD k 0 = 0) : lval (l.take k) = lval (l.take (k + 1)) := by
  rw [lval_take_succ h, h0]; simp

end Go.Proofs.YtpdepdigacpfiaaDoor
