/- Plain mathematics for sums, differences and products by limbs. It speaks of no program. -/
import Derived.Test.YthmojhfakmdlfaaDoorMath
namespace Go.Proofs.YthmojhfakmdlfaaDoor

/-- A number's limb at place k. -/
def lim (x k : Nat) : Nat := x / 1000000000 ^ k % 1000000000
/-- What its first k limbs say. -/
def low (x k : Nat) : Nat := x % 1000000000 ^ k

theorem lim_lt (x k : Nat) : lim x k < 1000000000 := Nat.mod_lt _ (by omega)

theorem limbs_getD (x k : Nat) : (limbs x).getD k 0 = lim x k := by
  induction k generalizing x with
  | zero =>
    by_cases h : x = 0
    · subst h; rw [limbs_zero]; simp [lim]
    · rw [limbs_pos h]; simp [lim]
  | succ k ih =>
    by_cases h : x = 0
    · subst h; rw [limbs_zero]; simp [lim]
    · rw [limbs_pos h]
      have := ih (x / 1000000000)
      simp only [List.getD_cons_succ]
      rw [this]
      unfold lim
      rw [Nat.div_div_eq_div_mul, Nat.pow_succ, Nat.mul_comm]

theorem low_zero (x : Nat) : low x 0 = 0 := by unfold low; rw [Nat.pow_zero, Nat.mod_one]
theorem low_succ (x k : Nat) : low x (k + 1) = low x k + 1000000000 ^ k * lim x k := by unfold low lim; rw [Nat.mod_pow_succ]
theorem low_lt (x k : Nat) : low x k < 1000000000 ^ k := Nat.mod_lt _ (Nat.pow_pos (by omega))
theorem low_all {x k : Nat} (h : (limbs x).length ≤ k) : low x k = x := by
  unfold low
  refine Nat.mod_eq_of_lt ?_
  have := lval_lt (low_limbs x)
  rw [lval_limbs] at this
  exact Nat.lt_of_lt_of_le this (Nat.pow_le_pow_right (by omega) h)

theorem carry_eq (P t : Nat) : P * (t % 1000000000) + P * 1000000000 * (t / 1000000000) = P * t := by
  rw [Nat.mul_assoc, ← Nat.mul_add, Nat.add_comm, Nat.div_add_mod]

/-- One limb of a sum. -/
theorem add_step {x y k c : Nat} {ls : List Nat} (hl : ls.length = k) (h : lval ls + 1000000000 ^ k * c = low x k + low y k) :
    lval (ls ++ [(lim x k + lim y k + c) % 1000000000]) + 1000000000 ^ (k + 1) * ((lim x k + lim y k + c) / 1000000000) = low x (k + 1) + low y (k + 1) := by
  rw [lval_append, hl, low_succ, low_succ]
  simp only [lval, Nat.mul_zero, Nat.add_zero]
  have := carry_eq (1000000000 ^ k) (lim x k + lim y k + c)
  rw [Nat.pow_succ]
  rw [Nat.mul_add, Nat.mul_add] at this
  omega

/-- One limb of a difference. -/
theorem sub_step {x y k b : Nat} {ls : List Nat} (hl : ls.length = k) (hb : b ≤ 1) (h : low x k + 1000000000 ^ k * b = lval ls + low y k) :
    low x (k + 1) + 1000000000 ^ (k + 1) * (1 - (1000000000 + lim x k - lim y k - b) / 1000000000) = lval (ls ++ [(1000000000 + lim x k - lim y k - b) % 1000000000]) + low y (k + 1) := by
  have hx := lim_lt x k
  have hy := lim_lt y k
  rw [lval_append, hl, low_succ, low_succ]
  simp only [lval, Nat.mul_zero, Nat.add_zero]
  obtain ⟨t, ht⟩ : ∃ t, 1000000000 + lim x k - lim y k - b = t := ⟨_, rfl⟩
  rw [ht]
  have h1 := carry_eq (1000000000 ^ k) t
  have h2 : t / 1000000000 ≤ 1 := by omega
  rw [Nat.pow_succ, Nat.mul_sub]
  have h3 : lim x k + 1000000000 = t + lim y k + b := by omega
  have h4 : 1000000000 ^ k * lim x k + 1000000000 ^ k * 1000000000 = 1000000000 ^ k * t + 1000000000 ^ k * lim y k + 1000000000 ^ k * b := by
    rw [← Nat.mul_add, h3, Nat.mul_add, Nat.mul_add]
  have h5 : 1000000000 ^ k * 1000000000 * (t / 1000000000) ≤ 1000000000 ^ k * 1000000000 * 1 := Nat.mul_le_mul_left _ h2
  omega

theorem sub_done {x y k b : Nat} {ls : List Nat} (hl : ls.length = k) (hlow : Low ls) (hb : b ≤ 1) (hxy : y ≤ x) (hk : (limbs x).length ≤ k) (h : low x k + 1000000000 ^ k * b = lval ls + low y k) : lval ls = x - y := by
  rw [low_all hk] at h
  have hy : low y k = y := by
    unfold low
    refine Nat.mod_eq_of_lt ?_
    have := low_lt x k
    rw [low_all hk] at this
    omega
  rw [hy] at h
  have := lval_lt hlow
  rw [hl] at this
  rcases (show b = 0 ∨ b = 1 by omega) with rfl | rfl
  · omega
  · omega

theorem set_app {ls : List Nat} {m x : Nat} (hm : 0 < m) : (ls ++ List.replicate m 0).set ls.length x = (ls ++ [x]) ++ List.replicate (m - 1) 0 := by
  obtain ⟨m, rfl⟩ : ∃ n, m = n + 1 := ⟨m - 1, by omega⟩
  simp [List.replicate_succ]

theorem lval_set {l : List Nat} {n x : Nat} (h : n < l.length) : lval (l.set n x) + 1000000000 ^ n * l.getD n 0 = lval l + 1000000000 ^ n * x := by
  induction l generalizing n with
  | nil => simp at h
  | cons y l ih =>
    match n with
    | 0 => simp [lval]; omega
    | n + 1 =>
      have := @ih n (by simpa using h)
      simp only [List.set_cons_succ, lval, List.getD_cons_succ, Nat.pow_succ]
      rw [Nat.mul_comm (1000000000 ^ n) 1000000000, Nat.mul_assoc, Nat.mul_assoc]
      omega

theorem Low.set {l : List Nat} (h : Low l) (n : Nat) {x : Nat} (hx : x < 1000000000) : Low (l.set n x) := fun y hy => by
  rcases List.mem_or_eq_of_mem_set hy with h1 | h1
  · exact h y h1
  · omega
theorem getD_set_ne {l : List Nat} {n m x : Nat} (h : n ≠ m) : (l.set n x).getD m 0 = l.getD m 0 := by simp [List.getD, List.getElem?_set_ne h]

/-- One limb of a row of a product. -/
theorem mul_step {L : List Nat} {A y i j c p : Nat} (hj : i + j < L.length) (h : lval L + 1000000000 ^ (i + j) * c = A + 1000000000 ^ i * (p * low y j)) :
    lval (L.set (i + j) ((L.getD (i + j) 0 + p * lim y j + c) % 1000000000)) + 1000000000 ^ (i + (j + 1)) * ((L.getD (i + j) 0 + p * lim y j + c) / 1000000000) = A + 1000000000 ^ i * (p * low y (j + 1)) := by
  have h1 := lval_set (x := (L.getD (i + j) 0 + p * lim y j + c) % 1000000000) hj
  have h2 := carry_eq (1000000000 ^ (i + j)) (L.getD (i + j) 0 + p * lim y j + c)
  rw [low_succ, ← Nat.add_assoc, Nat.pow_succ, Nat.mul_add p, Nat.mul_add (1000000000 ^ i)]
  have h3 : 1000000000 ^ i * (p * (1000000000 ^ j * lim y j)) = 1000000000 ^ (i + j) * (p * lim y j) := by
    rw [Nat.pow_add, Nat.mul_left_comm p, Nat.mul_assoc]
  rw [h3]
  rw [Nat.mul_add, Nat.mul_add] at h2
  omega

/-- One row of a product. -/
theorem mul_row {L : List Nat} {x y i lb c : Nat} (hi : i + lb < L.length) (hlb : (limbs y).length ≤ lb) (hz : L.getD (i + lb) 0 = 0) (h : lval L + 1000000000 ^ (i + lb) * c = low x i * y + 1000000000 ^ i * (lim x i * low y lb)) :
    lval (L.set (i + lb) c) = low x (i + 1) * y := by
  have h1 := lval_set (x := c) hi
  rw [hz, Nat.mul_zero, Nat.add_zero] at h1
  rw [h1, h, low_all hlb, low_succ, Nat.add_mul, Nat.mul_assoc]

theorem mul_bound {l p q c : Nat} (hl : l < 1000000000) (hp : p < 1000000000) (hq : q < 1000000000) (hc : c < 1000000000) : p * q ≤ 999999998000000001 ∧ (l + p * q + c) / 1000000000 < 1000000000 := by
  have h : p * q ≤ 999999999 * 999999999 := Nat.mul_le_mul (by omega) (by omega)
  constructor
  · omega
  · omega

/-- Fewer limbs: less. -/
theorem len_lt {x y : Nat} (h : (limbs x).length < (limbs y).length) : x < y := by
  have h1 := lval_lt (low_limbs x)
  rw [lval_limbs] at h1
  rcases Nat.lt_or_ge x y with h2 | h2
  · exact h2
  · exfalso
    have := limbs_length (n := y) (k := (limbs x).length) (by omega)
    omega

/-- All from place k on. -/
def high (x k : Nat) : Nat := x / 1000000000 ^ k
theorem high_step (x k : Nat) : high x k = high x (k + 1) * 1000000000 + lim x k := by
  unfold high lim
  rw [Nat.pow_succ, ← Nat.div_div_eq_div_mul]
  omega
theorem high_lt {x y k : Nat} (h : high x k < high y k) : x < y := Nat.lt_of_div_lt_div h
theorem high_zero (x : Nat) : high x 0 = x := by unfold high; simp
theorem high_out {x k : Nat} (h : (limbs x).length ≤ k) : high x k = 0 := by
  unfold high
  have := lval_lt (low_limbs x)
  rw [lval_limbs] at this
  exact Nat.div_eq_of_lt (Nat.lt_of_lt_of_le this (Nat.pow_le_pow_right (by omega) h))
theorem high_same {x y n k : Nat} (hx : (limbs x).length ≤ n) (hy : (limbs y).length ≤ n) (hk : k ≤ n) (h : ∀ j, j < k → lim x (n - 1 - j) = lim y (n - 1 - j)) : high x (n - k) = high y (n - k) := by
  induction k with
  | zero => rw [high_out (by omega), high_out (by omega)]
  | succ k ih =>
    have h1 := ih (by omega) (fun j hj => h j (by omega))
    have h2 := h k (by omega)
    rw [high_step, high_step y, show n - (k + 1) + 1 = n - k by omega, h1, show n - (k + 1) = n - 1 - k by omega, h2]

/-- The limbs of any list whose limbs are low. -/
theorem getD_low {L : List Nat} (h : Low L) (k : Nat) : L.getD k 0 = lim (lval L) k := by
  induction L generalizing k with
  | nil => simp [lim, lval]
  | cons x L ih =>
    have hx := h.head
    match k with
    | 0 => simp only [List.getD_cons_zero, lim, lval, Nat.pow_zero, Nat.div_one]; omega
    | k + 1 =>
      simp only [List.getD_cons_succ]
      rw [ih h.tail k]
      unfold lim
      simp only [lval]
      rw [Nat.pow_succ, Nat.mul_comm (1000000000 ^ k) 1000000000, ← Nat.div_div_eq_div_mul, show (x + 1000000000 * lval L) / 1000000000 = lval L by omega]
theorem limbs_short {L : List Nat} (h : Low L) : (limbs (lval L)).length ≤ L.length := limbs_length (lval_lt h)

theorem lval_zeros (n : Nat) : lval (List.replicate n 0) = 0 := by
  induction n with
  | zero => rfl
  | succ n ih => rw [List.replicate_succ, lval, ih]

end Go.Proofs.YthmojhfakmdlfaaDoor
