/- Plain mathematics of long division. It speaks of no program. -/
import Derived.Test.YtlilojaefpnkmaaDoorMath2
import Derived.Test.YtlilojaefpnkmaaDoorIter
import Derived.Test.YtlilojaefpnkmaaDoorDigits
namespace Go.Proofs.YtlilojaefpnkmaaDoor

/-- One place of a long division by d: the rest, and the quotient's limbs. -/
def dstep (L : List Nat) (d : Nat) (st : Nat × List Nat) (p : Nat) : Nat × List Nat := ((st.1 * 1000000000 + L.getD p 0) % d, st.2.set p ((st.1 * 1000000000 + L.getD p 0) / d))
/-- These places, one behind the other. -/
def dfold (L : List Nat) (d n : Nat) (ps : List Nat) : Nat × List Nat := ps.foldl (dstep L d) (0, List.replicate n 0)

theorem dfold_snoc (L : List Nat) (d n : Nat) (ps : List Nat) (p : Nat) : dfold L d n (ps ++ [p]) = dstep L d (dfold L d n ps) p := by simp [dfold, List.foldl_append]

theorem dfold_length (L : List Nat) (d n : Nat) (ps : List Nat) : (dfold L d n ps).2.length = n := by
  induction ps using snoc_ind with
  | h0 => simp [dfold]
  | h1 ps p ih => rw [dfold_snoc, dstep, List.length_set, ih]

theorem dfold_rest {L : List Nat} {d : Nat} (hd : 0 < d) (n : Nat) (ps : List Nat) : (dfold L d n ps).1 < d := by
  induction ps using snoc_ind with
  | h0 => simpa [dfold] using hd
  | h1 ps p ih => rw [dfold_snoc, dstep]; exact Nat.mod_lt _ hd

theorem digit_lt {r d x : Nat} (hr : r < d) (hx : x < 1000000000) : (r * 1000000000 + x) / d < 1000000000 := by
  rw [Nat.div_lt_iff_lt_mul (by omega)]
  have : (r + 1) * 1000000000 ≤ d * 1000000000 := Nat.mul_le_mul_right _ hr
  rw [Nat.mul_comm 1000000000 d]
  omega

theorem dfold_low {L : List Nat} (hL : Low L) {d : Nat} (hd : 0 < d) (n : Nat) (ps : List Nat) : Low (dfold L d n ps).2 := by
  induction ps using snoc_ind with
  | h0 => intro x hx; have := List.eq_of_mem_replicate (show x ∈ List.replicate n 0 from hx); omega
  | h1 ps p ih => rw [dfold_snoc, dstep]; exact ih.set _ (digit_lt (dfold_rest hd n ps) (hL.getD p))

/-- All places: the quotient and the rest. -/
theorem dfold_all {x d : Nat} (hd : 0 < d) : lval (dfold (limbs x) d (limbs x).length (downs (limbs x).length (limbs x).length)).2 = x / d ∧ (dfold (limbs x) d (limbs x).length (downs (limbs x).length (limbs x).length)).1 = x % d := by
  obtain ⟨n, hn⟩ : ∃ n, (limbs x).length = n := ⟨_, rfl⟩
  have key : ∀ k, k ≤ n → (dfold (limbs x) d n (downs n k)).1 = high x (n - k) % d ∧ lval (dfold (limbs x) d n (downs n k)).2 = 1000000000 ^ (n - k) * (high x (n - k) / d) ∧ ∀ p, p < n - k → (dfold (limbs x) d n (downs n k)).2.getD p 0 = 0 := by
    intro k
    induction k with
    | zero =>
      intro _
      rw [Nat.sub_zero, high_out (by omega)]
      refine ⟨by simp [dfold, downs, upto], by simp [dfold, downs, upto, lval_zeros], fun p _ => ?_⟩
      simp [dfold, downs, upto, List.getElem?_replicate]
      split <;> rfl
    | succ k ih =>
      intro hk
      obtain ⟨h1, h2, h3⟩ := ih (by omega)
      have hs := high_step x (n - (k + 1))
      rw [show n - (k + 1) + 1 = n - k by omega] at hs
      rw [downs, upto_succ, show n - 1 - k = n - (k + 1) by omega, dfold_snoc]
      change (dstep (limbs x) d (dfold (limbs x) d n (downs n k)) (n - (k + 1))).1 = _ ∧ lval (dstep (limbs x) d (dfold (limbs x) d n (downs n k)) (n - (k + 1))).2 = _ ∧ ∀ p, p < n - (k + 1) → (dstep (limbs x) d (dfold (limbs x) d n (downs n k)) (n - (k + 1))).2.getD p 0 = 0
      obtain ⟨p, hp⟩ : ∃ p, n - (k + 1) = p := ⟨_, rfl⟩
      have hnk : n - k = p + 1 := by omega
      rw [hp] at hs ⊢
      rw [hnk] at hs h1 h2 h3
      have hlen := dfold_length (limbs x) d n (downs n k)
      generalize dfold (limbs x) d n (downs n k) = st at h1 h2 h3 hlen ⊢
      obtain ⟨r, Q⟩ := st
      simp only at h1 h2 h3 hlen
      simp only [dstep, limbs_getD]
      have hdm := Nat.div_add_mod (high x (p + 1)) d
      have hH : high x p = d * (high x (p + 1) / d * 1000000000) + (r * 1000000000 + lim x p) := by
        rw [hs, h1, ← Nat.mul_assoc, ← Nat.add_assoc, ← Nat.add_mul, hdm]
      refine ⟨?_, ?_, fun j hj => ?_⟩
      · rw [hH, Nat.mul_add_mod]
      · have hset := lval_set (x := (r * 1000000000 + lim x p) / d) (show p < Q.length by omega)
        rw [h3 p (by omega), Nat.mul_zero, Nat.add_zero] at hset
        rw [hset, h2, hH, Nat.mul_add_div hd, Nat.pow_succ, Nat.mul_add, Nat.mul_comm (high x (p + 1) / d) 1000000000, Nat.mul_assoc]
      · rw [getD_set_ne (by omega)]
        exact h3 j (by omega)
  have := key n (Nat.le_refl _)
  rw [Nat.sub_self, high_zero, Nat.pow_zero, Nat.one_mul] at this
  rw [hn]
  exact ⟨this.2.1, this.1⟩

/-- A guess from the highest limbs is never too small. -/
theorem guess_ge {a b n : Nat} (hb : (limbs b).length = n) (hn : 0 < n) (hab : a < b * 1000000000) :
    a / b ≤ min ((lim a n * 1000000000 + lim a (n - 1)) / lim b (n - 1)) 999999999 := by
  have hbl : lim b (n - 1) ≠ 0 := by
    have hne : limbs b ≠ [] := by intro h; rw [h] at hb; simp at hb; omega
    have := limbs_last b hne
    rw [List.getLast_eq_getElem, ← getD_in, limbs_getD, hb] at this
    exact this
  have hb0 : 0 < b := by
    rcases Nat.eq_zero_or_pos b with h | h
    · subst h; rw [limbs_zero] at hb; simp at hb; omega
    · exact h
  have hq : a / b < 1000000000 := by rw [Nat.div_lt_iff_lt_mul hb0]; rw [Nat.mul_comm]; exact hab
  refine Nat.le_min.2 ⟨?_, by omega⟩
  -- b in its highest limb, a in its two highest
  have hbh : high b (n - 1) = lim b (n - 1) := by
    have := high_step b (n - 1)
    rw [show n - 1 + 1 = n by omega, high_out (x := b) (k := n) (by omega), Nat.zero_mul, Nat.zero_add] at this
    exact this
  have hb1 : lim b (n - 1) * 1000000000 ^ (n - 1) ≤ b := by
    rw [← hbh]; unfold high; exact Nat.div_mul_le_self _ _
  have ha2 : high a (n + 1) = 0 := by
    unfold high
    refine Nat.div_eq_of_lt ?_
    have h1 := lval_lt (low_limbs b)
    rw [lval_limbs, hb] at h1
    rw [Nat.pow_succ]
    exact Nat.lt_of_lt_of_le hab (Nat.mul_le_mul_right _ (Nat.le_of_lt h1))
  have hah : high a (n - 1) = lim a n * 1000000000 + lim a (n - 1) := by
    have h1 := high_step a (n - 1)
    have h2 := high_step a n
    rw [ha2] at h2
    rw [show n - 1 + 1 = n by omega] at h1
    rw [h2, Nat.zero_mul, Nat.zero_add] at h1
    exact h1
  have h4 : a < (high a (n - 1) + 1) * 1000000000 ^ (n - 1) := by
    unfold high
    have := Nat.lt_mul_div_succ a (show 0 < 1000000000 ^ (n - 1) from Nat.pow_pos (by omega))
    rwa [Nat.mul_comm] at this
  rw [← hah]
  rw [Nat.le_div_iff_mul_le (by omega)]
  have h5 : a / b * (lim b (n - 1) * 1000000000 ^ (n - 1)) ≤ a := Nat.le_trans (Nat.mul_le_mul_left _ hb1) (Nat.div_mul_le_self _ _)
  have h6 : (a / b * lim b (n - 1)) * 1000000000 ^ (n - 1) < (high a (n - 1) + 1) * 1000000000 ^ (n - 1) := by rw [Nat.mul_assoc]; omega
  have := Nat.lt_of_mul_lt_mul_right h6
  omega

end Go.Proofs.YtlilojaefpnkmaaDoor
