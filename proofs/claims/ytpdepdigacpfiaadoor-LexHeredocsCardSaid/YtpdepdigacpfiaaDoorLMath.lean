/- What the lexer says of bytes: plain functions. -/
import Derived.Laws.RangeAny
import Derived.Lib.Strings
import Derived.Lib.IndexBytes
namespace Go.Proofs.YtpdepdigacpfiaaDoor
set_option linter.unusedVariables false

/-- How far runes go on of which p says so: from byte pos on, at most n runes. -/
def stopAt (p : Nat → Bool) (s : ByteArray) : Nat → Nat → Nat
  | 0, pos => s.size
  | n + 1, pos => if pos < s.size then (if p (Utf8.decode s pos).1 then stopAt p s n (pos + (Utf8.decode s pos).2) else pos) else s.size
theorem stopAt_step {p : Nat → Bool} {s : ByteArray} {n pos : Nat} (h : pos < s.size) (hp : p (Utf8.decode s pos).1 = true) : stopAt p s (n + 1) pos = stopAt p s n (pos + (Utf8.decode s pos).2) := by
  conv => lhs; unfold stopAt
  rw [if_pos h, if_pos hp]
theorem stopAt_stop {p : Nat → Bool} {s : ByteArray} {n pos : Nat} (h : pos < s.size) (hp : p (Utf8.decode s pos).1 = false) : stopAt p s (n + 1) pos = pos := by
  conv => lhs; unfold stopAt
  rw [if_pos h, if_neg (by rw [hp]; decide)]
theorem stopAt_end {p : Nat → Bool} {s : ByteArray} {n pos : Nat} (h : ¬ pos < s.size) : stopAt p s n pos = s.size := by
  cases n with
  | zero => rfl
  | succ n => unfold stopAt; rw [if_neg h]

/-- All bytes of a rune that is no ASCII are none. -/
theorem decode_wide (s : ByteArray) (pos : Nat) (h : pos < s.size) (ha : 128 ≤ (s[pos]'h).toNat) : pos + (Utf8.decode s pos).2 ≤ s.size ∧ ∀ i, pos ≤ i → i < pos + (Utf8.decode s pos).2 → 128 ≤ (s.get! i).toNat := by
  have hn : ¬ (s[pos]'h).toNat < 128 := by omega
  have g0 : (s.get! (pos + 0)).toNat = (s[pos]'h).toNat := by rw [get_at s pos h]
  have key : ∀ k, k ≤ 4 → 1 ≤ k → (∀ j, 1 ≤ j → j < k → pos + j < s.size ∧ 128 ≤ (s.get! (pos + j)).toNat) → pos + k ≤ s.size ∧ ∀ i, pos ≤ i → i < pos + k → 128 ≤ (s.get! i).toNat := by
    intro k hk hk1 hj
    refine ⟨?_, fun i h1 h2 => ?_⟩
    · rcases Nat.lt_or_ge 1 k with h1 | h1
      · have := (hj (k - 1) (by omega) (by omega)).1; omega
      · omega
    · rcases Nat.eq_or_lt_of_le h1 with h3 | h3
      · subst h3; rw [Nat.add_zero] at g0; omega
      · have := (hj (i - pos) (by omega) (by omega)).2
        rwa [show pos + (i - pos) = i by omega] at this
  have hc : ∀ k, (decide (pos + k < s.size) && ((s.get! (pos + k)).toNat / 64 == 2)) = true → pos + k < s.size ∧ 128 ≤ (s.get! (pos + k)).toNat := by
    intro k hk
    simp only [Bool.and_eq_true, decide_eq_true_eq, beq_iff_eq] at hk
    exact ⟨hk.1, by omega⟩
  simp only [Utf8.decode, get_at s pos h, hn, if_false]
  split
  · rename_i h1
    have h2 := (Bool.and_eq_true_iff.1 h1).2
    split
    · exact key 2 (by omega) (by omega) (fun j a b => by obtain rfl : j = 1 := by omega
                                                         exact hc 1 h2)
    · exact key 1 (by omega) (by omega) (fun j a b => by omega)
  · split
    · rename_i h1
      obtain ⟨h2, h4⟩ := Bool.and_eq_true_iff.1 h1
      have h3 := (Bool.and_eq_true_iff.1 h2).2
      split
      · exact key 3 (by omega) (by omega) (fun j a b => by
          rcases (show j = 1 ∨ j = 2 by omega) with rfl | rfl
          · exact hc 1 h3
          · exact hc 2 h4)
      · exact key 1 (by omega) (by omega) (fun j a b => by omega)
    · split
      · rename_i h1
        obtain ⟨h2, h5⟩ := Bool.and_eq_true_iff.1 h1
        obtain ⟨h3, h4⟩ := Bool.and_eq_true_iff.1 h2
        have h6 := (Bool.and_eq_true_iff.1 h3).2
        split
        · exact key 4 (by omega) (by omega) (fun j a b => by
            rcases (show j = 1 ∨ j = 2 ∨ j = 3 by omega) with rfl | rfl | rfl
            · exact hc 1 h6
            · exact hc 2 h4
            · exact hc 3 h5)
        · exact key 1 (by omega) (by omega) (fun j a b => by omega)
      · exact key 1 (by omega) (by omega) (fun j a b => by omega)

/-- A statement on runes that is one on bytes: all that is no ASCII is alike. -/
def byteP (q : UInt8 → Bool) (hi : Bool) (c : UInt8) : Bool := if c.toNat < 128 then q c else hi
theorem drop_cons {l : List UInt8} {i : Nat} (h : i < l.length) : l.drop i = l[i] :: l.drop (i + 1) := List.drop_eq_getElem_cons h
theorem get_list {s : ByteArray} {i : Nat} (h : i < s.size) : s.get! i = s.data.toList[i]'(by simpa using h) := by
  have := get_at s i h
  rw [Nat.add_zero] at this
  rw [this]
  rfl
theorem skip_all {q : UInt8 → Bool} {l : List UInt8} : ∀ (k i : Nat), i + k ≤ l.length → (∀ j (h : j < l.length), i ≤ j → j < i + k → q l[j] = true) → (l.drop i).dropWhile q = (l.drop (i + k)).dropWhile q
  | 0, i, _, _ => rfl
  | k + 1, i, hk, h => by
    have hi : i < l.length := by omega
    rw [drop_cons hi, List.dropWhile_cons_of_pos (h i hi (Nat.le_refl _) (by omega))]
    rw [skip_all k (i + 1) (by omega) (fun j hj h1 h2 => h j hj (by omega) (by omega)), show i + 1 + k = i + (k + 1) by omega]
/-- Runes are gone over as bytes are. -/
theorem stopAt_bytes {p : Nat → Bool} {q : UInt8 → Bool} {hi : Bool} {s : ByteArray} (hlo : ∀ c : UInt8, c.toNat < 128 → p c.toNat = q c) (hhi : ∀ r, 128 ≤ r → p r = hi) :
    ∀ (n pos : Nat), s.size - pos ≤ n → pos ≤ s.size → s.data.toList.drop (stopAt p s n pos) = (s.data.toList.drop pos).dropWhile (byteP q hi) ∧ pos ≤ stopAt p s n pos ∧ stopAt p s n pos ≤ s.size
  | n, pos, hn, hpos => by
    have hlen : s.data.toList.length = s.size := by simp
    by_cases h : pos < s.size
    · obtain ⟨m, rfl⟩ : ∃ m, n = m + 1 := ⟨n - 1, by omega⟩
      have hl : pos < s.data.toList.length := by omega
      have hg : s.data.toList[pos] = s[pos]'h := rfl
      by_cases ha : (s[pos]'h).toNat < 128
      · have hd := decode_ascii s pos h ha
        have e1 : (Utf8.decode s pos).1 = (s[pos]'h).toNat := by rw [hd]
        have e2 : (Utf8.decode s pos).2 = 1 := by rw [hd]
        have hb : byteP q hi s.data.toList[pos] = p (Utf8.decode s pos).1 := by unfold byteP; rw [hg, if_pos ha, e1, hlo _ ha]
        cases hp : p (Utf8.decode s pos).1
        · rw [stopAt_stop h hp]
          refine ⟨?_, Nat.le_refl _, by omega⟩
          rw [drop_cons hl, List.dropWhile_cons_of_neg (by rw [hb, hp]; decide)]
        · rw [stopAt_step h hp, e2]
          obtain ⟨i1, i2, i3⟩ := stopAt_bytes (p := p) (s := s) (q := q) (hi := hi) hlo hhi m (pos + 1) (by omega) (by omega)
          refine ⟨?_, by omega, i3⟩
          rw [i1, drop_cons hl, List.dropWhile_cons_of_pos (by rw [hb, hp])]
      · have hw := decode_wide s pos h (by omega)
        have hh := decode_high s pos h (by omega)
        have hp' : p (Utf8.decode s pos).1 = hi := hhi _ hh.1
        cases hi with
        | false =>
          rw [stopAt_stop h hp']
          refine ⟨?_, Nat.le_refl _, by omega⟩
          rw [drop_cons hl, List.dropWhile_cons_of_neg (by unfold byteP; rw [hg, if_neg ha]; decide)]
        | true =>
          rw [stopAt_step h hp']
          obtain ⟨i1, i2, i3⟩ := stopAt_bytes (p := p) (s := s) (q := q) (hi := true) hlo hhi m (pos + (Utf8.decode s pos).2) (by omega) hw.1
          refine ⟨?_, by omega, i3⟩
          rw [i1]
          refine (skip_all _ pos (by omega) (fun j hj h1 h2 => ?_)).symm
          have h3 := hw.2 j h1 h2
          rw [get_list (by omega)] at h3
          unfold byteP
          rw [if_neg (by omega)]
    · rw [stopAt_end h]
      refine ⟨?_, hpos, Nat.le_refl _⟩
      rw [List.drop_of_length_le (by omega), List.drop_of_length_le (by omega)]
      rfl
termination_by n => n
end Go.Proofs.YtpdepdigacpfiaaDoor
