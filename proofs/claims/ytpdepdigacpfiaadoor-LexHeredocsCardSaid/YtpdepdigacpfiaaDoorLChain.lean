/- Tokens stand one behind the other. -/
import Derived.Test.YtpdepdigacpfiaaDoorLSuf
import Derived.Test.YtpdepdigacpfiaaDoorLScan
namespace Go.Proofs.YtpdepdigacpfiaaDoor
open Go.RowKit
set_option linter.unusedVariables false

/-- A token that stands at a byte, or behind it. -/
structure Sits (t : ByteArray) (a : Nat) (x : Tk) : Prop where
  from_ : a ≤ x.at_
  lt : x.at_ < t.size
  kind : x.k ≠ 0
  plain : x.k ≠ 3 → t.extract x.at_ (x.at_ + x.x.size) = x.x ∧ x.at_ + x.x.size ≤ t.size
  text : x.k = 3 → t.get! x.at_ = 60 ∨ (t.get! x.at_ ≠ 60 ∧ t.extract (x.at_ + 1) (x.at_ + 1 + x.x.size) = x.x ∧ x.at_ + 1 + x.x.size ≤ t.size)
/-- Where the next may stand. -/
def Tk.next (t : ByteArray) (x : Tk) : Nat := if x.k = 3 then (if t.get! x.at_ = 60 then x.at_ + 5 else x.at_ + 1 + x.x.size) else x.at_ + x.x.size
inductive Chain (t : ByteArray) : Nat → List Tk → Prop
  | nil {a : Nat} : a ≤ t.size → Chain t a []
  | cons {a : Nat} {x : Tk} {l : List Tk} : Sits t a x → Chain t (x.next t) l → Chain t a (x :: l)

theorem get_at {t : ByteArray} {a : Nat} (h : a < t.size) : t.get! a = t[a]'h := by rw [get_list h]; rfl
theorem suf_rest {t : ByteArray} {c : Nat} {R : List UInt8} (h : R <:+ rest t c) : rest t (t.size - R.length) = R := by
  have h2 : R <:+ t.data.toList := h.trans (List.drop_suffix _ _)
  have := List.suffix_iff_eq_drop.1 h2
  unfold rest
  have e : t.data.toList.length = t.size := by simp
  rw [e] at this
  exact this.symm
theorem extract_take {t : ByteArray} {a : Nat} {x : List UInt8} (h : x = (rest t a).take x.length) : t.extract a (a + x.length) = ⟨x.toArray⟩ := by
  refine str_of_list ?_
  rw [Lib.extract_data, show a + x.length - a = x.length by omega]
  exact h.symm
theorem rest_drop1 (t : ByteArray) (a : Nat) : (rest t a).drop 1 = rest t (a + 1) := rest_add t a 1
theorem tokL_chain {t : ByteArray} : ∀ (n c a : Nat) (acc l : List Tk), a ≤ c → c ≤ t.size → tokL t.size n (rest t c) acc = .ok l → ∃ l2, l = acc ++ l2 ∧ Chain t a l2
  | 0, c, a, acc, l, _, _, h => by cases h
  | n + 1, c, a, acc, l, hac, hct, h => by
    unfold tokL at h
    split at h
    · cases h
      exact ⟨[], by simp, .nil (by omega)⟩
    · rename_i hne
      have hlt : c < t.size := by
        rcases Nat.lt_or_ge c t.size with h1 | h1
        · exact h1
        · rw [rest_nil h1] at hne; exact absurd rfl hne
      have hcons := rest_cons hlt
      cases hr : (nextL (rest t c)).2 with
      | error d => rw [hr] at h; cases h
      | ok p =>
        obtain ⟨x, R'⟩ := p
        rw [hr] at h
        simp only at h
        split at h
        · cases h
        · have hk : nextL ((t[c]'hlt) :: rest t (c + 1)) = ((nextL (rest t c)).1, .ok (x, R')) := by rw [← hcons, ← hr]
          obtain ⟨k, hkk⟩ : ∃ k, (nextL (rest t c)).1 = k := ⟨_, rfl⟩
          rw [hkk] at h hk
          obtain ⟨s1, s2, s3, s4, s5⟩ := nextL_stood hk
          rw [← hcons] at s1 s3 s4 s5
          rw [rest_length] at h s3 s4 s5
          rw [show t.size - (t.size - c) = c by omega] at h
          have hb : betweenA R' <:+ rest t c := (betweenA_end R').trans s1
          have hbl := (betweenA_end R').length_le
          rw [← suf_rest hb] at h
          have hxs : (⟨x.toArray⟩ : ByteArray).size = x.length := by show x.toArray.size = _; simp
          have hg := get_at hlt
          have hnext : (⟨k, ⟨x.toArray⟩, c⟩ : Tk).next t ≤ t.size - (betweenA R').length := by
            unfold Tk.next
            simp only [hxs]
            split
            · rename_i h3
              rcases s5 h3 with ⟨_, h5⟩ | ⟨h5, h6, h7⟩
              · split
                · omega
                · rename_i h8; rw [hg] at h8; contradiction
              · rw [if_neg (by rw [hg]; exact h5)]
                omega
            · rename_i h3
              have := (s4 h3).2
              omega
          obtain ⟨l2, hl, hch⟩ := tokL_chain n _ _ _ _ hnext (by omega) h
          refine ⟨⟨k, ⟨x.toArray⟩, c⟩ :: l2, by rw [hl]; simp, .cons ⟨hac, hlt, s2, fun h3 => ?_, fun h3 => ?_⟩ hch⟩
          · obtain ⟨h4, h5⟩ := s4 h3
            simp only [hxs]
            exact ⟨extract_take h4, by omega⟩
          · simp only [hxs, hg]
            rcases s5 h3 with ⟨h5, _⟩ | ⟨h5, h6, h7⟩
            · exact .inl h5
            · rw [rest_drop1] at h6
              exact .inr ⟨h5, extract_take h6, by omega⟩
theorem scanL_chain {t : ByteArray} {l : List Tk} (h : scanL t = .ok l) : Chain t 0 l := by
  unfold scanL at h
  split at h
  · cases h
  · split at h
    · cases h
    · rw [← suf_rest (betweenA_end (rest t 0))] at h
      obtain ⟨l2, hl, hch⟩ := tokL_chain _ _ 0 _ _ (Nat.zero_le _) (by omega) h
      simp at hl
      subst hl
      exact hch
theorem badFrom_le (s : ByteArray) : ∀ n p, badFrom s n p ≤ s.size
  | 0, p => Nat.le_refl _
  | n + 1, p => by
    unfold badFrom
    split
    · split
      · omega
      · exact badFrom_le s n _
    · exact Nat.le_refl _
theorem tokL_err {sz : Nat} : ∀ (n : Nat) (R : List UInt8) (acc : List Tk) (c : Int) (p : Nat), tokL sz n R acc = .error (c, p) → p ≤ sz
  | 0, R, acc, c, p, h => by cases h; omega
  | n + 1, R, acc, c, p, h => by
    unfold tokL at h
    split at h
    · cases h
    · split at h
      · cases h; omega
      · split at h
        · cases h; omega
        · exact tokL_err n _ _ c p h
theorem scanL_err {t : ByteArray} {c : Int} {p : Nat} (h : scanL t = .error (c, p)) : p ≤ t.size := by
  unfold scanL at h
  split at h
  · cases h; omega
  · split at h
    · cases h; exact badFrom_le _ _ _
    · exact tokL_err _ _ _ _ _ h
theorem tokL_len {sz : Nat} : ∀ (n : Nat) (R : List UInt8) (acc l : List Tk), acc.length ≤ 4096 → tokL sz n R acc = .ok l → l.length ≤ 4096
  | 0, R, acc, l, _, h => by cases h
  | n + 1, R, acc, l, ha, h => by
    unfold tokL at h
    split at h
    · cases h; exact ha
    · split at h
      · cases h
      · split at h
        · cases h
        · exact tokL_len n _ _ _ (by simp; omega) h
theorem scanL_len {t : ByteArray} {l : List Tk} (h : scanL t = .ok l) : l.length ≤ 4096 := by
  unfold scanL at h
  split at h
  · cases h
  · split at h
    · cases h
    · exact tokL_len _ _ _ _ (by simp) h
end Go.Proofs.YtpdepdigacpfiaaDoor
