/- The lexer as functions on what is left of a text. -/
import Derived.Test.YtpdepdigacpfiaaDoorLWord
import Derived.Lib.IndexMore
namespace Go.Proofs.YtpdepdigacpfiaaDoor
set_option linter.unusedVariables false

def bytesIn (l : List UInt8) (c : UInt8) : Bool := l.contains c
def notIn (l : List UInt8) (c : UInt8) : Bool := !l.contains c
/-- Behind a remark, if one stands here. -/
def remarkL (R : List UInt8) : Option (List UInt8) :=
  if Lib.hasPrefix R [35] || Lib.hasPrefix R [47, 47] then some (R.dropWhile (notIn [10]))
  else if Lib.hasPrefix R [47, 42] then (if 0 ≤ Lib.index (R.drop 2) [42, 47] then some ((R.drop 2).drop ((Lib.index (R.drop 2) [42, 47]).toNat + 2)) else none)
  else none
/-- Behind all that may stand between two tokens. -/
def betweenL : Nat → List UInt8 → List UInt8
  | 0, R => R
  | n + 1, R =>
    let R1 := R.dropWhile (bytesIn [32, 9, 13])
    if R1.length < R.length then betweenL n R1 else match remarkL R with
      | some R2 => betweenL n R2
      | none => R
theorem dropWhile_le {q : UInt8 → Bool} : ∀ l : List UInt8, (l.dropWhile q).length ≤ l.length
  | [] => by simp
  | c :: l => by
    have := dropWhile_le (q := q) l
    rw [List.dropWhile_cons]
    split
    · simp; omega
    · simp
theorem dropWhile_same {q : UInt8 → Bool} : ∀ l : List UInt8, (l.dropWhile q).length = l.length → l.dropWhile q = l
  | [], _ => rfl
  | c :: l, h => by
    have := dropWhile_le (q := q) l
    rw [List.dropWhile_cons] at h ⊢
    split at h
    · simp at h; omega
    · rename_i hc
      rw [if_neg hc]
theorem prefix_drop {R p : List UInt8} (h : Lib.hasPrefix R p = true) : p.length ≤ R.length := List.IsPrefix.length_le (List.isPrefixOf_iff_prefix.1 h)
theorem remark_less {R R' : List UInt8} (h : remarkL R = some R') : R'.length < R.length := by
  unfold remarkL at h
  split at h
  · rename_i hp
    cases h
    have hd := dropWhile_le (q := notIn [10]) R
    match R, hp with
    | [], hp => simp [Lib.hasPrefix] at hp
    | c :: r, hp =>
      have hc : notIn [10] c = true := by
        have h1 : c = 35 ∨ c = 47 := by
          simp [Lib.hasPrefix, List.isPrefixOf] at hp
          rcases hp with h | h
          · exact .inl h.symm
          · exact .inr h.1.symm
        rcases h1 with rfl | rfl <;> decide
      rw [List.dropWhile_cons_of_pos hc]
      have := dropWhile_le (q := notIn [10]) r
      simp; omega
  · split at h
    · rename_i hp
      have h2 := prefix_drop hp
      split at h
      · cases h
        simp at h2 ⊢
        omega
      · cases h
    · cases h
theorem between_more : ∀ {n m : Nat} {R : List UInt8}, R.length ≤ n → R.length ≤ m → betweenL n R = betweenL m R
  | 0, 0, _, _, _ => rfl
  | 0, m + 1, R, h, _ => by
    obtain rfl : R = [] := List.length_eq_zero_iff.1 (by omega)
    simp [betweenL, remarkL, Lib.hasPrefix]
  | n + 1, 0, R, _, h => by
    obtain rfl : R = [] := List.length_eq_zero_iff.1 (by omega)
    simp [betweenL, remarkL, Lib.hasPrefix]
  | n + 1, m + 1, R, h1, h2 => by
    unfold betweenL
    simp only
    split
    · exact between_more (by omega) (by omega)
    · cases hr : remarkL R with
      | none => rfl
      | some R2 =>
        have := remark_less hr
        exact between_more (by omega) (by omega)
/-- Behind all that may stand between two tokens, of any length. -/
def betweenA (R : List UInt8) : List UInt8 := betweenL R.length R
theorem betweenA_blank {R : List UInt8} (h : (R.dropWhile (bytesIn [32, 9, 13])).length < R.length) : betweenA R = betweenA (R.dropWhile (bytesIn [32, 9, 13])) := by
  unfold betweenA
  obtain ⟨n, hn⟩ : ∃ n, R.length = n + 1 := ⟨R.length - 1, by omega⟩
  rw [hn]
  conv => lhs; unfold betweenL
  simp only
  rw [if_pos h]
  exact between_more (by omega) (Nat.le_refl _)
theorem betweenA_remark {R R' : List UInt8} (h : ¬ (R.dropWhile (bytesIn [32, 9, 13])).length < R.length) (hr : remarkL R = some R') : betweenA R = betweenA R' := by
  unfold betweenA
  have := remark_less hr
  obtain ⟨n, hn⟩ : ∃ n, R.length = n + 1 := ⟨R.length - 1, by omega⟩
  rw [hn]
  conv => lhs; unfold betweenL
  simp only
  rw [if_neg h, hr]
  exact between_more (by omega) (Nat.le_refl _)
theorem betweenA_none {R : List UInt8} (h : ¬ (R.dropWhile (bytesIn [32, 9, 13])).length < R.length) (hr : remarkL R = none) : betweenA R = R := by
  unfold betweenA
  cases hn : R.length with
  | zero => rfl
  | succ n =>
    unfold betweenL
    simp only
    rw [if_neg h, hr]
end Go.Proofs.YtpdepdigacpfiaaDoor
