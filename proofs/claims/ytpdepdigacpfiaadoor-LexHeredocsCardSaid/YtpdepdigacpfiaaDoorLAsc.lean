/- Texts of ASCII bytes: what is read of them, token by token. -/
import Derived.Test.YtpdepdigacpfiaaDoorLChain
namespace Go.Proofs.YtpdepdigacpfiaaDoor
open Go.RowKit
set_option linter.unusedVariables false

def Asc (t : ByteArray) : Prop := ∀ c ∈ t.data.toList, c.toNat < 128
theorem bad_ascii {s : ByteArray} (h : Asc s) : ∀ n p, badFrom s n p = s.size
  | 0, p => rfl
  | n + 1, p => by
    unfold badFrom
    split
    · rename_i hp
      have hl : p < s.data.toList.length := by simpa using hp
      have ha : (s[p]'hp).toNat < 128 := h _ (List.getElem_mem hl)
      have hd := decode_ascii s p hp ha
      have e1 : (Utf8.decode s p).1 = (s[p]'hp).toNat := by rw [hd]
      rw [if_neg (fun hx => by rw [e1] at hx; have := hx.1; omega)]
      exact bad_ascii h n _
    · rfl
/-- All tokens of what is left, behind those that there are. -/
def tokA (sz : Nat) (R : List UInt8) (acc : List Tk) : Except (Int × Nat) (List Tk) := tokL sz (R.length + 1) R acc
theorem scan_ascii {t : ByteArray} (h : Asc t) (hs : t.size ≤ 16384) : scanL t = tokA t.size (betweenA t.data.toList) [] := by
  unfold scanL
  rw [if_neg (by omega), bad_ascii h, if_neg (by omega)]
  have e : rest t 0 = t.data.toList := rfl
  rw [e]
  have h1 := betweenA_le (Nat.le_refl t.data.toList.length)
  have h2 : t.data.toList.length = t.size := by simp
  exact tokL_more (by omega) (by omega)
theorem tokA_nil {sz : Nat} {acc : List Tk} : tokA sz [] acc = .ok acc := rfl
theorem tokA_ok {sz : Nat} {R R' x : List UInt8} {acc : List Tk} {k : Int} (hR : R ≠ []) (h : nextL R = (k, .ok (x, R'))) (hm : acc.length ≠ 4096) : tokA sz R acc = tokA sz (betweenA R') (acc ++ [⟨k, ⟨x.toArray⟩, sz - R.length⟩]) := by
  have hg := (nextL_goes hR).1 x R' (by rw [h])
  have hb := betweenA_le (Nat.le_refl R'.length)
  unfold tokA
  conv => lhs; unfold tokL
  rw [if_neg (by simpa using hR), h]
  simp only
  rw [if_neg hm]
  exact tokL_more (by omega) (by omega)
theorem tokA_err {sz : Nat} {R : List UInt8} {acc : List Tk} {k c : Int} (hR : R ≠ []) (h : nextL R = (k, .error c)) : tokA sz R acc = .error (c, sz - R.length) := by
  unfold tokA tokL
  rw [if_neg (by simpa using hR), h]
theorem tokA_many {sz : Nat} {R R' x : List UInt8} {acc : List Tk} {k : Int} (hR : R ≠ []) (h : nextL R = (k, .ok (x, R'))) (hm : acc.length = 4096) : tokA sz R acc = .error (3, sz - R.length) := by
  unfold tokA tokL
  rw [if_neg (by simpa using hR), h]
  simp only
  rw [if_pos hm]
theorem betweenA_drop (R : List UInt8) : betweenA R = betweenA (R.dropWhile (bytesIn [32, 9, 13])) := by
  by_cases h : (R.dropWhile (bytesIn [32, 9, 13])).length < R.length
  · exact betweenA_blank h
  · have := dropWhile_le (q := bytesIn [32, 9, 13]) R
    rw [dropWhile_same R (by omega)]
theorem between_blank {c : UInt8} {R : List UInt8} (h : bytesIn [32, 9, 13] c = true) : betweenA (c :: R) = betweenA R := by
  rw [betweenA_drop (c :: R), List.dropWhile_cons_of_pos h, ← betweenA_drop]
theorem between_nil : betweenA [] = [] := rfl
theorem remark_none {c : UInt8} {R : List UInt8} (h35 : c ≠ 35) (h47 : c ≠ 47) : remarkL (c :: R) = none := by
  have a : ((35 : UInt8) == c) = false := beq_eq_false_iff_ne.2 (Ne.symm h35)
  have b : ((47 : UInt8) == c) = false := beq_eq_false_iff_ne.2 (Ne.symm h47)
  unfold remarkL
  simp [Lib.hasPrefix, List.isPrefixOf, a, b]
theorem between_token {c : UInt8} {R : List UInt8} (h : bytesIn [32, 9, 13] c = false) (h35 : c ≠ 35) (h47 : c ≠ 47) : betweenA (c :: R) = c :: R :=
  betweenA_none (by rw [List.dropWhile_cons_of_neg (by rw [h]; decide)]; omega) (remark_none h35 h47)
/-- A byte of a text. -/
def At (t : ByteArray) (a : Nat) (c : UInt8) : Prop := t.data.toList[a]? = some c
theorem At.rest {t : ByteArray} {a : Nat} {c : UInt8} (h : At t a c) : rest t a = c :: Proofs.YtpdepdigacpfiaaDoor.rest t (a + 1) := by
  obtain ⟨h1, h2⟩ := List.getElem?_eq_some_iff.1 h
  unfold Proofs.YtpdepdigacpfiaaDoor.rest
  rw [List.drop_eq_getElem_cons h1, h2]
theorem next_plus (S : List UInt8) : nextL (43 :: 32 :: S) = (4, .ok ([43], 32 :: S)) := by rfl
theorem blanks {t : ByteArray} : ∀ (k a : Nat), (∀ j, a ≤ j → j < a + k → At t j 32) → betweenA (rest t a) = betweenA (rest t (a + k))
  | 0, a, _ => rfl
  | k + 1, a, h => by
    rw [(h a (Nat.le_refl _) (by omega)).rest, between_blank (by decide), blanks k (a + 1) (fun j h1 h2 => h j (by omega) (by omega)), show a + 1 + k = a + (k + 1) by omega]
theorem pluses {t : ByteArray} : ∀ (k a : Nat) (acc : List Tk), acc.length + k ≤ 4096 → (∀ j, j < k → At t (a + 2 * j) 43 ∧ At t (a + 2 * j + 1) 32) → ∃ acc', acc'.length = acc.length + k ∧ tokA t.size (betweenA (rest t a)) acc = tokA t.size (betweenA (rest t (a + 2 * k))) acc'
  | 0, a, acc, _, _ => ⟨acc, rfl, rfl⟩
  | k + 1, a, acc, hm, h => by
    obtain ⟨h1, h2⟩ := h 0 (by omega)
    rw [Nat.mul_zero, Nat.add_zero] at h1 h2
    obtain ⟨acc', e1, e2⟩ := pluses k (a + 2) (acc ++ [⟨4, ⟨#[43]⟩, t.size - (rest t a).length⟩]) (by simp; omega) (fun j hj => by
      have := h (j + 1) (by omega)
      rwa [show a + 2 * (j + 1) = a + 2 + 2 * j by omega] at this)
    refine ⟨acc', by rw [e1]; simp; omega, ?_⟩
    rw [show a + 2 * (k + 1) = a + 2 + 2 * k by omega, ← e2]
    have hR : rest t a = 43 :: 32 :: rest t (a + 2) := by rw [h1.rest, h2.rest]
    rw [hR, between_token (by decide) (by decide) (by decide), tokA_ok (by simp) (next_plus _) (by omega), between_blank (by decide)]
end Go.Proofs.YtpdepdigacpfiaaDoor
