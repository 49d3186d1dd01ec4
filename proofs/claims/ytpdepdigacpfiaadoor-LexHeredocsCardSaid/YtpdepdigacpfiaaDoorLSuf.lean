/- What is left is always an end of what was left. -/
import Derived.Test.YtpdepdigacpfiaaDoorLTokMath
namespace Go.Proofs.YtpdepdigacpfiaaDoor
open Go.RowKit
set_option linter.unusedVariables false

def EndOn (part : List UInt8 → Left) : Prop := ∀ R R', part R = .ok R' → R' <:+ R
theorem esc_end : EndOn escL := fun R R' h => by
  unfold escL at h
  split at h
  · split at h
    · cases h; exact ⟨_ :: _ :: [], rfl⟩
    · cases h
  · cases h
theorem run_end (q : List UInt8) : EndOn (runL q) := fun R R' h => by
  unfold runL at h
  split at h
  · cases h; exact List.dropWhile_suffix _
  · cases h
theorem textPart_end {b : List UInt8 → Left} (hb : EndOn b) : EndOn (textPart b) := fun R R' h => by
  unfold textPart at h
  split at h
  · exact esc_end R R' h
  · split at h
    · exact (hb _ _ h).trans (List.drop_suffix _ _)
    · split at h
      · cases h; exact List.drop_suffix _ _
      · exact run_end _ R R' h
theorem bracePart_end {b tx : List UInt8 → Left} (hb : EndOn b) (ht : EndOn tx) : EndOn (bracePart b tx) := fun R R' h => by
  unfold bracePart at h
  split at h
  · exact hb R R' h
  · split at h
    · exact ht R R' h
    · exact run_end _ R R' h
theorem toEnd_end {part : List UInt8 → Left} (hp : EndOn part) {q : UInt8} : ∀ n R R', toEnd part q n R = .ok R' → R' <:+ R
  | 0, R, R', h => by cases h
  | n + 1, R, R', h => by
    unfold toEnd at h
    split at h
    · cases h; exact List.drop_suffix _ _
    · cases hr : part R with
      | ok R1 => rw [hr] at h; exact (toEnd_end hp n R1 R' h).trans (hp R R1 hr)
      | error c => rw [hr] at h; cases h
theorem textL_end {b : List UInt8 → Left} (hb : EndOn b) : EndOn (textL b) := fun R R' h => (toEnd_end (textPart_end hb) _ _ _ h).trans (List.drop_suffix _ _)
theorem braceL_end : ∀ n, EndOn (braceL n)
  | 0 => fun R R' h => by cases h
  | n + 1 => fun R R' h => (toEnd_end (bracePart_end (braceL_end n) (textL_end (braceL_end n))) _ _ _ h).trans (List.drop_suffix _ _)
theorem remark_end {R R' : List UInt8} (h : remarkL R = some R') : R' <:+ R := by
  unfold remarkL at h
  split at h
  · cases h; exact List.dropWhile_suffix _
  · split at h
    · split at h
      · cases h; exact (List.drop_suffix _ _).trans (List.drop_suffix _ _)
      · cases h
    · cases h
theorem betweenL_end : ∀ n R, betweenL n R <:+ R
  | 0, R => List.suffix_refl _
  | n + 1, R => by
    unfold betweenL
    simp only
    split
    · exact (betweenL_end n _).trans (List.dropWhile_suffix _)
    · split
      · rename_i R2 hr
        exact (betweenL_end n _).trans (remark_end hr)
      · exact List.suffix_refl _
theorem betweenA_end (R : List UInt8) : betweenA R <:+ R := betweenL_end _ _
theorem wordL_end : ∀ R : List UInt8, wordL R <:+ R
  | [] => List.suffix_refl _
  | c :: r => by
    rw [wordL_cons]
    split
    · exact (List.dropWhile_suffix _).trans (List.suffix_cons c r)
    · exact List.suffix_refl _
theorem tookL_len {R R' : List UInt8} (h : R'.length ≤ R.length) : (tookL R R').length = R.length - R'.length := by unfold tookL; simp
theorem hereL_end {nm B : List UInt8} : ∀ n R x R', hereL n nm B R = .ok (x, R') → R' <:+ R ∧ R'.length + 1 + nm.length ≤ R.length
  | 0, R, x, R', h => by cases h
  | n + 1, R, x, R', h => by
    unfold hereL at h
    split at h
    · rename_i hp
      have h3 := prefix_drop hp
      have h4 := dropWhile_le (q := notIn [10]) (R.drop 1)
      replace h3 : 1 ≤ R.length := h3
      rw [List.length_drop] at h4
      split at h
      · rename_i hn
        cases h
        refine ⟨(List.dropWhile_suffix _).trans (List.drop_suffix _ _), ?_⟩
        have h5 : nm = _ := (beq_iff_eq.1 hn).symm
        have h6 := dropWhile_le (q := fun c => [32, 9].contains c) (tookL (R.drop 1) ((R.drop 1).dropWhile (notIn [10])))
        have h7 : nm.length ≤ (tookL (R.drop 1) ((R.drop 1).dropWhile (notIn [10]))).length := by rw [h5]; exact h6
        rw [tookL_len (dropWhile_le _), List.length_drop] at h7
        omega
      · obtain ⟨i1, i2⟩ := hereL_end n _ _ _ h
        refine ⟨i1.trans ((List.dropWhile_suffix _).trans (List.drop_suffix _ _)), ?_⟩
        omega
    · cases h
theorem heredocL_end {R x R' : List UInt8} (h : heredocL R = .ok (x, R')) : R' <:+ R ∧ R'.length + 5 ≤ R.length := by
  unfold heredocL at h
  split at h
  · rename_i hw
    obtain ⟨h1, h2⟩ := hereL_end _ _ _ _ h
    have h3 := wordL_le (R.drop 2)
    rw [tookL_len h3] at h2
    simp at *
    exact ⟨h1.trans ((wordL_end _).trans (List.drop_suffix _ _)), by omega⟩
  · cases h
/-- Where a token stands in what is left. -/
structure Stood (c : UInt8) (R : List UInt8) (k : Int) (x R' : List UInt8) : Prop where
  fin : R' <:+ R
  kind : k ≠ 0
  less : R'.length < R.length
  plain : k ≠ 3 → x = R.take x.length ∧ R'.length + x.length ≤ R.length
  text : k = 3 → (c = 60 ∧ R'.length + 5 ≤ R.length) ∨ (c ≠ 60 ∧ x = (R.drop 1).take x.length ∧ R'.length + x.length + 1 ≤ R.length)
theorem took_stands {R R' : List UInt8} (h : R' <:+ R) : tookL R R' = R.take (tookL R R').length ∧ R'.length + (tookL R R').length ≤ R.length := by
  have hl := h.length_le
  rw [tookL_len hl]
  exact ⟨rfl, by omega⟩
theorem firstSign_some {R : List UInt8} : ∀ {l : List ByteArray} {s : ByteArray}, firstSign R l = some s → Lib.hasPrefix R s.data.toList = true
  | [], s, h => by cases h
  | y :: l, s, h => by
    unfold firstSign at h
    split at h
    · cases h; assumption
    · exact firstSign_some h
theorem nextL_stood {c : UInt8} {r : List UInt8} {k : Int} {x R' : List UInt8} (h : nextL (c :: r) = (k, .ok (x, R'))) : Stood c (c :: r) k x R' := by
  have hl := ((nextL_goes (R := c :: r) (by simp)).1 x R' (by rw [h])).1
  unfold nextL at h
  simp only at h
  split at h
  · cases h
    exact ⟨List.suffix_cons _ _, by decide, hl, fun _ => ⟨by subst_vars; simp, by simp⟩, fun h => absurd h (by decide)⟩
  · split at h
    · rename_i h10 h34
      cases h' : quotedL (c :: r) with
      | error d => rw [h'] at h; cases h
      | ok p =>
        rw [h'] at h
        cases h
        unfold quotedL at h'
        cases ht : textL (braceL 24) (c :: r) with
        | error d => rw [ht] at h'; cases h'
        | ok R1 =>
          rw [ht] at h'
          cases h'
          have h1 := textL_end (braceL_end 24) _ _ ht
          refine ⟨h1, by decide, hl, fun h => absurd rfl h, fun _ => .inr ⟨by subst h34; decide, ?_, ?_⟩⟩
          · simp only [List.length_take]
            rw [List.take_eq_take_iff]
            simp
          · simp at hl ⊢
            omega
    · split at h
      · rename_i h60
        have h2 := pre2 h60
        cases h' : heredocL (c :: r) with
        | error d => rw [h'] at h; cases h
        | ok p =>
          rw [h'] at h
          cases h
          obtain ⟨h3, h4⟩ := heredocL_end h'
          exact ⟨h3, by decide, hl, fun h => absurd rfl h, fun _ => .inl ⟨by injection h2, h4⟩⟩
      · split at h
        · cases h' : numberL (c :: r) with
          | error d => rw [h'] at h; cases h
          | ok p =>
            rw [h'] at h
            cases h
            unfold numberL at h'
            split at h'
            · cases h'
            · split at h'
              · cases h'
                exact ⟨List.dropWhile_suffix _, by decide, hl, fun _ => took_stands (List.dropWhile_suffix _), fun h => absurd h (by decide)⟩
              · split at h' <;> cases h'
        · split at h
          · cases h' : nameL (c :: r) with
            | error d => rw [h'] at h; cases h
            | ok p =>
              rw [h'] at h
              cases h
              unfold nameL at h'
              split at h'
              · cases h'
              · cases h'
                exact ⟨wordL_end _, by decide, hl, fun _ => took_stands (wordL_end _), fun h => absurd h (by decide)⟩
          · cases h' : signL (c :: r) with
            | error d => rw [h'] at h; cases h
            | ok p =>
              rw [h'] at h
              cases h
              unfold signL at h'
              split at h'
              · cases h'
              · split at h'
                · rename_i s hs
                  cases h'
                  have hp := firstSign_some hs
                  have hp2 := List.isPrefixOf_iff_prefix.1 hp
                  refine ⟨List.drop_suffix _ _, by decide, hl, fun _ => ⟨?_, ?_⟩, fun h => absurd h (by decide)⟩
                  · exact (List.prefix_iff_eq_take.1 hp2)
                  · have := hp2.length_le
                    have e : s.data.toList.length = s.size := by simp
                    rw [List.length_drop]
                    omega
                · cases h'
end Go.Proofs.YtpdepdigacpfiaaDoor
