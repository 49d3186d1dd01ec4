/- Texts, insertions and braces, as functions on what is left. -/
import Derived.Test.YtpdepdigacpfiaaDoorLSpec
namespace Go.Proofs.YtpdepdigacpfiaaDoor
set_option linter.unusedVariables false

/-- What is left, or what is wrong. -/
abbrev Left := Except Int (List UInt8)
def escL : List UInt8 → Left
  | 92 :: c :: r => if [34, 92, 110, 116, 114, 36].contains c then .ok r else .error 40
  | _ => .error 40
/-- What is no sign of one of these, at least one. -/
def runL (q : List UInt8) (R : List UInt8) : Left := if (R.dropWhile (notIn q)).length < R.length then .ok (R.dropWhile (notIn q)) else .error 40
def textPart (b : List UInt8 → Left) (R : List UInt8) : Left :=
  if Lib.hasPrefix R [92] then escL R
  else if Lib.hasPrefix R [36, 123] then b (R.drop 1)
  else if Lib.hasPrefix R [36] then .ok (R.drop 1)
  else runL [34, 92, 36, 10] R
def bracePart (b tx : List UInt8 → Left) (R : List UInt8) : Left :=
  if Lib.hasPrefix R [123] then b R
  else if Lib.hasPrefix R [34] then tx R
  else runL [123, 125, 34, 10] R
/-- Part by part, to an end. -/
def toEnd (part : List UInt8 → Left) (q : UInt8) : Nat → List UInt8 → Left
  | 0, R => .error 40
  | n + 1, R => if Lib.hasPrefix R [q] then .ok (R.drop 1) else match part R with
    | .ok R' => toEnd part q n R'
    | .error c => .error c
def toEndA (part : List UInt8 → Left) (q : UInt8) (R : List UInt8) : Left := toEnd part q (R.length + 1) R
def textL (b : List UInt8 → Left) (R : List UInt8) : Left := toEndA (textPart b) 34 (R.drop 1)
def braceL : Nat → List UInt8 → Left
  | 0, _ => .error 7
  | n + 1, R => toEndA (bracePart (braceL n) (textL (braceL n))) 125 (R.drop 1)
/-- A reader that goes on. -/
def GoesOn (part : List UInt8 → Left) : Prop := ∀ R, (∀ R', part R = .ok R' → R'.length < R.length) ∧ (∀ c, part R = .error c → 0 < c ∧ c < 100)
theorem pre1 {R : List UInt8} {q : UInt8} (h : Lib.hasPrefix R [q] = true) : R = q :: R.drop 1 := by
  match R, h with
  | [], h => simp [Lib.hasPrefix] at h
  | c :: r, h =>
    simp [Lib.hasPrefix, List.isPrefixOf] at h
    simp [h]
theorem esc_on : GoesOn escL := fun R => by
  unfold escL
  split
  · split
    · exact ⟨fun R' h => (by cases h; simp; omega), fun c h => by cases h⟩
    · exact ⟨fun R' h => (by cases h), fun c h => by cases h; decide⟩
  · exact ⟨fun R' h => (by cases h), fun c h => by cases h; decide⟩
theorem run_on (q : List UInt8) : GoesOn (runL q) := fun R => by
  unfold runL
  split
  · exact ⟨fun R' h => (by cases h; assumption), fun c h => by cases h⟩
  · exact ⟨fun R' h => (by cases h), fun c h => by cases h; decide⟩
theorem textPart_on {b : List UInt8 → Left} (hb : GoesOn b) : GoesOn (textPart b) := fun R => by
  unfold textPart
  split
  · exact esc_on R
  · split
    · rename_i h
      have := prefix_drop h
      refine ⟨fun R' h' => ?_, (hb _).2⟩
      have := (hb _).1 R' h'
      simp at *
      omega
    · split
      · rename_i h
        have := prefix_drop h
        simp at this
        exact ⟨fun R' h' => (by cases h'; simp; omega), fun c h' => by cases h'⟩
      · exact run_on _ R
theorem bracePart_on {b tx : List UInt8 → Left} (hb : GoesOn b) (ht : GoesOn tx) : GoesOn (bracePart b tx) := fun R => by
  unfold bracePart
  split
  · exact hb R
  · split
    · exact ht R
    · exact run_on _ R
theorem toEnd_on {part : List UInt8 → Left} (hp : GoesOn part) {q : UInt8} : ∀ n R, (∀ R', toEnd part q n R = .ok R' → R'.length < R.length) ∧ (∀ c, toEnd part q n R = .error c → 0 < c ∧ c < 100)
  | 0, R => ⟨fun R' h => (by cases h), fun c h => by cases h; decide⟩
  | n + 1, R => by
    unfold toEnd
    split
    · rename_i h
      have := prefix_drop h
      simp at this
      exact ⟨fun R' h' => (by cases h'; simp; omega), fun c h' => by cases h'⟩
    · cases hr : part R with
      | ok R1 =>
        have h1 := (hp R).1 R1 hr
        obtain ⟨i1, i2⟩ := toEnd_on hp (q := q) n R1
        exact ⟨fun R' h' => Nat.lt_trans (i1 R' h') h1, i2⟩
      | error c => exact ⟨fun R' h' => (by cases h'), fun c' h' => by cases h'; exact (hp R).2 c hr⟩
theorem textL_on {b : List UInt8 → Left} (hb : GoesOn b) : GoesOn (textL b) := fun R => by
  obtain ⟨h1, h2⟩ := toEnd_on (textPart_on hb) (q := 34) ((R.drop 1).length + 1) (R.drop 1)
  exact ⟨fun R' h => by have := h1 R' h; simp at this; omega, h2⟩
theorem braceL_on : ∀ n, GoesOn (braceL n)
  | 0 => fun R => ⟨fun R' h => (by cases h), fun c h => by cases h; decide⟩
  | n + 1 => fun R => by
    obtain ⟨h1, h2⟩ := toEnd_on (bracePart_on (braceL_on n) (textL_on (braceL_on n))) (q := 125) ((R.drop 1).length + 1) (R.drop 1)
    exact ⟨fun R' h => by have := h1 R' h; simp at this; omega, h2⟩
theorem toEnd_more {part : List UInt8 → Left} (hp : GoesOn part) {q : UInt8} : ∀ {n m : Nat} {R : List UInt8}, R.length < n → R.length < m → toEnd part q n R = toEnd part q m R
  | 0, m, R, h, _ => by omega
  | n + 1, 0, R, _, h => by omega
  | n + 1, m + 1, R, h1, h2 => by
    unfold toEnd
    split
    · rfl
    · cases hr : part R with
      | ok R1 =>
        have h3 := (hp R).1 R1 hr
        exact toEnd_more hp (by omega) (by omega)
      | error c => rfl
theorem toEndA_end {part : List UInt8 → Left} {q : UInt8} {R : List UInt8} (h : Lib.hasPrefix R [q] = true) : toEndA part q R = .ok (R.drop 1) := by
  unfold toEndA toEnd
  rw [if_pos h]
theorem toEndA_part {part : List UInt8 → Left} (hp : GoesOn part) {q : UInt8} {R R' : List UInt8} (h : Lib.hasPrefix R [q] = false) (hr : part R = .ok R') : toEndA part q R = toEndA part q R' := by
  unfold toEndA
  conv => lhs; unfold toEnd
  rw [if_neg (by rw [h]; decide), hr]
  have := (hp R).1 R' hr
  exact toEnd_more hp (by omega) (by omega)
theorem toEndA_err {part : List UInt8 → Left} {q : UInt8} {R : List UInt8} {c : Int} (h : Lib.hasPrefix R [q] = false) (hr : part R = .error c) : toEndA part q R = .error c := by
  unfold toEndA toEnd
  rw [if_neg (by rw [h]; decide), hr]
end Go.Proofs.YtpdepdigacpfiaaDoor
