/- Tokens, as a function on what is left. -/
import Derived.Test.YtpdepdigacpfiaaDoorLNext
namespace Go.Proofs.YtpdepdigacpfiaaDoor
open Go.RowKit Go.Shelf
set_option linter.unusedVariables false

/-- A reader of tokens that goes on, by no more bytes than four for one. -/
def TGoes (R : List UInt8) (r : Except Int (List UInt8 × List UInt8)) : Prop := (∀ x R', r = .ok (x, R') → R'.length < R.length ∧ x.length ≤ 4 * R.length) ∧ (∀ c, r = .error c → 0 < c ∧ c < 100)
theorem tookL_le (R R' : List UInt8) : (tookL R R').length ≤ R.length := by unfold tookL; simp
theorem escFrom_le (s : ByteArray) : ∀ n pos, (escFrom s n pos).length ≤ 4 * n
  | 0, _ => by simp [escFrom]
  | n + 1, pos => by
    unfold escFrom
    split
    · have h1 := (escRune_le (Utf8.decode s pos).1).2
      have h2 := escFrom_le s n (pos + (Utf8.decode s pos).2)
      simp; omega
    · simp
theorem hereL_goes {nm B : List UInt8} : ∀ {n : Nat} {R : List UInt8}, (∀ x R', hereL n nm B R = .ok (x, R') → R'.length < R.length ∧ x.length ≤ 4 * B.length) ∧ (∀ c, hereL n nm B R = .error c → 0 < c ∧ c < 100)
  | 0, R => ⟨fun x R' h => (by cases h), fun c h => (by cases h; decide)⟩
  | n + 1, R => by
    unfold hereL
    split
    · rename_i hp
      have h3 := prefix_drop hp
      have h4 := dropWhile_le (q := notIn [10]) (R.drop 1)
      simp at h3 h4
      split
      · refine ⟨fun x R' h => ?_, fun c h => (by cases h)⟩
        cases h
        refine ⟨by simp; omega, ?_⟩
        have := escFrom_le ⟨(tookL B (R.drop 1)).toArray⟩ (tookL B (R.drop 1)).length 0
        have := tookL_le B (R.drop 1)
        unfold escB
        omega
      · obtain ⟨i1, i2⟩ := hereL_goes (nm := nm) (B := B) (n := n) (R := (R.drop 1).dropWhile (notIn [10]))
        refine ⟨fun x R' h => ?_, i2⟩
        obtain ⟨a, b⟩ := i1 x R' h
        exact ⟨by simp at a; omega, b⟩
    · exact ⟨fun x R' h => (by cases h), fun c h => (by cases h; decide)⟩
theorem nextL_goes {R : List UInt8} (hR : R ≠ []) : TGoes R (nextL R).2 := by
  unfold nextL
  match R, hR with
  | c :: r, _ =>
    simp only
    split
    · refine ⟨fun x R' h => ?_, fun c h => (by cases h)⟩
      cases h
      simp
      omega
    · split
      · unfold quotedL
        obtain ⟨h1, h2⟩ := textL_on (braceL_on 24) (c :: r)
        cases hr : textL (braceL 24) (c :: r) with
        | ok R1 =>
          refine ⟨fun x R' h => ?_, fun c h => (by cases h)⟩
          cases h
          refine ⟨h1 _ hr, ?_⟩
          simp; omega
        | error d =>
          exact ⟨fun x R' h => (by cases h), fun c h => (by cases h; exact h2 _ hr)⟩
      · split
        · rename_i hp
          have h3 := prefix_drop hp
          unfold heredocL
          split
          · obtain ⟨i1, i2⟩ := hereL_goes (nm := tookL ((c :: r).drop 2) (wordL ((c :: r).drop 2))) (B := (wordL ((c :: r).drop 2)).drop 1) (n := (wordL ((c :: r).drop 2)).length + 1) (R := wordL ((c :: r).drop 2))
            have h5 := wordL_le ((c :: r).drop 2)
            refine ⟨fun x R' h => ?_, i2⟩
            obtain ⟨a, b⟩ := i1 x R' h
            have h6 : ((c :: r).drop 2).length = (c :: r).length - 2 := List.length_drop
            rw [List.length_drop] at b
            simp only [List.length_cons, List.length_nil] at *
            omega
          · exact ⟨fun x R' h => (by cases h), fun c h => (by cases h; decide)⟩
        · split
          · rename_i hd
            unfold numberL
            have h4 := dropWhile_le (q := digB) r
            split
            · exact ⟨fun x R' h => (by cases h), fun c h => (by cases h; decide)⟩
            · split
              · refine ⟨fun x R' h => ?_, fun c h => (by cases h)⟩
                cases h
                have := tookL_le (c :: r) ((c :: r).dropWhile digB)
                rw [List.dropWhile_cons_of_pos hd] at *
                simp at *
                omega
              · split
                · exact ⟨fun x R' h => (by cases h), fun c h => (by cases h; decide)⟩
                · exact ⟨fun x R' h => (by cases h), fun c h => (by cases h; decide)⟩
          · split
            · rename_i hl
              unfold nameL
              have h4 := dropWhile_le (q := wordB) r
              split
              · exact ⟨fun x R' h => (by cases h), fun c h => (by cases h; decide)⟩
              · refine ⟨fun x R' h => ?_, fun c h => (by cases h)⟩
                cases h
                have := tookL_le (c :: r) (wordL (c :: r))
                rw [wordL_cons, if_pos hl] at *
                simp at *
                omega
            · unfold signL
              split
              · exact ⟨fun x R' h => (by cases h), fun c h => (by cases h; decide)⟩
              · split
                · rename_i s hs
                  have hm : ∀ (l : List ByteArray), (∀ y ∈ l, 1 ≤ y.size) → firstSign (c :: r) l = some s → 1 ≤ s.size ∧ Lib.hasPrefix (c :: r) s.data.toList = true := by
                    intro l
                    induction l with
                    | nil => intro _ h; cases h
                    | cons y l ih =>
                      intro hy h
                      unfold firstSign at h
                      split at h
                      · cases h
                        exact ⟨hy _ List.mem_cons_self, by assumption⟩
                      · exact ih (fun z hz => hy z (List.mem_cons_of_mem _ hz)) h
                  obtain ⟨h1, h2⟩ := hm signsB (by decide) hs
                  have h3 := prefix_drop h2
                  refine ⟨fun x R' h => ?_, fun c h => (by cases h)⟩
                  cases h
                  have hs2 : s.data.toList.length = s.size := by simp
                  simp only [List.length_drop, List.length_cons] at *
                  omega
                · exact ⟨fun x R' h => (by cases h), fun c h => (by cases h; decide)⟩
/-- A token: its kind, its text, its first byte. -/
structure Tk where
  k : Int
  x : ByteArray
  at_ : Nat
/-- All tokens of what is left, behind those that there are. -/
def tokL (sz : Nat) : Nat → List UInt8 → List Tk → Except (Int × Nat) (List Tk)
  | 0, R, acc => .error (0, 0)
  | n + 1, R, acc => if R.isEmpty then .ok acc else match (nextL R).2 with
    | .error c => .error (c, sz - R.length)
    | .ok (x, R') => if acc.length = 4096 then .error (3, sz - R.length) else tokL sz n (betweenA R') (acc ++ [⟨(nextL R).1, ⟨x.toArray⟩, sz - R.length⟩])
theorem betweenA_le : ∀ {n : Nat} {R : List UInt8}, R.length ≤ n → (betweenA R).length ≤ R.length
  | n, R, hn => by
    by_cases h : (R.dropWhile (bytesIn [32, 9, 13])).length < R.length
    · obtain ⟨m, rfl⟩ : ∃ m, n = m + 1 := ⟨n - 1, by omega⟩
      rw [betweenA_blank h]
      have := betweenA_le (n := m) (R := R.dropWhile (bytesIn [32, 9, 13])) (by omega)
      omega
    · cases hr : remarkL R with
      | some R2 =>
        have h1 := remark_less hr
        obtain ⟨m, rfl⟩ : ∃ m, n = m + 1 := ⟨n - 1, by omega⟩
        rw [betweenA_remark h hr]
        have := betweenA_le (n := m) (R := R2) (by omega)
        omega
      | none => rw [betweenA_none h hr]; exact Nat.le_refl _
termination_by n => n
theorem tokL_more {sz : Nat} : ∀ {n m : Nat} {R : List UInt8} {acc : List Tk}, R.length < n → R.length < m → tokL sz n R acc = tokL sz m R acc
  | 0, m, R, acc, h, _ => by omega
  | n + 1, 0, R, acc, _, h => by omega
  | n + 1, m + 1, R, acc, h1, h2 => by
    unfold tokL
    split
    · rfl
    · rename_i hR
      have hne : R ≠ [] := by intro e; subst e; simp at hR
      have hg := nextL_goes hne
      cases hr : (nextL R).2 with
      | error c => rfl
      | ok p =>
        obtain ⟨x, R'⟩ := p
        have h3 := (hg.1 x R' hr).1
        have h4 := betweenA_le (Nat.le_refl R'.length)
        simp only
        split
        · rfl
        · exact tokL_more (by omega) (by omega)
end Go.Proofs.YtpdepdigacpfiaaDoor
