/- . -/
import Derived.Lib.RuneCount
import Derived.Test.YtljgggohjigaoaaGreatDoorSk07
import Derived.Test.YtljgggohjigaoaaGreatDoorSk17
import Derived.Test.YtljgggohjigaoaaGreatDoorSk40
namespace Go.Proofs.YtljgggohjigaoaaGreatDoor
set_option linter.unusedVariables false

section
variable {b : List UInt8}
theorem pre_more : ∀ (p R : List UInt8), (10 : UInt8) ∉ p → p.isPrefixOf (R ++ 10 :: b) = p.isPrefixOf R
 | [], R, _ => by cases R <;> rfl
 | c :: p, [], h => by
  have hc : c ≠ 10 := fun e => h (by rw [e]; exact List.mem_cons_self)
  simp [List.isPrefixOf, hc]
 | c :: p, x :: r, h => by
  have := pre_more p r (fun e => h (List.mem_cons_of_mem _ e))
  simp only [List.cons_append, List.isPrefixOf, this]
theorem has_more {p : List UInt8} (R : List UInt8) (h : (10 : UInt8) ∉ p) : Lib.hasPrefix (R ++ 10 :: b) p = Lib.hasPrefix R p := pre_more p R h
theorem drop_more {q : UInt8 → Bool} (h : q 10 = false) : ∀ R : List UInt8, (R ++ 10 :: b).dropWhile q = R.dropWhile q ++ 10 :: b
 | [] => by rw [List.nil_append, List.dropWhile_cons, if_neg (by rw [h]; decide)]; rfl
 | c :: r => by
  rw [List.cons_append, List.dropWhile_cons, List.dropWhile_cons]
  split
  ·exact drop_more h r
  ·rfl
theorem has_some {c : UInt8} {p R : List UInt8} (h : Lib.hasPrefix R (c :: p) = true) : R ≠ [] := fun e => by
 rw [e] at h
 cases h
theorem drop1_more {R : List UInt8} (h : R ≠ []) : (R ++ 10 :: b).drop 1 = R.drop 1 ++ 10 :: b := by
 cases R with
 | nil => exact absurd rfl h
 | cons c r => rfl
def MoreOn (part : List UInt8 → Left) : Prop := ∀ R R', R ≠ [] → part R = .ok R' → ∀ b, part (R ++ 10 :: b) = .ok (R' ++ 10 :: b)
theorem esc_more : MoreOn escL := fun R R' hR h b => by
 unfold escL at h
 split at h
 ·split at h
  ·rename_i c r hc
   cases h
   show escL (92 :: c :: (_ ++ 10 :: b)) = _
   unfold escL
   simp only
   rw [if_pos hc]
  ·cases h
 ·cases h
theorem run_more {q : List UInt8} (hq : notIn q 10 = false) : MoreOn (runL q) := fun R R' _ h b => by
 unfold runL at h ⊢
 rw [drop_more hq]
 split at h
 ·rename_i hl
  cases h
  rw [if_pos (by simp only [List.length_append]; omega)]
 ·cases h
theorem textPart_more {bl : List UInt8 → Left} (hb : MoreOn bl) : MoreOn (textPart bl) := fun R R' hR h b => by
 unfold textPart at h ⊢
 rw [has_more R (by decide), has_more R (by decide), has_more R (by decide)]
 split at h
 ·rename_i h1
  rw [if_pos h1]
  exact esc_more R R' hR h b
 ·rename_i h1
  rw [if_neg h1]
  split at h
  ·rename_i h2
   rw [if_pos h2, drop1_more hR]
   refine hb _ _ (fun e => ?_) h b
   cases R with
   | nil => exact hR rfl
   | cons c r =>
    cases r with
    | nil => simp [Lib.hasPrefix, List.isPrefixOf] at h2
    | cons d r => cases e
  ·rename_i h2
   rw [if_neg h2]
   split at h
   ·rename_i h3
    cases h
    rw [if_pos h3, drop1_more hR]
   ·rename_i h3
    rw [if_neg h3]
    exact run_more (by decide) R R' hR h b
theorem bracePart_more {bl tx : List UInt8 → Left} (hb : MoreOn bl) (ht : MoreOn tx) : MoreOn (bracePart bl tx) := fun R R' hR h b => by
 unfold bracePart at h ⊢
 rw [has_more R (by decide), has_more R (by decide)]
 split at h
 ·rename_i h1
  rw [if_pos h1]
  exact hb R R' hR h b
 ·rename_i h1
  rw [if_neg h1]
  split at h
  ·rename_i h2
   rw [if_pos h2]
   exact ht R R' hR h b
  ·rename_i h2
   rw [if_neg h2]
   exact run_more (by decide) R R' hR h b
theorem run_nil (q R' : List UInt8) : runL q [] ≠ .ok R' := fun h => by
 unfold runL at h
 rw [if_neg (by simp)] at h
 cases h
theorem textPart_nil {bl : List UInt8 → Left} (R' : List UInt8) : textPart bl [] ≠ .ok R' := fun h => run_nil [34, 92, 36, 10] R' h
theorem bracePart_nil {bl tx : List UInt8 → Left} (R' : List UInt8) : bracePart bl tx [] ≠ .ok R' := fun h => run_nil [123, 125, 34, 10] R' h
theorem end_more {part : List UInt8 → Left} (hp : MoreOn part) (h0 : ∀ R', part [] ≠ .ok R') {q : UInt8} (hq : q ≠ 10) : ∀ n m R R', n ≤ m → toEnd part q n R = .ok R' → ∀ b, toEnd part q m (R ++ 10 :: b) = .ok (R' ++ 10 :: b) := by
 intro n
 induction n with
 | zero => intro m R R' _ h; cases h
 | succ n ih =>
  intro m R R' hm h b
  obtain ⟨m, rfl⟩ : ∃ k, m = k + 1 := ⟨m - 1, by omega⟩
  have hR : R ≠ [] := fun e => by
   rw [e] at h
   unfold toEnd at h
   rw [if_neg (by simp [Lib.hasPrefix, List.isPrefixOf])] at h
   cases hr : part [] with
   | ok R1 => exact h0 R1 hr
   | error c => rw [hr] at h; cases h
  unfold toEnd at h ⊢
  rw [has_more R (by simp [Ne.symm hq])]
  split at h
  ·rename_i h1
   cases h
   rw [if_pos h1, drop1_more hR]
  ·rename_i h1
   rw [if_neg h1]
   cases hr : part R with
   | ok R1 =>
    rw [hr] at h
    rw [hp R R1 hR hr b]
    exact ih m R1 R' (by omega) h b
   | error c => rw [hr] at h; cases h
theorem textL_more {bl : List UInt8 → Left} (hb : MoreOn bl) : MoreOn (textL bl) := fun R R' hR h b => by
 unfold textL toEndA at h ⊢
 rw [drop1_more hR]
 exact end_more (textPart_more hb) textPart_nil (by decide) _ _ _ _ (by simp only [List.length_append]; omega) h b
theorem braceL_more : ∀ n, MoreOn (braceL n)
 | 0 => fun R R' _ h => by cases h
 | n + 1 => fun R R' hR h b => by
  unfold braceL toEndA at h ⊢
  rw [drop1_more hR]
  exact end_more (bracePart_more (braceL_more n) (textL_more (braceL_more n))) bracePart_nil (by decide) _ _ _ _ (by simp only [List.length_append]; omega) h b
end
end Go.Proofs.YtljgggohjigaoaaGreatDoor
namespace Go.Proofs.YtljgggohjigaoaaGreatDoor
set_option linter.unusedVariables false

section
variable {b : List UInt8}
theorem took_more (R R' : List UInt8) : tookL (R ++ 10 :: b) (R' ++ 10 :: b) = tookL R R' := by
 unfold tookL
 have : (R ++ 10 :: b).length - (R' ++ 10 :: b).length = R.length - R'.length := by simp only [List.length_append]; omega
 rw [this, List.take_append_of_le_length (by omega)]
theorem wordL_more : ∀ R : List UInt8, wordL (R ++ 10 :: b) = wordL R ++ 10 :: b
 | [] => by
  show (if letB 10 then b.dropWhile wordB else 10 :: b) = 10 :: b
  rw [if_neg (by decide)]
 | c :: r => by
  show (if letB c then (r ++ 10 :: b).dropWhile wordB else c :: (r ++ 10 :: b)) = (if letB c then r.dropWhile wordB else c :: r) ++ 10 :: b
  by_cases h : letB c = true
  ·rw [if_pos h, if_pos h]
   exact drop_more (q := wordB) (by decide) r
  ·rw [if_neg h, if_neg h]
   rfl
theorem len_more (R R' : List UInt8) : (R' ++ 10 :: b).length < (R ++ 10 :: b).length ↔ R'.length < R.length := by
 simp only [List.length_append]; omega
theorem sub_more (R R' : List UInt8) : (R ++ 10 :: b).length - (R' ++ 10 :: b).length = R.length - R'.length := by
 simp only [List.length_append]; omega
theorem quoted_more {R x R' : List UInt8} (hR : R ≠ []) (h : quotedL R = .ok (x, R')) : quotedL (R ++ 10 :: b) = .ok (x, R' ++ 10 :: b) := by
 unfold quotedL at h ⊢
 cases hq : textL (braceL 24) R with
 | error c => rw [hq] at h; cases h
 | ok Q =>
  rw [hq] at h
  cases h
  rw [textL_more (braceL_more 24) R _ hR hq b]
  simp only
  rw [sub_more, drop1_more hR, List.take_append_of_le_length (by simp only [List.length_drop]; omega)]
theorem name_more {R x R' : List UInt8} (h : nameL R = .ok (x, R')) : nameL (R ++ 10 :: b) = .ok (x, R' ++ 10 :: b) := by
 unfold nameL at h ⊢
 rw [wordL_more, sub_more, took_more]
 split at h
 ·cases h
 ·rename_i h1
  cases h
  rw [if_neg h1]
theorem number_more {R x R' : List UInt8} (h : numberL R = .ok (x, R')) : numberL (R ++ 10 :: b) = .ok (x, R' ++ 10 :: b) := by
 unfold numberL at h ⊢
 rw [drop_more (by decide), wordL_more, took_more]
 split at h
 ·cases h
 ·rename_i h1
  rw [if_neg (fun e => h1 ((len_more _ _).1 e))]
  split at h
  ·rename_i h2
   cases h
   rw [if_pos h2]
  ·split at h
   ·cases h
   ·cases h
theorem dropn_more : ∀ (n : Nat) (R : List UInt8), n ≤ R.length → (R ++ 10 :: b).drop n = R.drop n ++ 10 :: b := fun n R h => List.drop_append_of_le_length h
theorem sign_more {R x R' : List UInt8} (h : signL R = .ok (x, R')) : signL (R ++ 10 :: b) = .ok (x, R' ++ 10 :: b) := by
 have hf : ∀ l : List ByteArray, (∀ s ∈ l, (10 : UInt8) ∉ s.data.toList) → firstSign (R ++ 10 :: b) l = firstSign R l := by
  intro l
  induction l with
  | nil => intro _; rfl
  | cons s l ih =>
   intro hl
   unfold firstSign
   rw [has_more R (hl s List.mem_cons_self), ih fun t ht => hl t (List.mem_cons_of_mem _ ht)]
 unfold signL at h ⊢
 rw [has_more R (by decide), hf signsB (by decide)]
 split at h
 ·cases h
 ·rename_i h1
  rw [if_neg h1]
  cases hs : firstSign R signsB with
  | none => rw [hs] at h; cases h
  | some s =>
   rw [hs] at h
   cases h
   have hp := firstSign_some hs
   have hl := (List.isPrefixOf_iff_prefix.1 hp).length_le
   simp only
   rw [dropn_more _ _ (by simpa using hl)]
theorem here_more {nm : List UInt8} : ∀ (n m : Nat) (B R x R' : List UInt8), n ≤ m → hereL n nm B R = .ok (x, R') → hereL m nm (B ++ 10 :: b) (R ++ 10 :: b) = .ok (x, R' ++ 10 :: b) := by
 intro n
 induction n with
 | zero => intro m B R x R' _ h; cases h
 | succ n ih =>
  intro m B R x R' hm h
  obtain ⟨m, rfl⟩ : ∃ k, m = k + 1 := ⟨m - 1, by omega⟩
  unfold hereL at h ⊢
  split at h
  ·rename_i hp
   have hR := has_some hp
   have hp2 : Lib.hasPrefix (R ++ 10 :: b) [10] = true := by
    cases R with
    | nil => exact absurd rfl hR
    | cons c r =>
     simp only [Lib.hasPrefix, List.isPrefixOf, Bool.and_true] at hp
     simp only [Lib.hasPrefix, List.cons_append, List.isPrefixOf, Bool.and_true]
     exact hp
   rw [if_pos hp2, drop1_more hR, drop_more (by decide), took_more, took_more]
   split at h
   ·rename_i h2
    cases h
    rw [if_pos h2]
   ·rename_i h2
    rw [if_neg h2]
    exact ih m B _ x R' (by omega) h
  ·cases h
theorem heredoc_more {R x R' : List UInt8} (hp : Lib.hasPrefix R [60, 60] = true) (h : heredocL R = .ok (x, R')) : heredocL (R ++ 10 :: b) = .ok (x, R' ++ 10 :: b) := by
 have h2 : 2 ≤ R.length := (List.isPrefixOf_iff_prefix.1 hp).length_le
 unfold heredocL at h ⊢
 rw [dropn_more 2 R h2, wordL_more, took_more]
 split at h
 ·rename_i h1
  have hR : wordL (R.drop 2) ≠ [] := fun e => by
   rw [e] at h
   unfold hereL at h
   rw [if_neg (by simp [Lib.hasPrefix, List.isPrefixOf])] at h
   cases h
  rw [if_pos ((len_more _ _).2 h1), drop1_more hR]
  exact here_more _ _ _ _ _ _ (by simp only [List.length_append]; omega) h
 ·cases h
theorem next_more {R x R' : List UInt8} (hR : R ≠ []) (h : (nextL R).2 = .ok (x, R')) : nextL (R ++ 10 :: b) = ((nextL R).1, .ok (x, R' ++ 10 :: b)) := by
 cases R with
 | nil => exact absurd rfl hR
 | cons c r =>
  rw [List.cons_append]
  have hh := has_more (b := b) (p := [60, 60]) (c :: r) (by decide)
  rw [List.cons_append] at hh
  unfold nextL at h ⊢
  simp only at h ⊢
  rw [hh]
  by_cases h1 : c = 10
  ·rw [if_pos h1] at h ⊢
   cases h
   rw [if_pos h1]
   rfl
  ·rw [if_neg h1] at h ⊢
   rw [if_neg h1]
   by_cases h2 : c = 34
   ·rw [if_pos h2] at h ⊢
    rw [if_pos h2]
    exact congrArg (Prod.mk 3) (quoted_more (b := b) hR h)
   ·rw [if_neg h2] at h ⊢
    rw [if_neg h2]
    by_cases h3 : Lib.hasPrefix (c :: r) [60, 60] = true
    ·rw [if_pos h3] at h ⊢
     rw [if_pos h3]
     exact congrArg (Prod.mk 3) (heredoc_more (b := b) h3 h)
    ·rw [if_neg h3] at h ⊢
     rw [if_neg h3]
     by_cases h4 : digB c = true
     ·rw [if_pos h4] at h ⊢
      rw [if_pos h4]
      exact congrArg (Prod.mk 2) (number_more (b := b) h)
     ·rw [if_neg h4] at h ⊢
      rw [if_neg h4]
      by_cases h5 : letB c = true
      ·rw [if_pos h5] at h ⊢
       rw [if_pos h5]
       exact congrArg (Prod.mk 1) (name_more (b := b) h)
      ·rw [if_neg h5] at h ⊢
       rw [if_neg h5]
       exact congrArg (Prod.mk 4) (sign_more (b := b) h)
end
end Go.Proofs.YtljgggohjigaoaaGreatDoor
namespace Go.Proofs.YtljgggohjigaoaaGreatDoor
set_option linter.unusedVariables false

section
variable {b : List UInt8}
theorem index_more {p : List UInt8} (hp : (10 : UInt8) ∉ p) (h0 : p ≠ []) : ∀ R : List UInt8, 0 ≤ Lib.index R p → Lib.index (R ++ 10 :: b) p = Lib.index R p
 | [], h => by
  unfold Lib.index at h
  cases p with
  | nil => exact absurd rfl h0
  | cons c q => simp at h
 | c :: r, h => by
  rw [List.cons_append]
  have hh := has_more (b := b) (c :: r) hp
  unfold Lib.hasPrefix at hh
  rw [List.cons_append] at hh
  unfold Lib.index at h ⊢
  rw [hh]
  split
  ·rfl
  ·rename_i h1
   rw [if_neg h1] at h
   by_cases h2 : (Lib.index r p == -1) = true
   ·rw [if_pos h2] at h
    exact absurd h (by decide)
   ·have h3 := Lib.index_ge r p
    have h4 : Lib.index r p ≠ -1 := fun e => h2 (by rw [e]; rfl)
    rw [index_more hp h0 r (by omega)]
theorem remark_more {R R' : List UInt8} (h : remarkL R = some R') : remarkL (R ++ 10 :: b) = some (R' ++ 10 :: b) := by
 unfold remarkL at h ⊢
 rw [has_more R (by decide), has_more R (by decide), has_more R (by decide)]
 split at h
 ·rename_i h1
  cases h
  rw [if_pos h1, drop_more (by decide)]
 ·rename_i h1
  rw [if_neg h1]
  split at h
  ·rename_i h2
   have hl : 2 ≤ R.length := (List.isPrefixOf_iff_prefix.1 h2).length_le
   rw [if_pos h2, dropn_more 2 R hl]
   split at h
   ·rename_i h3
    cases h
    have h4 := Lib.index_room _ _ h3
    rw [index_more (by decide) (by decide) _ h3, if_pos h3, dropn_more _ _ (by simp only [List.length_cons, List.length_nil] at h4; omega)]
   ·cases h
  ·cases h
theorem remark_none {R : List UInt8} (hs : Lib.hasPrefix R [47, 42] = false) (h : remarkL R = none) : remarkL (R ++ 10 :: b) = none := by
 unfold remarkL at h ⊢
 rw [has_more R (by decide), has_more R (by decide), has_more R (by decide)]
 split at h
 ·cases h
 ·rename_i h1
  rw [if_neg h1, hs]
  rfl
theorem between_join : ∀ (n : Nat) (R : List UInt8), R.length ≤ n → Lib.hasPrefix (betweenA R) [47, 42] = false → betweenA (R ++ 10 :: b) = betweenA R ++ 10 :: b := by
 intro n
 induction n using Nat.strongRecOn with
 | _ n ih =>
  intro R hn hs
  have hd : (R ++ 10 :: b).dropWhile (bytesIn [32, 9, 13]) = R.dropWhile (bytesIn [32, 9, 13]) ++ 10 :: b := drop_more (by decide) R
  by_cases h : (R.dropWhile (bytesIn [32, 9, 13])).length < R.length
  ·rw [betweenA_blank h] at hs ⊢
   rw [betweenA_blank (by rw [hd]; exact (len_more _ _).2 h), hd]
   exact ih _ (by omega) _ (Nat.le_refl _) hs
  ·have h' : ¬ ((R ++ 10 :: b).dropWhile (bytesIn [32, 9, 13])).length < (R ++ 10 :: b).length := by
    rw [hd]
    exact fun e => h ((len_more _ _).1 e)
   cases hr : remarkL R with
   | some R2 =>
    have h1 := remark_less hr
    rw [betweenA_remark h hr] at hs ⊢
    rw [betweenA_remark h' (remark_more hr)]
    exact ih _ (by omega) _ (Nat.le_refl _) hs
   | none =>
    rw [betweenA_none h hr] at hs ⊢
    exact betweenA_none h' (remark_none hs hr)
theorem tok_slash {sz n : Nat} {R : List UInt8} {acc l : List Tk} (h : tokL sz n R acc = .ok l) : Lib.hasPrefix R [47, 42] = false := by
 cases hp : Lib.hasPrefix R [47, 42] with
 | false => rfl
 | true =>
  exfalso
  obtain ⟨r, rfl⟩ := List.isPrefixOf_iff_prefix.1 hp
  cases n with
  | zero => cases h
  | succ n =>
   have he : (nextL ([47, 42] ++ r)).2 = .error 40 := by
    show (nextL (47 :: 42 :: r)).2 = .error 40
    unfold nextL
    simp only
    rw [if_neg (by decide), if_neg (by decide), if_neg (by simp [Lib.hasPrefix, List.isPrefixOf]), if_neg (by decide), if_neg (by decide)]
    unfold signL
    rw [if_pos (by simp [Lib.hasPrefix, List.isPrefixOf])]
   unfold tokL at h
   rw [if_neg (by simp), he] at h
   cases h
theorem tok_join {sz sz' : Nat} (hz : sz' = sz + (b.length + 1)) : ∀ (n m : Nat) (R : List UInt8) (acc l : List Tk), R.length ≤ sz → tokL sz n R acc = .ok l → (R ++ 10 :: b).length < m → tokL sz' m (R ++ 10 :: b) acc = tokL sz' (b.length + 2) (10 :: b) l := by
 intro n
 induction n with
 | zero => intro m R acc l _ h; cases h
 | succ n ih =>
  intro m R acc l hR h hm
  obtain ⟨m, rfl⟩ : ∃ k, m = k + 1 := ⟨m - 1, by omega⟩
  by_cases hne : R = []
  ·subst hne
   have h' : Except.ok acc = (Except.ok l : Except (Int × Nat) (List Tk)) := h
   cases h'
   rw [List.nil_append] at hm ⊢
   exact tokL_more hm (by simp)
  ·have hE : R.isEmpty = false := by
    cases R with
    | nil => exact absurd rfl hne
    | cons c r => rfl
   have hE2 : (R ++ 10 :: b).isEmpty = false := by
    cases R with
    | nil => exact absurd rfl hne
    | cons c r => rfl
   unfold tokL at h
   rw [if_neg (by rw [hE]; decide)] at h
   cases hr : (nextL R).2 with
   | error c => rw [hr] at h; cases h
   | ok p =>
    obtain ⟨x, R'⟩ := p
    rw [hr] at h
    simp only at h
    have h3 := ((nextL_goes hne).1 x R' hr).1
    have h4 := betweenA_le (Nat.le_refl R'.length)
    by_cases ha : acc.length = 4096
    ·rw [if_pos ha] at h; cases h
    ·rw [if_neg ha] at h
     have hB := between_join (b := b) R'.length R' (Nat.le_refl _) (tok_slash h)
     have hpos : sz' - (R ++ 10 :: b).length = sz - R.length := by
      rw [hz]; simp only [List.length_append, List.length_cons]; omega
     conv => lhs; unfold tokL
     rw [if_neg (by rw [hE2]; decide), next_more hne hr]
     simp only
     rw [if_neg ha, hB, hpos]
     exact ih m _ _ l (by omega) h (by simp only [List.length_append, List.length_cons] at hm ⊢; omega)
end
end Go.Proofs.YtljgggohjigaoaaGreatDoor
namespace Go.Proofs.YtljgggohjigaoaaGreatDoor
set_option linter.unusedVariables false

theorem tok_grows {sz : Nat} : ∀ (n : Nat) (R : List UInt8) (acc l : List Tk), tokL sz n R acc = .ok l → acc.length ≤ l.length := by
 intro n
 induction n with
 | zero => intro R acc l h; cases h
 | succ n ih =>
  intro R acc l h
  unfold tokL at h
  split at h
  ·cases h; exact Nat.le_refl _
  ·cases hr : (nextL R).2 with
   | error c => rw [hr] at h; cases h
   | ok p =>
    rw [hr] at h
    simp only at h
    split at h
    ·cases h
    ·have := ih _ _ _ h
     simp only [List.length_append, List.length_cons, List.length_nil] at this
     omega
theorem tok_shift {sz d : Nat} {P : List Tk} : ∀ (n : Nat) (R : List UInt8) (acc l : List Tk), R.length ≤ sz → tokL sz n R acc = .ok l → P.length + l.length ≤ 4096 → tokL (sz + d) n R (P ++ acc.map (shiftT d)) = .ok (P ++ l.map (shiftT d)) := by
 intro n
 induction n with
 | zero => intro R acc l _ h; cases h
 | succ n ih =>
  intro R acc l hR h hl
  unfold tokL at h ⊢
  by_cases hE : R.isEmpty = true
  ·rw [if_pos hE] at h ⊢
   cases h; rfl
  ·rw [if_neg hE] at h ⊢
   have hne : R ≠ [] := fun e => hE (by rw [e]; rfl)
   cases hr : (nextL R).2 with
   | error c => rw [hr] at h; cases h
   | ok p =>
    obtain ⟨x, R'⟩ := p
    rw [hr] at h
    simp only at h ⊢
    have h3 := ((nextL_goes hne).1 x R' hr).1
    have h4 := betweenA_le (Nat.le_refl R'.length)
    by_cases ha : acc.length = 4096
    ·rw [if_pos ha] at h; cases h
    ·rw [if_neg ha] at h
     have hg := tok_grows _ _ _ _ h
     simp only [List.length_append, List.length_cons, List.length_nil] at hg
     rw [if_neg (by simp only [List.length_append, List.length_map]; omega)]
     have hk := ih (betweenA R') _ l (by omega) h hl
     rw [List.map_append, ← List.append_assoc] at hk
     have e1 : sz + d - R.length = sz - R.length + d := by omega
     rw [e1]
     exact hk
theorem toks_two {sza szb n m : Nat} {A B : List UInt8} {la lb : List Tk} (hA : A.length ≤ sza) (hB : (betweenA B).length ≤ szb) (ha : tokL sza n A [] = .ok la) (hb : tokL szb m (betweenA B) [] = .ok lb) (hm : m ≤ B.length + 1) (hm2 : (betweenA B).length < m) (hz : szb = B.length) (hl : la.length + 1 + lb.length ≤ 4096)
  {k : Nat} (hk : (A ++ 10 :: B).length < k) : tokL (sza + (szb + 1)) k (A ++ 10 :: B) [] = .ok (la ++ ⟨5, ⟨#[10]⟩, sza⟩ :: lb.map (shiftT (sza + 1))) := by
 rw [tok_join (b := B) (sz := sza) (by rw [hz]) n k A [] la hA ha hk]
 unfold tokL
 rw [if_neg (by simp)]
 have hx : nextL (10 :: B) = (5, .ok ([10], B)) := rfl
 rw [hx]
 simp only
 rw [if_neg (by omega)]
 have e1 : sza + (szb + 1) - (10 :: B).length = sza := by simp only [List.length_cons]; omega
 rw [e1]
 have hs := tok_shift (d := sza + 1) (P := la ++ [⟨5, ⟨#[10]⟩, sza⟩]) m (betweenA B) [] lb hB hb (by simp only [List.length_append, List.length_cons, List.length_nil]; omega)
 have e2 : szb + (sza + 1) = sza + (szb + 1) := by omega
 rw [e2, tokL_more hm2 (m := B.length + 1) (by have := betweenA_le (Nat.le_refl B.length); omega)] at hs
 rw [List.map_nil, List.append_nil] at hs
 rw [List.append_assoc] at hs
 exact hs
end Go.Proofs.YtljgggohjigaoaaGreatDoor
namespace Go.Proofs.YtljgggohjigaoaaGreatDoor
set_option linter.unusedVariables false

theorem scan_inv {t : ByteArray} {l : List Tk} (h : scanL t = .ok l) : t.size ≤ 16384 ∧ tokL t.size (t.size + 1) (betweenA t.data.toList) [] = .ok l := by
 unfold scanL at h
 split at h
 ·cases h
 ·rename_i h1
  split at h
  ·cases h
  ·have e : rest t 0 = t.data.toList := List.drop_zero
   rw [e] at h
   exact ⟨by omega, h⟩
theorem size_list (t : ByteArray) : t.data.toList.length = t.size := by simp
theorem scan_join {a b ab : ByteArray} {la lb : List Tk} (hab : ab.data.toList = a.data.toList ++ 10 :: b.data.toList) (hs : ab.size ≤ 16384) (hbad : ¬ badFrom ab ab.size 0 < ab.size) (ha : scanL a = .ok la) (hb : scanL b = .ok lb) (hl : la.length + 1 + lb.length ≤ 4096) :
  scanL ab = .ok (la ++ ⟨5, ⟨#[10]⟩, a.size⟩ :: lb.map (shiftT (a.size + 1))) := by
 obtain ⟨-, h1⟩ := scan_inv ha
 obtain ⟨-, h2⟩ := scan_inv hb
 have hz : ab.size = a.size + (b.size + 1) := by
  rw [← size_list ab, hab, List.length_append, List.length_cons, size_list, size_list]
 have e : rest ab 0 = a.data.toList ++ 10 :: b.data.toList := by rw [← hab]; exact List.drop_zero
 have l1 := betweenA_le (Nat.le_refl a.data.toList.length)
 have l2 := betweenA_le (Nat.le_refl b.data.toList.length)
 rw [size_list] at l1 l2
 unfold scanL
 rw [if_neg (by omega), if_neg hbad, e, between_join _ a.data.toList (Nat.le_refl _) (tok_slash h1), hz]
 refine toks_two l1 l2 h1 h2 (by rw [size_list]; exact Nat.le_refl _) (by omega) (by rw [size_list]) hl ?_
 simp only [List.length_append, List.length_cons, size_list]
 omega
theorem parse_join {a b ab : ByteArray} {la lb : List Tk} {fa fb : Fi} (hab : ab.data.toList = a.data.toList ++ 10 :: b.data.toList) (hs : ab.size ≤ 16384) (hbad : ¬ badFrom ab ab.size 0 < ab.size) (hla : scanL a = .ok la) (hlb : scanL b = .ok lb) (hl : la.length + 1 + lb.length ≤ 4096)
  (ha : parseF a = .ok fa) (hb : parseF b = .ok fb) : parseF ab = .ok (shF (a.size + 1) fa fb) := by
 refine toks_join hla hlb (ln := ⟨5, ⟨#[10]⟩, a.size⟩) rfl (scan_join hab hs hbad hla hlb hl) ?_ ha hb
 rw [← size_list ab, hab, List.length_append, List.length_cons, size_list, size_list]
 omega
end Go.Proofs.YtljgggohjigaoaaGreatDoor
namespace Go.Proofs.YtljgggohjigaoaaGreatDoor
set_option linter.unusedVariables false
set_option linter.unusedSimpArgs false

theorem getJ_at {t : ByteArray} {a : Nat} (h : a < t.size) : t.get! a = t[a]'h := by rw [get_list h]; rfl
theorem dec_same {a ab : ByteArray} {i : Nat} (hi : i < a.size) (hsz : a.size ≤ ab.size) (hg : ∀ j, j < a.size → ab.get! j = a.get! j) (hok : ¬ ((Utf8.decode a i).1 = 65533 ∧ Lib.hasPrefix (rest a i) [239, 191, 189] = false)) : Utf8.decode ab i = Utf8.decode a i := by
 have h0 := hg i hi
 have hk : ∀ k, (i + k < a.size ∧ (a.get! (i + k)).toNat / 64 = 2) → (i + k < ab.size ∧ (ab.get! (i + k)).toNat / 64 = 2 ∧ ab.get! (i + k) = a.get! (i + k)) := fun k h => ⟨by omega, by rw [hg _ h.1]; exact h.2, hg _ h.1⟩
 have hlast : ¬ ((a.get! i).toNat / 16 = 14 ∧ (i + 1 < a.size ∧ (a.get! (i + 1)).toNat / 64 = 2) ∧ (i + 2 < a.size ∧ (a.get! (i + 2)).toNat / 64 = 2)) → Lib.hasPrefix (rest a i) [239, 191, 189] = false := by
  intro hn
  cases hp : Lib.hasPrefix (rest a i) [239, 191, 189] with
  | false => rfl
  | true =>
   exfalso
   apply hn
   obtain ⟨r, hr⟩ := List.isPrefixOf_iff_prefix.1 hp
   have hl : 3 ≤ (rest a i).length := by rw [← hr]; simp
   rw [rest_length] at hl
   have g : ∀ k (hk : k < 3), a.get! (i + k) = ([239, 191, 189] ++ r)[k]'(by simp; omega) := fun k hk => by
    rw [getJ_at (by omega)]
    have : (rest a i)[k]? = some (a[i + k]'(by omega)) := by
     unfold rest
     rw [List.getElem?_drop]
     rw [List.getElem?_eq_getElem (by simp; omega)]
     rfl
    rw [← hr] at this
    rw [List.getElem?_eq_getElem (by simp; omega)] at this
    exact (Option.some.inj this).symm
   have g0 := g 0 (by decide)
   have g1 := g 1 (by decide)
   have g2 := g 2 (by decide)
   rw [Nat.add_zero] at g0
   rw [g0, g1, g2]
   refine ⟨by simp, ⟨by omega, by simp⟩, ⟨by omega, by simp⟩⟩
 unfold Utf8.decode at hok ⊢
 simp only [Nat.add_zero, h0, Bool.and_eq_true, decide_eq_true_eq, beq_iff_eq] at hok ⊢
 generalize hb : (a.get! i).toNat = b0 at *
 by_cases c0 : b0 < 128
 ·rw [if_pos c0, if_pos c0]
 ·rw [if_neg c0, if_neg c0]
  rw [if_neg c0] at hok
  by_cases c1 : b0 / 32 = 6 ∧ (i + 1 < a.size ∧ (a.get! (i + 1)).toNat / 64 = 2)
  ·have k1 := hk 1 c1.2
   rw [if_pos c1, if_pos ⟨c1.1, k1.1, k1.2.1⟩, k1.2.2]
  ·rw [if_neg c1]
   rw [if_neg c1] at hok
   by_cases c2 : (b0 / 16 = 14 ∧ (i + 1 < a.size ∧ (a.get! (i + 1)).toNat / 64 = 2)) ∧ (i + 2 < a.size ∧ (a.get! (i + 2)).toNat / 64 = 2)
   ·have k1 := hk 1 c2.1.2
    have k2 := hk 2 c2.2
    rw [if_pos c2, if_neg (fun e => by have := e.1; have := c2.1.1; omega), if_pos ⟨⟨c2.1.1, k1.1, k1.2.1⟩, k2.1, k2.2.1⟩, k1.2.2, k2.2.2]
   ·rw [if_neg c2]
    rw [if_neg c2] at hok
    by_cases c3 : ((b0 / 8 = 30 ∧ (i + 1 < a.size ∧ (a.get! (i + 1)).toNat / 64 = 2)) ∧ (i + 2 < a.size ∧ (a.get! (i + 2)).toNat / 64 = 2)) ∧ (i + 3 < a.size ∧ (a.get! (i + 3)).toNat / 64 = 2)
    ·have k1 := hk 1 c3.1.1.2
     have k2 := hk 2 c3.1.2
     have k3 := hk 3 c3.2
     rw [if_pos c3, if_neg (fun e => by have := e.1; have := c3.1.1.1; omega), if_neg (fun e => by have := e.1.1; have := c3.1.1.1; omega), if_pos ⟨⟨⟨c3.1.1.1, k1.1, k1.2.1⟩, k2.1, k2.2.1⟩, k3.1, k3.2.1⟩, k1.2.2, k2.2.2, k3.2.2]
    ·rw [if_neg c3] at hok
     exact absurd ⟨rfl, hlast (fun e => c2 ⟨⟨e.1, e.2.1⟩, e.2.2⟩)⟩ hok
end Go.Proofs.YtljgggohjigaoaaGreatDoor
namespace Go.Proofs.YtljgggohjigaoaaGreatDoor
set_option linter.unusedVariables false
set_option linter.unusedSimpArgs false

theorem dec_width (s : ByteArray) (i : Nat) (hi : i < s.size) : i + (Utf8.decode s i).2 ≤ s.size := by
 unfold Utf8.decode
 simp only [Nat.add_zero, Bool.and_eq_true, decide_eq_true_eq, beq_iff_eq]
 split
 ·simp only; omega
 ·split
  ·rename_i h
   have := h.2.1
   split <;> (simp only; omega)
  ·split
   ·rename_i h
    have := h.2.1
    split <;> (simp only; omega)
   ·split
    ·rename_i h
     have := h.2.1
     split <;> (simp only; omega)
    ·simp only; omega
theorem dec_behind {b ab : ByteArray} {n i : Nat} (hi : i < b.size) (hs : ab.size = n + b.size) (hg : ∀ j, j < b.size → ab.get! (n + j) = b.get! j) : Utf8.decode ab (n + i) = Utf8.decode b i := by
 have h0 := hg i hi
 have hk : ∀ k, (i + k < b.size ∧ (b.get! (i + k)).toNat / 64 = 2) → (n + i + k < ab.size ∧ (ab.get! (n + i + k)).toNat / 64 = 2 ∧ ab.get! (n + i + k) = b.get! (i + k)) := fun k h => by
  have := hg _ h.1
  rw [← Nat.add_assoc] at this
  exact ⟨by omega, by rw [this]; exact h.2, this⟩
 have hk' : ∀ k, (n + i + k < ab.size ∧ (ab.get! (n + i + k)).toNat / 64 = 2) → (i + k < b.size ∧ (b.get! (i + k)).toNat / 64 = 2) := fun k h => by
  have h1 : i + k < b.size := by omega
  have := hg _ h1
  rw [← Nat.add_assoc] at this
  exact ⟨h1, by rw [← this]; exact h.2⟩
 unfold Utf8.decode
 simp only [Nat.add_zero, h0, Bool.and_eq_true, decide_eq_true_eq, beq_iff_eq]
 generalize hb : (b.get! i).toNat = b0 at *
 by_cases c0 : b0 < 128
 ·rw [if_pos c0, if_pos c0]
 ·rw [if_neg c0, if_neg c0]
  by_cases c1 : b0 / 32 = 6 ∧ (i + 1 < b.size ∧ (b.get! (i + 1)).toNat / 64 = 2)
  ·have k1 := hk 1 c1.2
   rw [if_pos c1, if_pos ⟨c1.1, k1.1, k1.2.1⟩, k1.2.2]
  ·rw [if_neg c1, if_neg (fun e => c1 ⟨e.1, hk' 1 e.2⟩)]
   by_cases c2 : (b0 / 16 = 14 ∧ (i + 1 < b.size ∧ (b.get! (i + 1)).toNat / 64 = 2)) ∧ (i + 2 < b.size ∧ (b.get! (i + 2)).toNat / 64 = 2)
   ·have k1 := hk 1 c2.1.2
    have k2 := hk 2 c2.2
    rw [if_pos c2, if_pos ⟨⟨c2.1.1, k1.1, k1.2.1⟩, k2.1, k2.2.1⟩, k1.2.2, k2.2.2]
   ·rw [if_neg c2, if_neg (fun e => c2 ⟨⟨e.1.1, hk' 1 e.1.2⟩, hk' 2 e.2⟩)]
    by_cases c3 : ((b0 / 8 = 30 ∧ (i + 1 < b.size ∧ (b.get! (i + 1)).toNat / 64 = 2)) ∧ (i + 2 < b.size ∧ (b.get! (i + 2)).toNat / 64 = 2)) ∧ (i + 3 < b.size ∧ (b.get! (i + 3)).toNat / 64 = 2)
    ·have k1 := hk 1 c3.1.1.2
     have k2 := hk 2 c3.1.2
     have k3 := hk 3 c3.2
     rw [if_pos c3, if_pos ⟨⟨⟨c3.1.1.1, k1.1, k1.2.1⟩, k2.1, k2.2.1⟩, k3.1, k3.2.1⟩, k1.2.2, k2.2.2, k3.2.2]
    ·rw [if_neg c3, if_neg (fun e => c3 ⟨⟨⟨e.1.1.1, hk' 1 e.1.1.2⟩, hk' 2 e.1.2⟩, hk' 3 e.2⟩)]
end Go.Proofs.YtljgggohjigaoaaGreatDoor
namespace Go.Proofs.YtljgggohjigaoaaGreatDoor
set_option linter.unusedVariables false

theorem get_some (t : ByteArray) (i : Nat) (h : i < t.size) : t.data.toList[i]? = some (t.get! i) := by
 rw [getJ_at h, List.getElem?_eq_getElem (by simpa using h)]
 rfl
theorem bad_join {a b ab : ByteArray} (hab : ab.data.toList = a.data.toList ++ 10 :: b.data.toList) (ha : ¬ badFrom a a.size 0 < a.size) (hb : ¬ badFrom b b.size 0 < b.size) : ¬ badFrom ab ab.size 0 < ab.size := by
 have sz : ∀ t : ByteArray, t.data.toList.length = t.size := fun t => by simp
 have hz : ab.size = a.size + 1 + b.size := by
  rw [← sz ab, hab, List.length_append, List.length_cons, sz, sz]; omega
 have g1 : ∀ j, j < a.size → ab.get! j = a.get! j := fun j hj => by
  have h1 := get_some ab j (by omega)
  rw [hab, List.getElem?_append_left (by rw [sz]; exact hj), get_some a j hj] at h1
  exact (Option.some.inj h1).symm
 have g2 : ∀ j, j < b.size → ab.get! (a.size + 1 + j) = b.get! j := fun j hj => by
  have h1 := get_some ab (a.size + 1 + j) (by omega)
  rw [hab, List.getElem?_append_right (by rw [sz]; omega), sz, show a.size + 1 + j - a.size = j + 1 by omega, List.getElem?_cons_succ, get_some b j hj] at h1
  exact (Option.some.inj h1).symm
 have g0 : ab.get! a.size = 10 := by
  have h1 := get_some ab a.size (by omega)
  rw [hab, List.getElem?_append_right (by rw [sz]; omega), sz, Nat.sub_self] at h1
  exact (Option.some.inj h1).symm
 have r1 : ∀ i, i ≤ a.size → rest ab i = rest a i ++ 10 :: b.data.toList := fun i hi => by
  unfold rest
  rw [hab, List.drop_append_of_le_length (by rw [sz]; exact hi)]
 have r2 : ∀ i, rest ab (a.size + 1 + i) = rest b i := fun i => by
  unfold rest
  rw [hab, List.drop_append, sz, List.drop_of_length_le (by rw [sz]; omega), show a.size + 1 + i - a.size = i + 1 by omega]
  rfl
 have hB : ∀ m n i, i ≤ b.size → b.size - i ≤ n → ¬ badFrom b n i < b.size → ¬ badFrom ab m (a.size + 1 + i) < ab.size := by
  intro m
  induction m with
  | zero => intro n i _ _ _; unfold badFrom; omega
  | succ m ih =>
   intro n i hi hn h
   unfold badFrom
   by_cases hl : i < b.size
   ·obtain ⟨n, rfl⟩ : ∃ k, n = k + 1 := ⟨n - 1, by omega⟩
    unfold badFrom at h
    rw [if_pos hl] at h
    rw [if_pos (by omega), dec_behind hl hz g2, r2]
    split at h
    ·exact absurd hl h
    ·rename_i hf
     rw [if_neg hf]
     have w1 := dec_width b i hl
     have w2 := Lib.decode_width_pos b i hl
     have := ih n (i + (Utf8.decode b i).2) w1 (by omega) h
     rw [← Nat.add_assoc] at this
     exact this
   ·rw [if_neg (by omega)]; omega
 have hA : ∀ m n i, i ≤ a.size → a.size - i ≤ n → ¬ badFrom a n i < a.size → ¬ badFrom ab m i < ab.size := by
  intro m
  induction m with
  | zero => intro n i _ _ _; unfold badFrom; omega
  | succ m ih =>
   intro n i hi hn h
   unfold badFrom
   rw [if_pos (by omega)]
   by_cases hl : i < a.size
   ·obtain ⟨n, rfl⟩ : ∃ k, n = k + 1 := ⟨n - 1, by omega⟩
    unfold badFrom at h
    rw [if_pos hl] at h
    split at h
    ·exact absurd hl h
    ·rename_i hf
     rw [dec_same hl (by omega) g1 hf, r1 i hi, has_more _ (by decide), if_neg hf]
     have w1 := dec_width a i hl
     have w2 := Lib.decode_width_pos a i hl
     exact ih n (i + (Utf8.decode a i).2) w1 (by omega) h
   ·have e : i = a.size := by omega
    subst e
    have hd : Utf8.decode ab a.size = (10, 1) := by
     unfold Utf8.decode
     simp only [Nat.add_zero, g0]
     rfl
    rw [hd, if_neg (fun e => absurd e.1 (by decide))]
    exact hB m b.size 0 (Nat.zero_le _) (by omega) hb
 exact hA _ a.size 0 (Nat.zero_le _) (by omega) ha
end Go.Proofs.YtljgggohjigaoaaGreatDoor
namespace Go.Proofs.YtljgggohjigaoaaGreatDoor
set_option linter.unusedVariables false

theorem parse_scan {t : ByteArray} {f : Fi} (h : parseF t = .ok f) : ∃ l, scanL t = .ok l := by
 unfold parseF at h
 cases hl : scanL t with
 | error e => rw [hl] at h; cases h
 | ok l => exact ⟨l, rfl⟩
theorem scan_bad {t : ByteArray} {l : List Tk} (h : scanL t = .ok l) : ¬ badFrom t t.size 0 < t.size := by
 unfold scanL at h
 split at h
 ·cases h
 ·split at h
  ·cases h
  ·assumption
theorem parse_two {a b ab : ByteArray} {fa fb : Fi} (hab : ab.data.toList = a.data.toList ++ 10 :: b.data.toList) (sa : a.size ≤ 2000) (sb : b.size ≤ 2000) (ha : parseF a = .ok fa) (hb : parseF b = .ok fb) : parseF ab = .ok (shF (a.size + 1) fa fb) := by
 obtain ⟨la, hla⟩ := parse_scan ha
 obtain ⟨lb, hlb⟩ := parse_scan hb
 obtain ⟨wa, ka⟩ := scan_wt hla
 obtain ⟨wb, kb⟩ := scan_wt hlb
 have na := toks_wts ka
 have nb := toks_wts kb
 have hz : ab.size = a.size + (b.size + 1) := by
  rw [← size_list ab, hab, List.length_append, List.length_cons, size_list, size_list]
 exact parse_join hab (by omega) (bad_join hab (scan_bad hla) (scan_bad hlb)) hla hlb (by omega) ha hb
end Go.Proofs.YtljgggohjigaoaaGreatDoor
