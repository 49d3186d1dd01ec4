/- Texts that the scanner lets through are read by the parser's own way of skipping, too · What the parser reads of the program's variables; a new expression of new arguments · What the signs of a level join -/
import Derived.Laws.OwnMore
import Derived.Deep.DeepCutAuto
import Derived.Test.YtljgggohjigaoaaGreatDoorSk11
import Derived.Test.YtljgggohjigaoaaGreatDoorSk12
namespace Go.Proofs.YtljgggohjigaoaaGreatDoor
set_option linter.unusedVariables false

mutual
/-- What stands between quotes. -/
inductive TextC : List UInt8 → Prop where
 | nil : TextC []
 | esc (c : UInt8) (x : List UInt8) : TextC x → TextC (92 :: c :: x)
 | ins (y x : List UInt8) : BraceC y → TextC x → TextC (36 :: 123 :: (y ++ 125 :: x))
 | dollar (x : List UInt8) : x.head? ≠ some 123 → TextC x → TextC (36 :: x)
 | byte (c : UInt8) (x : List UInt8) : c ≠ 34 → c ≠ 92 → c ≠ 36 → TextC x → TextC (c :: x)
/-- What stands between braces. -/
inductive BraceC : List UInt8 → Prop where
 | nil : BraceC []
 | brace (y x : List UInt8) : BraceC y → BraceC x → BraceC (123 :: (y ++ 125 :: x))
 | text (y x : List UInt8) : TextC y → BraceC x → BraceC (34 :: (y ++ 34 :: x))
 | byte (c : UInt8) (x : List UInt8) : c ≠ 34 → c ≠ 123 → c ≠ 125 → BraceC x → BraceC (c :: x)
end
theorem run_split (q : List UInt8) : ∀ (R : List UInt8), ∃ b, R = b ++ R.dropWhile (notIn q) ∧ ∀ c ∈ b, notIn q c = true
 | [] => ⟨[], rfl, fun c h => by cases h⟩
 | c :: R => by
  by_cases h : notIn q c = true
  ·obtain ⟨b, h1, h2⟩ := run_split q R
   refine ⟨c :: b, ?_, fun x hx => ?_⟩
   ·rw [List.dropWhile_cons_of_pos h, List.cons_append, ← h1]
   ·rcases List.mem_cons.1 hx with rfl | hx
    ·exact h
    ·exact h2 x hx
  ·refine ⟨[], ?_, fun c h => by cases h⟩
   rw [List.dropWhile_cons_of_neg h]
   rfl
theorem TextC.bytes : ∀ {b : List UInt8}, (∀ c ∈ b, c ≠ 34 ∧ c ≠ 92 ∧ c ≠ 36) → ∀ {x : List UInt8}, TextC x → TextC (b ++ x)
 | [], _, x, hx => hx
 | c :: b, h, x, hx => .byte c _ (h c List.mem_cons_self).1 (h c List.mem_cons_self).2.1 (h c List.mem_cons_self).2.2 (TextC.bytes (fun d hd => h d (List.mem_cons_of_mem _ hd)) hx)
theorem BraceC.bytes : ∀ {b : List UInt8}, (∀ c ∈ b, c ≠ 34 ∧ c ≠ 123 ∧ c ≠ 125) → ∀ {x : List UInt8}, BraceC x → BraceC (b ++ x)
 | [], _, x, hx => hx
 | c :: b, h, x, hx => .byte c _ (h c List.mem_cons_self).1 (h c List.mem_cons_self).2.1 (h c List.mem_cons_self).2.2 (BraceC.bytes (fun d hd => h d (List.mem_cons_of_mem _ hd)) hx)
theorem notIn_ne {q : List UInt8} {c a : UInt8} (h : notIn q c = true) (ha : a ∈ q) : c ≠ a := by
 rintro rfl
 unfold notIn at h
 simp_all
theorem run_ok {q R R' : List UInt8} (h : runL q R = .ok R') : ∃ b, R = b ++ R' ∧ ∀ c ∈ b, notIn q c = true := by
 unfold runL at h
 split at h
 ·cases h
  exact run_split q R
 ·cases h
theorem pre_cons {R : List UInt8} {q : UInt8} (h : Lib.hasPrefix R [q] = true) : ∃ r, R = q :: r := ⟨R.drop 1, pre1 h⟩
theorem pre_two {R : List UInt8} {q p : UInt8} (h : Lib.hasPrefix R [q, p] = true) : ∃ r, R = q :: p :: r := by
 match R, h with
 | [], h => simp [Lib.hasPrefix] at h
 | [c], h => simp [Lib.hasPrefix, List.isPrefixOf] at h
 | c :: e :: r, h =>
  simp [Lib.hasPrefix, List.isPrefixOf] at h
  exact ⟨r, by rw [h.1, h.2]⟩
/-- A reader of braces. -/
def BrOk (b : List UInt8 → Left) : Prop := ∀ R R', b (123 :: R) = .ok R' → ∃ y, BraceC y ∧ R = y ++ 125 :: R'
theorem text_end {b : List UInt8 → Left} (hb : BrOk b) : ∀ (n : Nat) (R R' : List UInt8), toEnd (textPart b) 34 n R = .ok R' → ∃ x, TextC x ∧ R = x ++ 34 :: R' := by
 intro n
 induction n with
 | zero => intro R R' h; cases h
 | succ n ih =>
  intro R R' h
  unfold toEnd at h
  split at h
  ·rename_i hp
   obtain ⟨r, rfl⟩ := pre_cons hp
   cases h
   exact ⟨[], .nil, rfl⟩
  ·cases hr : textPart b R with
   | error c => rw [hr] at h; cases h
   | ok R1 =>
    rw [hr] at h
    obtain ⟨x, hx, rfl⟩ := ih R1 R' h
    unfold textPart at hr
    split at hr
    ·unfold escL at hr
     split at hr
     ·split at hr
      ·cases hr
       exact ⟨92 :: _ :: x, .esc _ x hx, rfl⟩
      ·cases hr
     ·cases hr
    ·split at hr
     ·rename_i hp
      obtain ⟨r, rfl⟩ := pre_two hp
      obtain ⟨y, hy, rfl⟩ := hb r _ hr
      exact ⟨36 :: 123 :: (y ++ 125 :: x), .ins y x hy hx, by simp⟩
     ·split at hr
      ·rename_i hn hp
       obtain ⟨r, rfl⟩ := pre_cons hp
       have hr2 : r = x ++ 34 :: R' := by
        simp only [List.drop_succ_cons, List.drop_zero, Except.ok.injEq] at hr
        exact hr
       subst hr2
       refine ⟨36 :: x, .dollar x (fun e => hn ?_) hx, rfl⟩
       cases x with
       | nil => cases e
       | cons c x =>
        simp only [List.head?_cons, Option.some.injEq] at e
        subst e
        simp [Lib.hasPrefix, List.isPrefixOf]
      ·obtain ⟨w, rfl, hw⟩ := run_ok hr
       exact ⟨w ++ x, TextC.bytes (fun c hc => ⟨notIn_ne (hw c hc) (by decide), notIn_ne (hw c hc) (by decide), notIn_ne (hw c hc) (by decide)⟩) hx, by simp⟩
theorem brace_end {b : List UInt8 → Left} (hb : BrOk b) : ∀ (n : Nat) (R R' : List UInt8), toEnd (bracePart b (textL b)) 125 n R = .ok R' → ∃ x, BraceC x ∧ R = x ++ 125 :: R' := by
 intro n
 induction n with
 | zero => intro R R' h; cases h
 | succ n ih =>
  intro R R' h
  unfold toEnd at h
  split at h
  ·rename_i hp
   obtain ⟨r, rfl⟩ := pre_cons hp
   cases h
   exact ⟨[], .nil, rfl⟩
  ·cases hr : bracePart b (textL b) R with
   | error c => rw [hr] at h; cases h
   | ok R1 =>
    rw [hr] at h
    obtain ⟨x, hx, rfl⟩ := ih R1 R' h
    unfold bracePart at hr
    split at hr
    ·rename_i hp
     obtain ⟨r, rfl⟩ := pre_cons hp
     obtain ⟨y, hy, rfl⟩ := hb r _ hr
     exact ⟨123 :: (y ++ 125 :: x), .brace y x hy hx, by simp⟩
    ·split at hr
     ·rename_i hp
      obtain ⟨r, rfl⟩ := pre_cons hp
      unfold textL toEndA at hr
      obtain ⟨y, hy, hyr⟩ := text_end hb _ _ _ hr
      simp only [List.drop_succ_cons, List.drop_zero] at hyr
      subst hyr
      exact ⟨34 :: (y ++ 34 :: x), .text y x hy hx, by simp⟩
     ·obtain ⟨w, rfl, hw⟩ := run_ok hr
      exact ⟨w ++ x, BraceC.bytes (fun c hc => ⟨notIn_ne (hw c hc) (by decide), notIn_ne (hw c hc) (by decide), notIn_ne (hw c hc) (by decide)⟩) hx, by simp⟩
theorem braceL_br : ∀ n, BrOk (braceL n)
 | 0 => fun R R' h => by cases h
 | n + 1 => fun R R' h => by
  unfold braceL toEndA at h
  exact brace_end (braceL_br n) _ _ _ h
theorem quoted_text {R x R' : List UInt8} (h34 : Lib.hasPrefix R [34] = true) (h : quotedL R = .ok (x, R')) : TextC x := by
 obtain ⟨r, rfl⟩ := pre_cons h34
 unfold quotedL at h
 split at h
 ·rename_i q hq
  simp only [Except.ok.injEq, Prod.mk.injEq] at h
  obtain ⟨h, rfl⟩ := h
  unfold textL toEndA at hq
  obtain ⟨y, hy, hyr⟩ := text_end (braceL_br 24) _ _ _ hq
  simp only [List.drop_succ_cons, List.drop_zero] at hyr
  subst hyr
  have : x = y := by
   rw [← h]
   simp only [List.drop_succ_cons, List.drop_zero, List.length_cons, List.length_append]
   rw [show y.length + (q.length + 1) + 1 - q.length - 2 = y.length by omega]
   exact List.take_left
  rw [this]
  exact hy
 ·cases h
/-- The parser's own skipping finds the same ends. -/
theorem skip_both : (∀ {x : List UInt8}, TextC x → ∀ (n : Nat) (Y : List UInt8), x.length < n → quoteS n (x ++ 34 :: Y) = some Y) ∧ (∀ {x : List UInt8}, BraceC x → ∀ (n : Nat) (Y : List UInt8), x.length < n → braceS n (x ++ 125 :: Y) = some Y) := by
 have key : ∀ (m : Nat), (∀ {x : List UInt8}, x.length ≤ m → TextC x → ∀ (n : Nat) (Y : List UInt8), x.length < n → quoteS n (x ++ 34 :: Y) = some Y) ∧ (∀ {x : List UInt8}, x.length ≤ m → BraceC x → ∀ (n : Nat) (Y : List UInt8), x.length < n → braceS n (x ++ 125 :: Y) = some Y) := by
  intro m
  induction m with
  | zero =>
   refine ⟨fun {x} hm hx n Y hn => ?_, fun {x} hm hx n Y hn => ?_⟩
   ·have : x = [] := List.length_eq_zero_iff.1 (by omega)
    subst this
    obtain ⟨k, rfl⟩ : ∃ k, n = k + 1 := ⟨n - 1, by simp at hn; omega⟩
    simp [quoteS]
   ·have : x = [] := List.length_eq_zero_iff.1 (by omega)
    subst this
    obtain ⟨k, rfl⟩ : ∃ k, n = k + 1 := ⟨n - 1, by simp at hn; omega⟩
    simp [braceS]
  | succ m ih =>
   refine ⟨fun {x} hm hx n Y hn => ?_, fun {x} hm hx n Y hn => ?_⟩
   ·obtain ⟨k, rfl⟩ : ∃ k, n = k + 1 := ⟨n - 1, by omega⟩
    cases hx with
    | nil => simp [quoteS]
    | esc c x hx =>
     simp only [List.length_cons] at hm hn
     simp only [List.cons_append, quoteS, List.drop_succ_cons, List.drop_zero]
     rw [if_neg (by decide), if_pos trivial]
     exact ih.1 (by omega) hx k Y (by omega)
    | ins y x hy hx =>
     simp only [List.length_cons, List.length_append] at hm hn
     simp only [List.cons_append, quoteS, List.drop_succ_cons, List.drop_zero, List.append_assoc, List.head?_cons]
     rw [if_neg (by decide), if_neg (by decide), if_pos (by simp), ih.2 (by omega) hy k (x ++ 34 :: Y) (by omega)]
     exact ih.1 (by omega) hx k Y (by omega)
    | dollar x h0 hx =>
     simp only [List.length_cons] at hm hn
     have h1 : ¬ (True ∧ (x ++ 34 :: Y).head? = some 123) := by
      rintro ⟨-, e⟩
      cases x with
      | nil => simp at e
      | cons a x => exact h0 (by simpa using e)
     simp only [List.cons_append, quoteS]
     rw [if_neg (by decide), if_neg (by decide), if_neg h1]
     exact ih.1 (by omega) hx k Y (by omega)
    | byte c x h1 h2 h3 hx =>
     simp only [List.length_cons] at hm hn
     simp only [List.cons_append, quoteS]
     rw [if_neg h1, if_neg h2, if_neg (fun e => h3 e.1)]
     exact ih.1 (by omega) hx k Y (by omega)
   ·obtain ⟨k, rfl⟩ : ∃ k, n = k + 1 := ⟨n - 1, by omega⟩
    cases hx with
    | nil => simp [braceS]
    | brace y x hy hx =>
     simp only [List.length_cons, List.length_append] at hm hn
     simp only [List.cons_append, braceS, List.append_assoc]
     rw [if_neg (by decide), if_pos trivial, ih.2 (by omega) hy k (x ++ 125 :: Y) (by omega)]
     exact ih.2 (by omega) hx k Y (by omega)
    | text y x hy hx =>
     simp only [List.length_cons, List.length_append] at hm hn
     simp only [List.cons_append, braceS, List.append_assoc]
     rw [if_neg (by decide), if_neg (by decide), if_pos trivial, ih.1 (by omega) hy k (x ++ 125 :: Y) (by omega)]
     exact ih.2 (by omega) hx k Y (by omega)
    | byte c x h1 h2 h3 hx =>
     simp only [List.length_cons] at hm hn
     simp only [List.cons_append, braceS]
     rw [if_neg h3, if_neg h2, if_neg h1]
     exact ih.2 (by omega) hx k Y (by omega)
 exact ⟨fun {x} hx n Y hn => (key x.length).1 (Nat.le_refl _) hx n Y hn, fun {x} hx n Y hn => (key x.length).2 (Nat.le_refl _) hx n Y hn⟩
/-- A text up to its first insertion. -/
theorem text_ahead : ∀ (m : Nat) {x : List UInt8}, x.length ≤ m → TextC x → (aheadL x = x.length ∧ ∃ y, saidL x = some y) ∨ ∃ p y z, x = p ++ 36 :: 123 :: (y ++ 125 :: z) ∧ BraceC y ∧ TextC z ∧ aheadL x = p.length ∧ ∃ w, saidL p = some w := by
 intro m
 induction m with
 | zero =>
  intro x hm hx
  have : x = [] := List.length_eq_zero_iff.1 (by omega)
  subst this
  exact .inl ⟨rfl, _, rfl⟩
 | succ m ih =>
  intro x hm hx
  cases hx with
  | nil => exact .inl ⟨rfl, _, rfl⟩
  | esc c x hx =>
   simp only [List.length_cons] at hm
   rcases ih (by omega) hx with ⟨h1, y, h2⟩ | ⟨p, y, z, rfl, h1, h2, h3, w, h4⟩
   ·refine .inl ⟨by rw [ahead_esc, h1]; simp only [List.length_cons]; omega, ?_⟩
    exact ⟨escapedB c :: y, by simp [saidL, h2]⟩
   ·refine .inr ⟨92 :: c :: p, y, z, rfl, h1, h2, by rw [ahead_esc, h3]; simp only [List.length_cons]; omega, ?_⟩
    exact ⟨escapedB c :: w, by simp [saidL, h4]⟩
  | ins y x hy hx =>
   refine .inr ⟨[], y, x, rfl, hy, hx, ?_, [], rfl⟩
   rw [aheadL.eq_def]
   simp
  | dollar x h0 hx =>
   simp only [List.length_cons] at hm
   have ha : ∀ (L : List UInt8), L.head? ≠ some 123 → aheadL (36 :: L) = 1 + aheadL L := fun L hL => by
    rw [aheadL.eq_def]
    simp only
    rw [if_neg (by decide), if_neg (fun e => hL e.2)]
   have hs : ∀ (L y : List UInt8), saidL L = some y → saidL (36 :: L) = some (36 :: y) := fun L y hL => by
    rw [saidL.eq_def]
    simp [hL]
   rcases ih (by omega) hx with ⟨h1, y, h2⟩ | ⟨p, y, z, rfl, h1, h2, h3, w, h4⟩
   ·exact .inl ⟨by rw [ha _ h0, h1]; simp only [List.length_cons]; omega, _, hs _ _ h2⟩
   ·exact .inr ⟨36 :: p, y, z, rfl, h1, h2, by rw [ha _ h0, h3]; simp only [List.length_cons]; omega, _, hs _ _ h4⟩
  | byte c x h1 h2 h3 hx =>
   simp only [List.length_cons] at hm
   have ha : ∀ (L : List UInt8), aheadL (c :: L) = 1 + aheadL L := fun L => by
    rw [aheadL.eq_def]
    simp only
    rw [if_neg h2, if_neg (fun e => h3 e.1)]
   have hs : ∀ (L y : List UInt8), saidL L = some y → saidL (c :: L) = some (c :: y) := fun L y hL => by
    rw [saidL.eq_def]
    split
    ·rename_i e; cases e
    ·rename_i e; cases e; exact absurd rfl h2
    ·rename_i c' r' _ e
     cases e
     rw [if_neg h2, hL]
     rfl
   rcases ih (by omega) hx with ⟨h4, y, h5⟩ | ⟨p, y, z, rfl, h4, h5, h6, w, h7⟩
   ·exact .inl ⟨by rw [ha, h4]; simp only [List.length_cons]; omega, _, hs _ _ h5⟩
   ·exact .inr ⟨c :: p, y, z, rfl, h4, h5, by rw [ha, h6]; simp only [List.length_cons]; omega, _, hs _ _ h7⟩
/-- What the parser finds in a text: its parts, one by one. -/
theorem text_ins {x : List UInt8} (hx : TextC x) : (insL x = some (x.length, x.length) ∧ ∃ y, saidL x = some y) ∨ ∃ p y z, x = p ++ 36 :: 123 :: (y ++ 125 :: z) ∧ TextC z ∧ insL x = some (p.length, p.length + y.length + 3) ∧ ∃ w, saidL p = some w := by
 rcases text_ahead x.length (Nat.le_refl _) hx with ⟨h1, y, h2⟩ | ⟨p, y, z, rfl, h1, h2, h3, w, h4⟩
 ·refine .inl ⟨?_, y, h2⟩
  unfold insL
  rw [h1, if_neg (by omega)]
 ·refine .inr ⟨p, y, z, rfl, h2, ?_, w, h4⟩
  unfold insL
  rw [h3]
  have hl : (p ++ 36 :: 123 :: (y ++ 125 :: z)).length = p.length + y.length + z.length + 3 := by simp only [List.length_append, List.length_cons]; omega
  rw [if_pos (by omega)]
  have hd : (p ++ 36 :: 123 :: (y ++ 125 :: z)).drop (p.length + 2) = y ++ 125 :: z := by
   rw [List.drop_append]
   simp
  rw [hd, skip_both.2 h1 _ z (by omega)]
  simp only [hl]
  congr 2
  omega
set_option maxRecDepth 100000 in
theorem enc_low1 : ∀ n : Fin 128, ePlace n.val < 0 → ∀ c ∈ Lib.encodeRune ((n.val : Nat) : Int), c ≠ 34 ∧ c ≠ 92 ∧ c ≠ 36 := by decide +kernel
theorem enc_high1 {r : Int} (h : 128 ≤ r) : ∀ c ∈ Lib.encodeRune r, c ≠ 34 ∧ c ≠ 92 ∧ c ≠ 36 := by
 intro c hc
 have hb := Lib.encodeRuneZ_byte r
 unfold Lib.encodeRune at hc
 obtain ⟨z, hz, rfl⟩ := List.mem_map.1 hc
 have hz2 := hb z hz
 have h1 : 128 ≤ z := by
  unfold Lib.encodeRuneZ at hz
  split at hz
  ·simp at hz; omega
  ·split at hz
   ·simp at hz; omega
   ·split at hz
    ·simp at hz; omega
    ·split at hz
     ·simp at hz; omega
     ·simp at hz; omega
 have h3 : (z.toNat.toUInt8).toNat = z.toNat := by simp [Nat.toUInt8]; omega
 refine ⟨fun e => ?_, fun e => ?_, fun e => ?_⟩
 ·rw [e] at h3
  have : (34 : UInt8).toNat = 34 := rfl
  omega
 ·rw [e] at h3
  have : (92 : UInt8).toNat = 92 := rfl
  omega
 ·rw [e] at h3
  have : (36 : UInt8).toNat = 36 := rfl
  omega
theorem rune_text (r : Nat) {L : List UInt8} (h : TextC L) : TextC (escRune r ++ L) := by
 unfold escRune
 by_cases h0 : 0 ≤ ePlace r
 ·rw [if_pos h0]
  exact .esc _ L h
 ·rw [if_neg h0]
  refine TextC.bytes ?_ h
  by_cases h2 : r < 128
  ·exact enc_low1 ⟨r, h2⟩ (by show ePlace r < 0; omega)
  ·exact enc_high1 (by omega)
theorem from_text (s : ByteArray) : ∀ n pos, TextC (escFrom s n pos)
 | 0, pos => by unfold escFrom; exact .nil
 | n + 1, pos => by
  unfold escFrom
  split
  ·exact rune_text _ (from_text s n _)
  ·exact .nil
theorem here_text {nm B : List UInt8} : ∀ {n : Nat} {R x R' : List UInt8}, hereL n nm B R = .ok (x, R') → TextC x
 | 0, R, x, R', h => by cases h
 | n + 1, R, x, R', h => by
  unfold hereL at h
  split at h
  ·split at h
   ·cases h
    exact from_text _ _ _
   ·exact here_text h
  ·cases h
/-- Texts among tokens are such. -/
def TxtC (l : List Tk) : Prop := ∀ t ∈ l, t.k = 3 → TextC t.x.data.toList
theorem next_text {R x R' : List UInt8} {k : Int} (h : nextL R = (k, .ok (x, R'))) (hk : k = 3) : TextC x := by
 subst hk
 unfold nextL at h
 match R with
 | [] => cases h
 | c :: r =>
  simp only at h
  split at h
  ·cases h
  ·split at h
   ·rename_i h34
    have h2 := congrArg Prod.snd h
    simp only at h2
    exact quoted_text (head_pre (by rw [h34])) h2
   ·split at h
    ·have h2 := congrArg Prod.snd h
     simp only at h2
     unfold heredocL at h2
     split at h2
     ·exact here_text h2
     ·cases h2
    ·split at h
     ·cases h
     ·split at h
      ·cases h
      ·cases h
theorem tokL_text {sz : Nat} : ∀ {n : Nat} {R : List UInt8} {acc l : List Tk}, tokL sz n R acc = .ok l → TxtC acc → TxtC l
 | 0, R, acc, l, h, _ => by cases h
 | n + 1, R, acc, l, h, ha => by
  unfold tokL at h
  split at h
  ·cases h
   exact ha
  ·cases hr : (nextL R).2 with
   | error c => rw [hr] at h; cases h
   | ok y =>
    obtain ⟨x, R'⟩ := y
    rw [hr] at h
    simp only at h
    split at h
    ·cases h
    ·refine tokL_text h fun t ht hk => ?_
     rcases List.mem_append.1 ht with h7 | h7
     ·exact ha t h7 hk
     ·have := List.mem_singleton.1 h7
      subst this
      exact next_text (R := R) (x := x) (R' := R') (k := (nextL R).1) (by rw [← hr]) hk
theorem took_le (B R : List UInt8) : (tookL B R).length ≤ B.length := by
 unfold tookL
 simp
theorem here_len {nm B : List UInt8} : ∀ {n : Nat} {R x R' : List UInt8}, hereL n nm B R = .ok (x, R') → x.length ≤ 4 * B.length
 | 0, R, x, R', h => by cases h
 | n + 1, R, x, R', h => by
  unfold hereL at h
  split at h
  ·split at h
   ·cases h
    unfold escB
    have h1 := escFrom_le ⟨(tookL B (R.drop 1)).toArray⟩ (tookL B (R.drop 1)).length 0
    have h2 := took_le B (R.drop 1)
    omega
   ·exact here_len h
  ·cases h
theorem next_len {R x R' : List UInt8} {k : Int} (h : nextL R = (k, .ok (x, R'))) (hk : k = 3) : x.length ≤ 4 * R.length := by
 subst hk
 unfold nextL at h
 match R with
 | [] => cases h
 | c :: r =>
  simp only at h
  split at h
  ·cases h
  ·split at h
   ·have h2 := congrArg Prod.snd h
    simp only at h2
    unfold quotedL at h2
    split at h2
    ·simp only [Except.ok.injEq, Prod.mk.injEq] at h2
     rw [← h2.1]
     simp only [List.length_take, List.length_drop, List.length_cons]
     omega
    ·cases h2
   ·split at h
    ·have h2 := congrArg Prod.snd h
     simp only at h2
     unfold heredocL at h2
     split at h2
     ·rename_i hw
      have h3 := here_len h2
      simp only [List.length_drop, List.length_cons] at h3 hw ⊢
      omega
     ·cases h2
    ·split at h
     ·cases h
     ·split at h
      ·cases h
      ·cases h
/-- Texts among tokens are such, and not longer than that. -/
def TxtOk (l : List Tk) : Prop := ∀ t ∈ l, t.k = 3 → TextC t.x.data.toList ∧ t.x.size ≤ 65536
theorem tokL_len {sz M : Nat} : ∀ {n : Nat} {R : List UInt8} {acc l : List Tk}, tokL sz n R acc = .ok l → R.length ≤ M → (∀ t ∈ acc, t.k = 3 → t.x.size ≤ 4 * M) → ∀ t ∈ l, t.k = 3 → t.x.size ≤ 4 * M
 | 0, R, acc, l, h, _, _ => by cases h
 | n + 1, R, acc, l, h, hM, ha => by
  unfold tokL at h
  split at h
  ·cases h
   exact ha
  ·rename_i hne
   cases hr : (nextL R).2 with
   | error c => rw [hr] at h; cases h
   | ok y =>
    obtain ⟨x, R'⟩ := y
    rw [hr] at h
    simp only at h
    split at h
    ·cases h
    ·have hnx : nextL R = ((nextL R).1, .ok (x, R')) := by rw [← hr]
     have hw := (next_wt (by intro e; rw [e] at hne; exact hne rfl) hnx 0).2
     refine tokL_len h (Nat.le_trans (betweenA_le (Nat.le_refl _)) (by omega)) fun t ht hk => ?_
     rcases List.mem_append.1 ht with h7 | h7
     ·exact ha t h7 hk
     ·have := List.mem_singleton.1 h7
      subst this
      have h8 := next_len hnx hk
      show x.toArray.size ≤ _
      simp
      omega
theorem scan_len {t : ByteArray} {l : List Tk} (h : scanL t = .ok l) : ∀ u ∈ l, u.k = 3 → u.x.size ≤ 65536 := by
 unfold scanL at h
 split at h
 ·cases h
 ·rename_i hs
  split at h
  ·cases h
  ·have h1 : (betweenA (rest t 0)).length ≤ 16384 := Nat.le_trans (betweenA_le (Nat.le_refl _)) (by rw [rest_length]; omega)
   exact tokL_len h h1 (fun t ht => by cases ht)
theorem scan_text {t : ByteArray} {l : List Tk} (h : scanL t = .ok l) (n s : Nat) : TxtOk ((l ++ [endT n]).map (shiftT s)) := by
 have h1 : TxtC l := by
  unfold scanL at h
  split at h
  ·cases h
  ·split at h
   ·cases h
   ·exact tokL_text h (fun t ht => by cases ht)
 intro x hx hk
 obtain ⟨y, hy, rfl⟩ := List.mem_map.1 hx
 rcases List.mem_append.1 hy with h2 | h2
 ·exact ⟨h1 y h2 hk, scan_len h y h2 hk⟩
 ·have := List.mem_singleton.1 h2
  subst this
  cases hk
end Go.Proofs.YtljgggohjigaoaaGreatDoor
namespace Go.Proofs.YtljgggohjigaoaaGreatDoor
open Go.RowKit Go.Shelf
set_option linter.unusedVariables false

def levC : Array Value := #[.int .i64 27, .int .i64 27, .int .i64 26, .int .i64 26, .int .i64 20, .int .i64 21, .int .i64 22, .int .i64 25, .int .i64 15, .int .i64 16, .int .i64 17, .int .i64 19]
def LevAt (W : World) : Prop := ∃ t fr, W.heap[ 1 ]? = some (.cells levC t fr)
structure Env (W : World) (P F : Nat) : Prop where
 ready : Ready W
 lev : LevAt W
 far : 4 ≤ P ∧ 4 ≤ F
theorem Env.keep {W W' : World} {P F : Nat} (h : Env W P F) (hs : W.heap.size ≤ W'.heap.size) (hk : ∀ k, k < 4 → W'.heap[k]? = W.heap[k]?) : Env W' P F := by
 obtain ⟨⟨h1, ⟨t, fr, h2⟩, mm, h3⟩, ⟨t2, fr2, h4⟩, hf⟩ := h
 exact ⟨⟨Nat.le_trans h1 hs, ⟨t, fr, (hk 0 (by decide)).trans h2⟩, mm, (World.cell?_of_block (w := W) (a := ⟨2, 0, none⟩) (hk 2 (by decide))).trans h3⟩, ⟨t2, fr2, (hk 1 (by decide)).trans h4⟩, hf⟩
section
variable {W W' : World} {P F T lo dp : Nat} {s : Ps} {m : FileM}
theorem Env.outs (h : Env W P F) (hp : PsAt W P F T lo dp s m) (ho : Outs W W' P F m) : Env W' P F :=
 h.keep ho.size fun k hk => ho.block k (Nat.lt_of_lt_of_le hk h.ready.1) (by have := h.far; omega) fun hm => by
  have h1 := (hp.file.lt k hm).2
  have h2 := hp.base.1
  have h3 := h.far.2
  omega
theorem Env.aside (h : Env W P F) (ha : Aside P W W') : Env W' P F := h.keep ha.size fun k hk => ha.block k (Nat.lt_of_lt_of_le hk h.ready.1) (by have := h.far; omega)
theorem Env.below (h : Env W P F) (hb : Below W.heap.size W W') : Env W' P F := h.keep hb.size fun k hk => hb.block k (Nat.lt_of_lt_of_le hk h.ready.1)
/-- What is ahead fits. -/
structure Fit (d : Nat) (s : Ps) : Prop where
 snd : Snd d s.toks
 txt : TxtOk s.toks
 pos : ∀ t ∈ s.toks, t.at_ + 100000 * d ≤ 3000000
 pot : pot s ≤ 1000000000
theorem Fit.of {d : Nat} {s s' : Ps} {c : Int} (h : Fit d s) (hs : s'.toks <:+ s.toks) (hp : (Go.Proofs.YtljgggohjigaoaaGreatDoor.pot s' : Int) + c ≤ Go.Proofs.YtljgggohjigaoaaGreatDoor.pot s) (hc : 0 ≤ c) : Fit d s' := ⟨h.snd.sfx hs, fun t ht => h.txt t (hs.subset ht), fun t ht => h.pos t (hs.subset ht), by have := h.pot; omega⟩
theorem Fit.room {d : Nat} {s : Ps} (h : Fit d s) : s.f.exprs.length ≤ 1000000000 := by
 have := h.pot
 unfold Go.Proofs.YtljgggohjigaoaaGreatDoor.pot at this
 omega
/-- A new expression whose arguments are new. -/
theorem add_lit (h : PsAt W P F T lo dp s m) (k : Int) (x : ByteArray) (l : List Nat) (hl : l.length ≤ 1000) (a : Nat) (hroom : s.f.exprs.length ≤ 1000000000) :
  Calls Tryz.prog 105 #[.pointer (some ⟨P, 0, none⟩), .agg #[.int .i64 k, .string x, .slice (some ⟨W.heap.size, 0, none⟩) l.length l.length, .slice none 0 0, .int .i64 (a : Int)]] (W.alloc (.cells (intsV l).toArray 3)) (PEnd W P F T lo dp m (fun n : Nat => .int .i64 (n : Int)) (addM ⟨k, x, l, [], a⟩ s)) := by
 have hb := below_new W (.cells (intsV l).toArray 3)
 have h1 := h.below hb
 have hsz : (W.alloc (.cells (intsV l).toArray 3)).heap.size = W.heap.size + 1 := by simp
 have hil : (intsV l).length = l.length := by simp [intsV]
 have hrk := h.tok.ranks
 have hx : (⟨⟨k, x, l, [], a⟩, .slice (some ⟨W.heap.size, 0, none⟩) l.length l.length, .slice none 0 0⟩ : ExM).Ok lo (W.alloc (.cells (intsV l).toArray 3)) := by
  refine ⟨?_, World.ownsRow_nil _ _ _ _⟩
  have := World.ownsRow_lit (base := lo) (e := 3) (size := 1) W (intsV l).toArray l.length h.base.2 (by unfold maxLen; omega) (by simp [hil])
  simpa using this
 have hft : (⟨⟨k, x, l, [], a⟩, .slice (some ⟨W.heap.size, 0, none⟩) l.length l.length, .slice none 0 0⟩ : ExM).foot = [W.heap.size] := rfl
 refine (add_any h1 hx (fun g hg => ?_) (by rw [hft]; simp) hroom).mono ?_
 ·rw [hft] at hg
  have hg := List.mem_singleton.1 hg
  subst hg
  refine ⟨fun hm => ?_, by omega, by omega⟩
  have := (h.file.lt _ hm).1
  omega
 ·rintro e w' ⟨rfl, m', hp', ho, hl2⟩
  refine ⟨rfl, m', hp', ⟨ho.os.trans hb.os, ho.tape.trans hb.tape, ho.output.trans hb.output, Nat.le_trans hb.size ho.size, fun i hi h2 h3 => (ho.block i (by omega) h2 h3).trans (hb.block i hi)⟩, ⟨fun g hg => ?_, hl2.tv⟩⟩
  rcases hl2 g hg with h2 | h2 | h2
  ·exact .inl h2
  ·rw [hft] at h2
   have := List.mem_singleton.1 h2
   exact .inr (by omega)
  ·exact .inr (by omega)
end
end Go.Proofs.YtljgggohjigaoaaGreatDoor
namespace Go.Proofs.YtljgggohjigaoaaGreatDoor
open Go.RowKit Go.Shelf
set_option linter.unusedVariables false

theorem PEnd.trans {α : Type} {W W1 w' : World} {P F T lo dp : Nat} {m m1 : FileM} {val : α → Value} {r : PR α} {e : Ending} (ho : Outs W W1 P F m) (hl : Later W F m m1) (h : PEnd W1 P F T lo dp m1 val r e w') : PEnd W P F T lo dp m val r e w' := by
 unfold PEnd at h ⊢
 cases r with
 | error bd =>
  obtain ⟨D, h1, h2, h3, h4⟩ := h
  exact ⟨D, h1, Nat.le_trans ho.size h2, h3, ho.trans hl h4⟩
 | ok y =>
  obtain ⟨a, s'⟩ := y
  obtain ⟨h1, m', h2, h3, h4⟩ := h
  exact ⟨h1, m', h2, ho.trans hl h3, hl.trans ho.size h4⟩
def natV (n : Nat) : Value := .int .i64 (n : Int)
/-- A reader of numbers, where d levels are left. -/
def Rds (P F T lo dp d : Nat) (fn : Nat) (args : Array Value) (sp : PM Nat) : Prop := ∀ (W : World) (s : Ps) (m : FileM), PsAt W P F T lo dp s m → Env W P F → Fit d s → Calls Tryz.prog fn args W (PEnd W P F T lo dp m natV (sp s))
theorem lev_cell {W : World} (h : LevAt W) (lv : Nat) (hl : lv < 6) : W.cell? ⟨1, lv * 2, none⟩ = some (.int .i64 (lowK lv)) ∧ W.cell? ⟨1, lv * 2 + 1, none⟩ = some (.int .i64 (topK lv)) := by
 obtain ⟨t, fr, h⟩ := h
 have hc : ∀ i, W.cell? ⟨1, i, none⟩ = levC[i]? := fun i => by
  simp [World.cell?, h]
 rw [hc, hc]
 match lv, hl with
 | 0, _ => exact ⟨rfl, rfl⟩
 | 1, _ => exact ⟨rfl, rfl⟩
 | 2, _ => exact ⟨rfl, rfl⟩
 | 3, _ => exact ⟨rfl, rfl⟩
 | 4, _ => exact ⟨rfl, rfl⟩
 | 5, _ => exact ⟨rfl, rfl⟩
theorem peekL_idem (o : Bool) (l : List Tk) : peekL o (peekL o l) = peekL o l := peek_idem o l
theorem next_peek (s : Ps) : next (peekS s) = next s := by
 show headT (peekL s.over (peekL s.over s.toks)) = _
 rw [peekL_idem]
 rfl
theorem take_peek (s : Ps) : takeS (peekS s) = takeS s := by
 show ({ peekS s with toks := (peekL s.over (peekL s.over s.toks)).drop 1 } : Ps) = _
 rw [peekL_idem]
 rfl
theorem take_lt {s : Ps} (h : (next s).k ≠ 0) : (takeS s).toks.length < s.toks.length := by
 have h1 := (peekL_sfx s.over s.toks).length_le
 show ((peekL s.over s.toks).drop 1).length < _
 cases hp : peekL s.over s.toks with
 | nil =>
  exfalso
  apply h
  show (headT (peekL s.over s.toks)).k = 0
  rw [hp]
  rfl
 | cons a q =>
  rw [hp] at h1
  simp at h1 ⊢
  omega
section
variable {P F T lo dp d : Nat} {nx : Sub}
set_option maxRecDepth 100000 in
set_option maxHeartbeats 4000000 in
theorem joined_zero (hS : Rds P F T lo dp d 119 #[.pointer (some ⟨P, 0, none⟩)] (signedM nx)) : Rds P F T lo dp d 103 #[.pointer (some ⟨P, 0, none⟩), .int .i64 6] (joinedM nx 0) := by
 intro W s m h he hf
 have HS := Lib.hid (hS W s m h he hf)
 have HR : Hid (joinedM nx 0 s = signedM nx s) := Lib.hid rfl
 rw [HR.out]
 obtain ⟨R, hR⟩ : ∃ R, signedM nx s = R := ⟨_, rfl⟩
 rw [hR] at HS ⊢
 clear hR HR h he hf hS
 go_enter Tryz.func103, Tryz.ntmps103
 go_wp2_with fail
 go_at_call 119; refine HS.out.mono ?_
 intro e w2 hk
 cases R with
 | error bd =>
  obtain ⟨D, rfl, h1, h2, h3⟩ := hk
  exact ⟨rfl, D, rfl, h1, h2, h3⟩
 | ok y =>
  obtain ⟨a, s'⟩ := y
  obtain ⟨rfl, m', h1, h2, h3⟩ := hk
  go_wp2_with fail
  go_ret
  exact ⟨rfl, m', h1, h2, h3⟩
set_option maxRecDepth 100000 in
set_option maxHeartbeats 4000000 in
theorem joined_more (hx : SubOk d nx) {n lv : Nat} (hlv : n + lv = 5) (hJ : Rds P F T lo dp d 103 #[.pointer (some ⟨P, 0, none⟩), .int .i64 ((lv : Int) + 1)] (joinedM nx n)) : Rds P F T lo dp d 103 #[.pointer (some ⟨P, 0, none⟩), .int .i64 (lv : Int)] (joinedM nx (n + 1)) := by
 intro W s m h he hf
 have HJ := Lib.hid hJ
 have HPS := Lib.hid (And.intro h (And.intro he hf))
 have HD : Hid (Dec d 0 (joinedM nx n)) := Lib.hid (joined_dec hx n)
 have HJ1 := Lib.hid (hJ W s m h he hf)
 obtain ⟨sub, hsub⟩ : ∃ sub, joinedM nx n = sub := ⟨_, rfl⟩
 obtain ⟨R, hR⟩ : ∃ R, joinedM nx (n + 1) s = R := ⟨_, rfl⟩
 have HR : Hid (bindP sub (fun left s => joinLoop sub lv (s.toks.length + 1) left s) s = R) := Lib.hid (by
  have hl : lv = 5 - n := by omega
  rw [← hR, ← hsub, hl]
  rfl)
 rw [hR]
 rw [hsub] at HJ HJ1 HD
 have e6 : ((lv : Int) == 6) = false := by simp; omega
 have l0 : (0 : Int) ≤ (lv : Int) := by omega
 have l6 : (lv : Int) < 6 := by omega
 have hlv6 : lv < 6 := by omega
 obtain ⟨R1, hR1⟩ : ∃ R1, sub s = R1 := ⟨_, rfl⟩
 have HR1 := Lib.hid hR1
 rw [hR1] at HJ1
 clear h he hf hJ hR hsub hx hlv hR1
 go_enter Tryz.func103, Tryz.ntmps103
 go_wp2_with fail
 go_at_call 103; refine HJ1.out.mono ?_
 intro e w2 hk
 cases R1 with
 | error bd =>
  obtain ⟨D, rfl, h1, h2, h3⟩ := hk
  have hR2 : R = .error bd := by rw [← HR.out]; unfold bindP; rw [HR1.out]
  refine ⟨rfl, ?_⟩
  rw [hR2]
  exact ⟨D, rfl, h1, h2, h3⟩
 | ok y =>
  obtain ⟨left, s1⟩ := y
  obtain ⟨rfl, m1, hp1, ho1, hl1⟩ := hk
  have HR2 : Hid (joinLoop sub lv (s1.toks.length + 1) left s1 = R) := Lib.hid (by rw [← HR.out]; unfold bindP; rw [HR1.out])
  have hdec := HD.out s HPS.out.2.2.snd left s1 HR1.out
  have HW2 := Lib.hid (And.intro hp1 (And.intro ho1 (And.intro hl1 (And.intro (HPS.out.2.1.outs HPS.out.1 ho1) (HPS.out.2.2.of hdec.1 hdec.2 (by omega))))))
  have hnv : natV left = .int .i64 (left : Int) := rfl
  rw [hnv]
  clear hp1 ho1 hl1 hdec hnv HR HR1 HJ1
  go_wp2_with fail
  go_loopg [5] (s1.toks.length + 1) (fun gf s5 wx => ∃ (l : Nat) (s' : Ps) (m' : FileM), s5 = .int .i64 (l : Int) ∧ Hid (PsAt wx P F T lo dp s' m' ∧ Outs W wx P F m ∧ Later W F m m' ∧ Env wx P F ∧ Fit d s') ∧ Hid (joinLoop sub lv gf l s' = R) ∧ s'.toks.length < gf)
  case atStart => exact ⟨left, s1, m1, rfl, HW2, HR2, by omega⟩
  case round =>
   obtain ⟨l, s', m', rfl, HW, HRL, hlen⟩ := hrel
   clear HW2 HR2
   obtain ⟨g', rfl⟩ : ∃ g', gk = g' + 1 := ⟨gk - 1, by omega⟩
   have HPK := Lib.hid (peek_ps HW.out.1)
   obtain ⟨t, ht⟩ : ∃ t, next s' = t := ⟨_, rfl⟩
   have HT := Lib.hid ht
   rw [ht] at HPK
   have HJO := Lib.hid (fun w => joins_any t w)
   obtain ⟨kz, hkz⟩ : ∃ kz, joinsT t = kz := ⟨_, rfl⟩
   have HKZ := Lib.hid hkz
   rw [hkz] at HJO
   clear ht hkz
   go_wp2_with fail
   go_at_call 52; refine HPK.out.mono ?_
   rintro e w3 ⟨rfl, hp3, ha3⟩
   have HP3 := Lib.hid (And.intro hp3 ha3)
   clear hp3 ha3
   go_wp2_with fail
   go_at_call 120; refine (HJO.out _).mono ?_
   rintro e w4 ⟨rfl, hb4⟩
   have HP4 := Lib.hid (And.intro (HP3.out.1.below hb4) (HP3.out.2.trans (Aside.of hb4)))
   have he4 : Env w4 P F := (HW.out.2.2.2.1.aside HP3.out.2).below hb4
   have HE4 := Lib.hid he4
   obtain ⟨c0, c1⟩ := lev_cell he4.lev lv hlv6
   obtain ⟨lz, hlz⟩ : ∃ z, lowK lv = z := ⟨_, rfl⟩
   obtain ⟨tz, htz⟩ : ∃ z, topK lv = z := ⟨_, rfl⟩
   rw [hlz] at c0
   rw [htz] at c1
   have HLZ := Lib.hid (And.intro hlz htz)
   clear hb4 he4 hlz htz
   by_cases hin : lz ≤ kz ∧ kz ≤ tz
   ·have i1 : ¬ kz < lz := by omega
    have i2 : ¬ tz < kz := by omega
    have HIN := Lib.hid hin
    obtain ⟨i3, i4⟩ := hin
    have hcnd : lowK lv ≤ joinsT (next s') ∧ joinsT (next s') ≤ topK lv := by rw [HT.out, HKZ.out, HLZ.out.1, HLZ.out.2]; exact HIN.out
    have hw1 := joins_wt hcnd.1
    have hk0 : (next s').k ≠ 0 := fun e => by
     have h0 : wt (next s') = 0 := by unfold wt; rw [if_pos e]
     omega
    have hk1 : (next (peekS s')).k ≠ 0 := by rw [next_peek]; exact hk0
    have htk := take_ps HP4.out.1 hk1
    rw [next_peek, take_peek, HT.out] at htk
    have HTK := Lib.hid htk
    have hft : Fit d (takeS s') := HW.out.2.2.2.2.of (c := 0) (take_sfx s') (by have := pot_take s'; omega) (by omega)
    have hlt : (takeS s').toks.length < s'.toks.length := by
     have := take_lt hk0
     exact this
    have HFT := Lib.hid (And.intro hft hlt)
    have hfl : ∀ w : World, (Instr.field 75 (tkV t) 2).run Tryz.prog w = .ok (.int .i64 (t.at_ : Int)) w := fun _ => rfl
    have HRL2 : Hid (bindP sub (fun right => bindP (addM ⟨kz, ⟨#[]⟩, [l, right], [], t.at_⟩) fun i => joinLoop sub lv g' i) (takeS s') = R) := Lib.hid (by
     rw [← HRL.out]
     conv => rhs; unfold joinLoop
     rw [if_pos hcnd, HT.out, HKZ.out])
    clear hcnd hw1 hk0 hk1 htk hft hlt HRL
    go_wp2_with fail
    go_at_call 53; refine HTK.out.mono ?_
    rintro e w5 ⟨rfl, hp5, ha5⟩
    have HP5 := Lib.hid (And.intro hp5 (And.intro (HP4.out.2.trans ha5) (HE4.out.aside ha5)))
    have HJ2 := Lib.hid (HJ.out w5 (takeS s') m' hp5 HP5.out.2.2 HFT.out.1)
    obtain ⟨R2, hR2⟩ : ∃ R2, sub (takeS s') = R2 := ⟨_, rfl⟩
    have HR2 := Lib.hid hR2
    rw [hR2] at HJ2
    clear hp5 ha5 hR2 c0 c1
    go_wp2_with fail
    go_at_call 103; refine HJ2.out.mono ?_
    intro e w6 hk
    have ho5 : Outs W w5 P F m := HW.out.2.1.trans HW.out.2.2.1 (Outs.aside HP5.out.2.1)
    have hl5 : Later W F m m' := HW.out.2.2.1
    cases R2 with
    | error bd =>
     obtain ⟨D, rfl, h1, h2, h3⟩ := hk
     have hR3 : R = .error bd := by rw [← HRL2.out]; unfold bindP; rw [HR2.out]
     refine ⟨rfl, ?_⟩
     rw [hR3]
     exact ⟨D, rfl, Nat.le_trans ho5.size h1, h2, ho5.trans hl5 h3⟩
    | ok y =>
     obtain ⟨right, s2⟩ := y
     obtain ⟨rfl, m2, hp6, ho6, hl6⟩ := hk
     have hdec := HD.out (takeS s') HFT.out.1.snd right s2 HR2.out
     have hf2 : Fit d s2 := HFT.out.1.of hdec.1 hdec.2 (by omega)
     have hnv : natV right = .int .i64 (right : Int) := rfl
     rw [hnv]
     have HR4 : Hid (joinLoop sub lv g' s2.f.exprs.length { s2 with f := { s2.f with exprs := s2.f.exprs ++ [⟨kz, ⟨#[]⟩, [l, right], [], t.at_⟩] } } = R) := Lib.hid (by
      rw [← HRL2.out]
      unfold bindP
      rw [HR2.out]
      rfl)
     have HAD := Lib.hid (add_lit hp6 kz ⟨#[]⟩ [l, right] (by simp) t.at_ hf2.room)
     have HW6 := Lib.hid (And.intro (ho5.trans hl5 ho6) (And.intro (hl5.trans ho5.size hl6) (And.intro (HP5.out.2.2.outs HP5.out.1 ho6) (And.intro hdec hf2))))
     have HP6 := Lib.hid hp6
     clear hp6 ho6 hl6 hdec hf2 hnv ho5 hl5
     go_wp2_with fail
     go_at_call 105; refine HAD.out.mono ?_
     rintro e w7 ⟨rfl, m3, hp7, ho7, hl7⟩
     have HW7 : Hid (PsAt w7 P F T lo dp { s2 with f := { s2.f with exprs := s2.f.exprs ++ [⟨kz, ⟨#[]⟩, [l, right], [], t.at_⟩] } } m3 ∧ Outs W w7 P F m ∧ Later W F m m3 ∧ Env w7 P F ∧ Fit d { s2 with f := { s2.f with exprs := s2.f.exprs ++ [⟨kz, ⟨#[]⟩, [l, right], [], t.at_⟩] } }) := Lib.hid (by
      refine ⟨hp7, HW6.out.1.trans HW6.out.2.1 ho7, HW6.out.2.1.trans HW6.out.1.size hl7, HW6.out.2.2.1.outs HP6.out ho7, HW6.out.2.2.2.2.snd, HW6.out.2.2.2.2.txt, HW6.out.2.2.2.2.pos, ?_⟩
      have h1 := HW6.out.2.2.2.1.2
      have h2 := pot_take s'
      have h3 := HW.out.2.2.2.2.pot
      have h4 := joins_wt (t := next s') (lv := lv) (by rw [HT.out, HKZ.out, HLZ.out.1]; exact HIN.out.1)
      unfold Go.Proofs.YtljgggohjigaoaaGreatDoor.pot at h1 h2 h3 ⊢
      simp only [List.length_append, List.length_cons, List.length_nil] at h1 h2 h3 ⊢
      omega)
     have hll := HFT.out.2
     have hl2 := HW6.out.2.2.2.1.1.length_le
     clear hp7 ho7 hl7
     go_wp2_with fail
     go_roundg g'
     case measure => omega
     case rel => exact ⟨_, _, m3, rfl, HW7, HR4, by show s2.toks.length < g'; omega⟩
   ·have HNI := Lib.hid hin
    have hend : R = .ok (l, peekS s') := by
     rw [← HRL.out]
     unfold joinLoop
     rw [if_neg (by rw [HT.out, HKZ.out, HLZ.out.1, HLZ.out.2]; exact HNI.out)]
    have HEND := Lib.hid hend
    clear hend
    by_cases hlo2 : kz < lz
    ·clear hin
     go_wp2_with fail
     go_ret
     rw [HEND.out]
     exact ⟨rfl, m', HP4.out.1, HW.out.2.1.trans HW.out.2.2.1 (Outs.aside HP4.out.2), HW.out.2.2.1⟩
    ·have i2 : tz < kz := by omega
     clear hin
     go_wp2_with fail
     go_ret
     rw [HEND.out]
     exact ⟨rfl, m', HP4.out.1, HW.out.2.1.trans HW.out.2.2.1 (Outs.aside HP4.out.2), HW.out.2.2.1⟩
end
end Go.Proofs.YtljgggohjigaoaaGreatDoor
