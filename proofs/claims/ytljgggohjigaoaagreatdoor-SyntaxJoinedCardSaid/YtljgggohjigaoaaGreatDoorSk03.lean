/- A word, and what is taken as bytes · The lexer as functions on what is left of a text · Texts, insertions and braces, as functions on what is left · skipRemark and skipBetween -/
import Derived.Lib.IndexMore
import Derived.Test.YtljgggohjigaoaaGreatDoorSk02
namespace Go.Proofs.YtljgggohjigaoaaGreatDoor
open Go.RowKit Go.Shelf
set_option linter.unusedVariables false

theorem rest_add (t : ByteArray) (a m : Nat) : (rest t a).drop m = rest t (a + m) := by unfold rest; rw [List.drop_drop]
/-- take, as of bytes. -/
theorem takeTo_bytes {p : Nat → Bool} {q q' : UInt8 → Bool} {hi : Bool} (hlo : ∀ c : UInt8, c.toNat < 128 → p c.toNat = q c) (hhi : ∀ r, 128 ≤ r → p r = hi) (hq : ∀ c, byteP q hi c = q' c) {t : ByteArray} {a : Nat} (ha : a ≤ t.size) :
  rest t (takeTo p t a) = (rest t a).dropWhile q' ∧ a ≤ takeTo p t a ∧ takeTo p t a ≤ t.size := by
 have hz := extract_size ha
 obtain ⟨h1, h2, h3⟩ := stopAt_bytes (p := p) (q := q) (hi := hi) (s := t.extract a t.size) hlo hhi (t.size - a) 0 (by omega) (by omega)
 have e : byteP q hi = q' := funext hq
 rw [rest_extract, e, rest_add, List.drop_zero] at h1
 unfold takeTo
 exact ⟨h1, by omega, by omega⟩
theorem u8_nat (c : UInt8) : c.toNat.toUInt8 = c := by simp
theorem inP_bytes {s : ByteArray} (hs : AllAscii s) {t : ByteArray} {a : Nat} (ha : a ≤ t.size) : rest t (takeTo (inP s) t a) = (rest t a).dropWhile (fun c => s.data.toList.contains c) ∧ a ≤ takeTo (inP s) t a ∧ takeTo (inP s) t a ≤ t.size :=
 takeTo_bytes (q := fun c => s.data.toList.contains c) (hi := false) (fun c hc => by unfold inP; rw [decide_eq_true hc, u8_nat]; rfl) (fun r hr => by unfold inP; rw [decide_eq_false (by omega)]; rfl) (fun c => by
  unfold byteP
  split
  ·rfl
  ·rename_i h
   cases hc : s.data.toList.contains c
   ·rfl
   ·exact absurd (hs c (List.contains_iff_mem.1 hc)) h) ha
theorem outP_bytes {s : ByteArray} (hs : AllAscii s) {t : ByteArray} {a : Nat} (ha : a ≤ t.size) : rest t (takeTo (outP s) t a) = (rest t a).dropWhile (fun c => !s.data.toList.contains c) ∧ a ≤ takeTo (outP s) t a ∧ takeTo (outP s) t a ≤ t.size :=
 takeTo_bytes (q := fun c => !s.data.toList.contains c) (hi := true) (fun c hc => by unfold outP inP; rw [decide_eq_true hc, u8_nat]; rfl) (fun r hr => by unfold outP inP; rw [decide_eq_false (by omega)]; rfl) (fun c => by
  unfold byteP
  split
  ·rfl
  ·rename_i h
   cases hc : s.data.toList.contains c
   ·rfl
   ·exact absurd (hs c (List.contains_iff_mem.1 hc)) h) ha
theorem digP_bytes {t : ByteArray} {a : Nat} (ha : a ≤ t.size) : rest t (takeTo digP t a) = (rest t a).dropWhile digB ∧ a ≤ takeTo digP t a ∧ takeTo digP t a ≤ t.size :=
 takeTo_bytes (q := digB) (hi := false) (fun c hc => rfl) (fun r hr => by unfold digP; simp; omega) (fun c => by
  unfold byteP digB
  split
  ·rfl
  ·simp; omega) ha

/-- A word's bytes gone over. -/
def wordL : List UInt8 → List UInt8
 | [] => []
 | c :: r => if letB c then r.dropWhile wordB else c :: r
theorem wordL_cons (c : UInt8) (r : List UInt8) : wordL (c :: r) = if letB c then r.dropWhile wordB else c :: r := rfl
theorem rest_nil {t : ByteArray} {a : Nat} (h : t.size ≤ a) : rest t a = [] := by unfold rest; exact List.drop_of_length_le (by simpa using h)
theorem rest_cons {t : ByteArray} {a : Nat} (h : a < t.size) : rest t a = (t[a]'h) :: rest t (a + 1) := by
 unfold rest
 rw [drop_cons (by simpa using h)]
 rfl
theorem wordTo_bytes {t : ByteArray} {a : Nat} (ha : a ≤ t.size) : rest t (wordTo letP wordP t a) = wordL (rest t a) ∧ a ≤ wordTo letP wordP t a ∧ wordTo letP wordP t a ≤ t.size := by
 have hz := extract_size ha
 unfold wordTo
 rw [hz]
 by_cases h : a < t.size
 ·rw [if_pos (by omega)]
  have h0 : 0 < (t.extract a t.size).size := by omega
  have hg : (t.extract a t.size)[0]'h0 = t[a]'h := by
   have e := rest_extract t a
   rw [rest_cons h] at e
   have h1 : (t.extract a t.size).data.toList[0]'(by simpa using h0) = t[a]'h := by
    have : ∀ (l : List UInt8) (hl : 0 < l.length) x r, l = x :: r → l[0] = x := by intro l hl x r e; subst e; rfl
    exact this _ _ _ _ e
   exact h1
  rw [rest_cons h]
  by_cases hc : (t[a]'h).toNat < 128
  ·have hd := decode_ascii (t.extract a t.size) 0 h0 (by rw [hg]; exact hc)
   rw [hd, hg]
   have hl : letP (t[a]'h).toNat = letB (t[a]'h) := rfl
   show rest t (if letP (t[a]'h).toNat = true then a + stopAt wordP (t.extract a t.size) (t.size - a) 1 else a) = wordL ((t[a]'h) :: rest t (a + 1)) ∧ _ ∧ _
   rw [wordL_cons, hl]
   by_cases hw : letB (t[a]'h) = true
   ·rw [if_pos hw, if_pos hw]
    obtain ⟨h1, h2, h3⟩ := stopAt_bytes (p := wordP) (q := wordB) (hi := false) (s := t.extract a t.size) (fun c hc => rfl) (fun r hr => by unfold wordP letP digP; simp; omega) (t.size - a) 1 (by omega) (by omega)
    have e : byteP wordB false = wordB := funext fun c => by
     unfold byteP
     split
     ·rfl
     ·unfold wordB letB digB; simp; omega
    rw [rest_extract, e, rest_add, rest_add] at h1
    exact ⟨h1, by omega, by omega⟩
   ·rw [if_neg hw, if_neg hw]
    exact ⟨rest_cons h, by omega, by omega⟩
  ·have hh := decode_high (t.extract a t.size) 0 h0 (by rw [hg]; omega)
   have e1 : letP (Utf8.decode (t.extract a t.size) 0).1 = false := by unfold letP; simp; omega
   have e2 : letB (t[a]'h) = false := by unfold letB; simp; omega
   rw [wordL_cons, e1, e2, if_neg Bool.false_ne_true, if_neg Bool.false_ne_true]
   exact ⟨rest_cons h, Nat.le_refl _, by omega⟩
 ·rw [if_neg (by omega), rest_nil (by omega)]
  exact ⟨rfl, Nat.le_refl _, ha⟩

/-- take with a function value, as of bytes. -/
theorem take_to {W : World} {P a b : Nat} {t : ByteArray} (h : Scn W P t a) {g : Nat} {lb : Array Value} {p : Nat → Bool} (hs : Says g lb p W) {R : List UInt8} (hb : rest t (takeTo p t a) = R ∧ a ≤ takeTo p t a ∧ takeTo p t a ≤ t.size) (hR : b = t.size - R.length) :
  Calls Tryz.prog 84 #[.pointer (some ⟨P, 0, none⟩), .func (.func g) #[] lb] W fun e w' => e = .returned (.string (t.extract a b)) ∧ Went W w' P t b := by
 obtain ⟨h1, h2, h3⟩ := hb
 have hl : R.length = t.size - takeTo p t a := by rw [← h1, rest_length]
 exact take_any h hs (by omega) (by omega) (by omega)
set_option maxRecDepth 100000 in
set_option maxHeartbeats 1000000 in
theorem word_any {W : World} {P a b : Nat} {t : ByteArray} (h : Scn W P t a) (hb : wordTo letP wordP t a = b) : Calls Tryz.prog 114 #[.pointer (some ⟨P, 0, none⟩)] W fun e w' => e = .returned (.string (t.extract a b)) ∧ Went W w' P t b := by
 have hmf := hmf
 have hw := wordTo_bytes h.2.1
 rw [hb] at hw
 have hPF := h.1.lt
 have HT := Lib.hid (take_st (h.below (below_new W (.cells #[.bool true] 4))) (Blk.new W #[.bool true] 4) (by omega) (word_says W.heap.size) hb hw.2.2 hw.2.1)
 clear h hb hw
 go_enter Tryz.func114, Tryz.ntmps114
 go_wp2_with (go_at_call 84; refine HT.out.mono ?_; rintro e w1 ⟨rfl, ho, hsc⟩)
 go_ret
 refine ⟨rfl, ⟨ho.os, ho.tape, ho.output, ?_, fun k hk hP => ?_⟩, hsc⟩
 ·have := ho.size; simp at this; omega
 ·rw [ho.block k (by simp; omega) hP (by omega)]
  exact Below.heap_alloc W _ k hk
end Go.Proofs.YtljgggohjigaoaaGreatDoor
namespace Go.Proofs.YtljgggohjigaoaaGreatDoor
set_option linter.unusedVariables false

def bytesIn (l : List UInt8) (c : UInt8) : Bool := l.contains c
def notIn (l : List UInt8) (c : UInt8) : Bool := !l.contains c
/-- Behind a remark, if one stands here. -/
def remarkL (R : List UInt8) : Option (List UInt8) :=
 if Lib.hasPrefix R [35] || Lib.hasPrefix R [47, 47] then some (R.dropWhile (notIn [10]))
 else if Lib.hasPrefix R [47, 42] then (if 0 ≤ Lib.index (R.drop 2) [42, 47] then some ((R.drop 2).drop ((Lib.index (R.drop 2) [42, 47]).toNat + 2)) else none)
 else none
/-- Behind all that may stand between two tokens. -/
def betweenL : Nat → List UInt8 → List UInt8
 | 0, R => R
 | n + 1, R =>
  let R1 := R.dropWhile (bytesIn [32, 9, 13])
  if R1.length < R.length then betweenL n R1 else match remarkL R with
   | some R2 => betweenL n R2
   | none => R
theorem dropWhile_le {q : UInt8 → Bool} : ∀ l : List UInt8, (l.dropWhile q).length ≤ l.length
 | [] => by simp
 | c :: l => by
  have := dropWhile_le (q := q) l
  rw [List.dropWhile_cons]
  split
  ·simp; omega
  ·simp
theorem prefix_drop {R p : List UInt8} (h : Lib.hasPrefix R p = true) : p.length ≤ R.length := List.IsPrefix.length_le (List.isPrefixOf_iff_prefix.1 h)
theorem remark_less {R R' : List UInt8} (h : remarkL R = some R') : R'.length < R.length := by
 unfold remarkL at h
 split at h
 ·rename_i hp
  cases h
  have hd := dropWhile_le (q := notIn [10]) R
  match R, hp with
  | [], hp => simp [Lib.hasPrefix] at hp
  | c :: r, hp =>
   have hc : notIn [10] c = true := by
    have h1 : c = 35 ∨ c = 47 := by
     simp [Lib.hasPrefix, List.isPrefixOf] at hp
     rcases hp with h | h
     ·exact .inl h.symm
     ·exact .inr h.1.symm
    rcases h1 with rfl | rfl <;> decide
   rw [List.dropWhile_cons_of_pos hc]
   have := dropWhile_le (q := notIn [10]) r
   simp; omega
 ·split at h
  ·rename_i hp
   have h2 := prefix_drop hp
   split at h
   ·cases h
    simp at h2 ⊢
    omega
   ·cases h
  ·cases h
theorem between_more : ∀ {n m : Nat} {R : List UInt8}, R.length ≤ n → R.length ≤ m → betweenL n R = betweenL m R
 | 0, 0, _, _, _ => rfl
 | 0, m + 1, R, h, _ => by
  obtain rfl : R = [] := List.length_eq_zero_iff.1 (by omega)
  simp [betweenL, remarkL, Lib.hasPrefix]
 | n + 1, 0, R, _, h => by
  obtain rfl : R = [] := List.length_eq_zero_iff.1 (by omega)
  simp [betweenL, remarkL, Lib.hasPrefix]
 | n + 1, m + 1, R, h1, h2 => by
  unfold betweenL
  simp only
  split
  ·exact between_more (by omega) (by omega)
  ·cases hr : remarkL R with
   | none => rfl
   | some R2 =>
    have := remark_less hr
    exact between_more (by omega) (by omega)
/-- Behind all that may stand between two tokens, of any length. -/
def betweenA (R : List UInt8) : List UInt8 := betweenL R.length R
theorem betweenA_blank {R : List UInt8} (h : (R.dropWhile (bytesIn [32, 9, 13])).length < R.length) : betweenA R = betweenA (R.dropWhile (bytesIn [32, 9, 13])) := by
 unfold betweenA
 obtain ⟨n, hn⟩ : ∃ n, R.length = n + 1 := ⟨R.length - 1, by omega⟩
 rw [hn]
 conv => lhs; unfold betweenL
 simp only
 rw [if_pos h]
 exact between_more (by omega) (Nat.le_refl _)
theorem betweenA_remark {R R' : List UInt8} (h : ¬ (R.dropWhile (bytesIn [32, 9, 13])).length < R.length) (hr : remarkL R = some R') : betweenA R = betweenA R' := by
 unfold betweenA
 have := remark_less hr
 obtain ⟨n, hn⟩ : ∃ n, R.length = n + 1 := ⟨R.length - 1, by omega⟩
 rw [hn]
 conv => lhs; unfold betweenL
 simp only
 rw [if_neg h, hr]
 exact between_more (by omega) (Nat.le_refl _)
theorem betweenA_none {R : List UInt8} (h : ¬ (R.dropWhile (bytesIn [32, 9, 13])).length < R.length) (hr : remarkL R = none) : betweenA R = R := by
 unfold betweenA
 cases hn : R.length with
 | zero => rfl
 | succ n =>
  unfold betweenL
  simp only
  rw [if_neg h, hr]
end Go.Proofs.YtljgggohjigaoaaGreatDoor
namespace Go.Proofs.YtljgggohjigaoaaGreatDoor
set_option linter.unusedVariables false

/-- What is left, or what is wrong. -/
abbrev Left := Except Int (List UInt8)
def escL : List UInt8 → Left
 | 92 :: c :: r => if [34, 92, 110, 116, 114, 36].contains c then .ok r else .error 40
 | _ => .error 40
/-- What is no sign of one of these, at least one. -/
def runL (q : List UInt8) (R : List UInt8) : Left := if (R.dropWhile (notIn q)).length < R.length then .ok (R.dropWhile (notIn q)) else .error 40
def textPart (b : List UInt8 → Left) (R : List UInt8) : Left :=
 if Lib.hasPrefix R [92] then escL R
 else if Lib.hasPrefix R [36, 123] then b (R.drop 1)
 else if Lib.hasPrefix R [36] then .ok (R.drop 1)
 else runL [34, 92, 36, 10] R
def bracePart (b tx : List UInt8 → Left) (R : List UInt8) : Left :=
 if Lib.hasPrefix R [123] then b R
 else if Lib.hasPrefix R [34] then tx R
 else runL [123, 125, 34, 10] R
/-- Part by part, to an end. -/
def toEnd (part : List UInt8 → Left) (q : UInt8) : Nat → List UInt8 → Left
 | 0, R => .error 40
 | n + 1, R => if Lib.hasPrefix R [q] then .ok (R.drop 1) else match part R with
  | .ok R' => toEnd part q n R'
  | .error c => .error c
def toEndA (part : List UInt8 → Left) (q : UInt8) (R : List UInt8) : Left := toEnd part q (R.length + 1) R
def textL (b : List UInt8 → Left) (R : List UInt8) : Left := toEndA (textPart b) 34 (R.drop 1)
def braceL : Nat → List UInt8 → Left
 | 0, _ => .error 7
 | n + 1, R => toEndA (bracePart (braceL n) (textL (braceL n))) 125 (R.drop 1)
/-- A reader that goes on. -/
def GoesOn (part : List UInt8 → Left) : Prop := ∀ R, (∀ R', part R = .ok R' → R'.length < R.length) ∧ (∀ c, part R = .error c → 0 < c ∧ c < 100)
theorem pre1 {R : List UInt8} {q : UInt8} (h : Lib.hasPrefix R [q] = true) : R = q :: R.drop 1 := by
 match R, h with
 | [], h => simp [Lib.hasPrefix] at h
 | c :: r, h =>
  simp [Lib.hasPrefix, List.isPrefixOf] at h
  simp [h]
theorem esc_on : GoesOn escL := fun R => by
 unfold escL
 split
 ·split
  ·exact ⟨fun R' h => (by cases h; simp; omega), fun c h => by cases h⟩
  ·exact ⟨fun R' h => (by cases h), fun c h => by cases h; decide⟩
 ·exact ⟨fun R' h => (by cases h), fun c h => by cases h; decide⟩
theorem run_on (q : List UInt8) : GoesOn (runL q) := fun R => by
 unfold runL
 split
 ·exact ⟨fun R' h => (by cases h; assumption), fun c h => by cases h⟩
 ·exact ⟨fun R' h => (by cases h), fun c h => by cases h; decide⟩
theorem textPart_on {b : List UInt8 → Left} (hb : GoesOn b) : GoesOn (textPart b) := fun R => by
 unfold textPart
 split
 ·exact esc_on R
 ·split
  ·rename_i h
   have := prefix_drop h
   refine ⟨fun R' h' => ?_, (hb _).2⟩
   have := (hb _).1 R' h'
   simp at *
   omega
  ·split
   ·rename_i h
    have := prefix_drop h
    simp at this
    exact ⟨fun R' h' => (by cases h'; simp; omega), fun c h' => by cases h'⟩
   ·exact run_on _ R
theorem bracePart_on {b tx : List UInt8 → Left} (hb : GoesOn b) (ht : GoesOn tx) : GoesOn (bracePart b tx) := fun R => by
 unfold bracePart
 split
 ·exact hb R
 ·split
  ·exact ht R
  ·exact run_on _ R
theorem toEnd_on {part : List UInt8 → Left} (hp : GoesOn part) {q : UInt8} : ∀ n R, (∀ R', toEnd part q n R = .ok R' → R'.length < R.length) ∧ (∀ c, toEnd part q n R = .error c → 0 < c ∧ c < 100)
 | 0, R => ⟨fun R' h => (by cases h), fun c h => by cases h; decide⟩
 | n + 1, R => by
  unfold toEnd
  split
  ·rename_i h
   have := prefix_drop h
   simp at this
   exact ⟨fun R' h' => (by cases h'; simp; omega), fun c h' => by cases h'⟩
  ·cases hr : part R with
   | ok R1 =>
    have h1 := (hp R).1 R1 hr
    obtain ⟨i1, i2⟩ := toEnd_on hp (q := q) n R1
    exact ⟨fun R' h' => Nat.lt_trans (i1 R' h') h1, i2⟩
   | error c => exact ⟨fun R' h' => (by cases h'), fun c' h' => by cases h'; exact (hp R).2 c hr⟩
theorem textL_on {b : List UInt8 → Left} (hb : GoesOn b) : GoesOn (textL b) := fun R => by
 obtain ⟨h1, h2⟩ := toEnd_on (textPart_on hb) (q := 34) ((R.drop 1).length + 1) (R.drop 1)
 exact ⟨fun R' h => by have := h1 R' h; simp at this; omega, h2⟩
theorem braceL_on : ∀ n, GoesOn (braceL n)
 | 0 => fun R => ⟨fun R' h => (by cases h), fun c h => by cases h; decide⟩
 | n + 1 => fun R => by
  obtain ⟨h1, h2⟩ := toEnd_on (bracePart_on (braceL_on n) (textL_on (braceL_on n))) (q := 125) ((R.drop 1).length + 1) (R.drop 1)
  exact ⟨fun R' h => by have := h1 R' h; simp at this; omega, h2⟩
theorem toEnd_more {part : List UInt8 → Left} (hp : GoesOn part) {q : UInt8} : ∀ {n m : Nat} {R : List UInt8}, R.length < n → R.length < m → toEnd part q n R = toEnd part q m R
 | 0, m, R, h, _ => by omega
 | n + 1, 0, R, _, h => by omega
 | n + 1, m + 1, R, h1, h2 => by
  unfold toEnd
  split
  ·rfl
  ·cases hr : part R with
   | ok R1 =>
    have h3 := (hp R).1 R1 hr
    exact toEnd_more hp (by omega) (by omega)
   | error c => rfl
theorem toEndA_end {part : List UInt8 → Left} {q : UInt8} {R : List UInt8} (h : Lib.hasPrefix R [q] = true) : toEndA part q R = .ok (R.drop 1) := by
 unfold toEndA toEnd
 rw [if_pos h]
theorem toEndA_part {part : List UInt8 → Left} (hp : GoesOn part) {q : UInt8} {R R' : List UInt8} (h : Lib.hasPrefix R [q] = false) (hr : part R = .ok R') : toEndA part q R = toEndA part q R' := by
 unfold toEndA
 conv => lhs; unfold toEnd
 rw [if_neg (by rw [h]; decide), hr]
 have := (hp R).1 R' hr
 exact toEnd_more hp (by omega) (by omega)
theorem toEndA_err {part : List UInt8 → Left} {q : UInt8} {R : List UInt8} {c : Int} (h : Lib.hasPrefix R [q] = false) (hr : part R = .error c) : toEndA part q R = .error c := by
 unfold toEndA toEnd
 rw [if_neg (by rw [h]; decide), hr]
end Go.Proofs.YtljgggohjigaoaaGreatDoor
namespace Go.Proofs.YtljgggohjigaoaaGreatDoor
open Go.RowKit Go.Shelf
set_option linter.unusedVariables false
set_option linter.unusedSimpArgs false

theorem ascii_of {l : List UInt8} (h : (l.all fun c => decide (c.toNat < 128)) = true) : AllAscii ⟨l.toArray⟩ := fun c hc => by
 have := List.all_eq_true.1 h c (by simpa using hc)
 simpa using this
theorem asc10 : AllAscii ⟨#[10]⟩ := ascii_of (l := [10]) (by decide)
theorem asc3 : AllAscii ⟨#[32, 9, 13]⟩ := ascii_of (l := [32, 9, 13]) (by decide)

set_option maxRecDepth 100000 in
set_option maxHeartbeats 2000000 in
theorem remark_line {W : World} {P a b : Nat} {t : ByteArray} (h : Scn W P t a) (h1 : (Lib.hasPrefix (rest t a) [35] || Lib.hasPrefix (rest t a) [47, 47]) = true) {R : List UInt8} (hR : (rest t a).dropWhile (notIn [10]) = R) (hb : b = t.size - R.length) : Calls Tryz.prog 86 #[.pointer (some ⟨P, 0, none⟩)] W fun e w' => e = .returned (.bool true) ∧ Went W w' P t b := by
 have HS := Lib.hid h
 have HA := Lib.hid (fun (w : World) (hs : Scn w P t a) => has_any hs ⟨#[35]⟩)
 have HB := Lib.hid (fun (w : World) (hs : Scn w P t a) => has_any hs ⟨#[47, 47]⟩)
 have HN := Lib.hid (fun w => noneOf_any asc10 (by decide) w)
 have HT := Lib.hid (fun (w : World) (hs : Scn w P t a) (g : Nat) (lb : Array Value) (hg : Says g lb (outP ⟨#[10]⟩) w) => take_to hs hg (R := R) (b := b) (by
  have := outP_bytes asc10 hs.2.1
  rw [← hR]
  exact this) hb)
 obtain ⟨v, hv⟩ : ∃ v, Lib.hasPrefix (rest t a) [35] = v := ⟨_, rfl⟩
 simp only [hv] at HA h1
 obtain ⟨v2, hv2⟩ : ∃ v, Lib.hasPrefix (rest t a) [47, 47] = v := ⟨_, rfl⟩
 simp only [hv2] at HB h1
 clear h hv hv2 hR hb
 cases v
 ·obtain rfl : v2 = true := by simpa using h1
  go_enter Tryz.func86, Tryz.ntmps86
  go_wp2_with fail
  go_at_call 89; refine (HA.out _ HS.out).mono ?_; rintro e w1 ⟨rfl, hb1⟩
  have HS1 := Lib.hid (HS.out.below hb1)
  have HW1 := Lib.hid (HS.out.stays hb1)
  clear hb1
  go_wp2_with fail
  go_at_call 89; refine (HB.out _ HS1.out).mono ?_; rintro e w2 ⟨rfl, hb2⟩
  have HS2 := Lib.hid (HS1.out.below hb2)
  have HW2 := Lib.hid (HW1.out.trans (HS1.out.stays hb2))
  clear hb2
  go_wp2_with fail
  go_at_call 110; refine (HN.out _).mono ?_; rintro e w3 ⟨⟨lb, rfl, hsay⟩, hb3⟩
  have HS3 := Lib.hid (HS2.out.below hb3)
  have HW3 := Lib.hid (HW2.out.trans (HS2.out.stays hb3))
  have HSY := Lib.hid hsay
  clear hb3 hsay
  go_wp2_with fail
  go_at_call 84; refine (HT.out _ HS3.out _ _ HSY.out).mono ?_; rintro e w4 ⟨rfl, hw4⟩
  go_wp2
  go_ret
  exact ⟨rfl, HW3.out.trans hw4⟩
 ·go_enter Tryz.func86, Tryz.ntmps86
  go_wp2_with fail
  go_at_call 89; refine (HA.out _ HS.out).mono ?_; rintro e w1 ⟨rfl, hb1⟩
  have HS1 := Lib.hid (HS.out.below hb1)
  have HW1 := Lib.hid (HS.out.stays hb1)
  clear hb1
  go_wp2_with fail
  go_at_call 110; refine (HN.out _).mono ?_; rintro e w3 ⟨⟨lb, rfl, hsay⟩, hb3⟩
  have HS3 := Lib.hid (HS1.out.below hb3)
  have HW3 := Lib.hid (HW1.out.trans (HS1.out.stays hb3))
  have HSY := Lib.hid hsay
  clear hb3 hsay
  go_wp2_with fail
  go_at_call 84; refine (HT.out _ HS3.out _ _ HSY.out).mono ?_; rintro e w4 ⟨rfl, hw4⟩
  go_wp2
  go_ret
  exact ⟨rfl, HW3.out.trans hw4⟩

/-- What the three looks are. -/
structure Looks (P a : Nat) (t : ByteArray) (v : Bool) : Prop where
 one : ∀ w, Scn w P t a → Calls Tryz.prog 89 #[.pointer (some ⟨P, 0, none⟩), .string ⟨#[35]⟩] w fun e w' => e = .returned (.bool false) ∧ Below w.heap.size w w'
 two : ∀ w, Scn w P t a → Calls Tryz.prog 89 #[.pointer (some ⟨P, 0, none⟩), .string ⟨#[47, 47]⟩] w fun e w' => e = .returned (.bool false) ∧ Below w.heap.size w w'
 three : ∀ w, Scn w P t a → Calls Tryz.prog 89 #[.pointer (some ⟨P, 0, none⟩), .string ⟨#[47, 42]⟩] w fun e w' => e = .returned (.bool v) ∧ Below w.heap.size w w'
theorem looks_of {P a : Nat} {t : ByteArray} {v : Bool} (h1 : Lib.hasPrefix (rest t a) [35] = false) (h2 : Lib.hasPrefix (rest t a) [47, 47] = false) (h3 : Lib.hasPrefix (rest t a) [47, 42] = v) : Looks P a t v where
 one w hs := by have := has_any hs ⟨#[35]⟩; simp only [h1] at this; exact this
 two w hs := by have := has_any hs ⟨#[47, 47]⟩; simp only [h2] at this; exact this
 three w hs := by have := has_any hs ⟨#[47, 42]⟩; simp only [h3] at this; exact this
set_option maxRecDepth 100000 in
set_option maxHeartbeats 2000000 in
theorem remark_not {W : World} {P a : Nat} {t : ByteArray} (h : Scn W P t a) (hl : Looks P a t false) : Calls Tryz.prog 86 #[.pointer (some ⟨P, 0, none⟩)] W fun e w' => e = .returned (.bool false) ∧ Below W.heap.size W w' := by
 have HS := Lib.hid h
 have HA := Lib.hid hl.one
 have HB := Lib.hid hl.two
 have HC := Lib.hid hl.three
 clear h hl
 go_enter Tryz.func86, Tryz.ntmps86
 go_wp2_with fail
 go_at_call 89; refine (HA.out _ HS.out).mono ?_; rintro e w1 ⟨rfl, hb1⟩
 have HS1 := Lib.hid (HS.out.below hb1)
 have HB1 := Lib.hid hb1
 clear hb1
 go_wp2_with fail
 go_at_call 89; refine (HB.out _ HS1.out).mono ?_; rintro e w2 ⟨rfl, hb2⟩
 have HS2 := Lib.hid (HS1.out.below hb2)
 have HB2 := Lib.hid (HB1.out.trans (hb2.mono HB1.out.size))
 clear hb2
 go_wp2_with fail
 go_at_call 89; refine (HC.out _ HS2.out).mono ?_; rintro e w3 ⟨rfl, hb3⟩
 have HB3 := Lib.hid (HB2.out.trans (hb3.mono HB2.out.size))
 clear hb3
 go_wp2
 go_ret
 exact ⟨rfl, HB3.out⟩
theorem cut_found {R : List UInt8} (h : 0 ≤ Lib.index R [42, 47]) : Lib.cut R [42, 47] = (R.take (Lib.index R [42, 47]).toNat, R.drop ((Lib.index R [42, 47]).toNat + 2), true) := by
 unfold Lib.cut; rw [if_pos h]; rfl
theorem cut_not {R : List UInt8} (h : ¬ 0 ≤ Lib.index R [42, 47]) : Lib.cut R [42, 47] = (R, [], false) := by
 unfold Lib.cut; rw [if_neg h]
set_option maxRecDepth 100000 in
set_option maxHeartbeats 2000000 in
theorem remark_block {W : World} {P a : Nat} {t : ByteArray} {m : Int} (h : Scn W P t a) (hl : Looks P a t true) (hm : W.cell? ⟨2, 0, none⟩ = some (.int .i64 m)) (hle : a + 2 ≤ t.size) : Calls Tryz.prog 86 #[.pointer (some ⟨P, 0, none⟩)] W fun e w' =>
  (0 ≤ Lib.index (rest t (a + 2)) [42, 47] → e = .returned (.bool true) ∧ Went W w' P t (t.size - ((rest t (a + 2)).drop ((Lib.index (rest t (a + 2)) [42, 47]).toNat + 2)).length)) ∧ (¬ 0 ≤ Lib.index (rest t (a + 2)) [42, 47] → e = .returned (.bool false) ∧ Below W.heap.size W w') := by
 have HS := Lib.hid h
 have HA := Lib.hid hl.one
 have HB := Lib.hid hl.two
 have HC := Lib.hid hl.three
 have hsz := h.2.2
 have HM := Lib.hid hm
 have HCut := Lib.hid (fun (w : World) (hm : w.cell? ⟨2, 0, none⟩ = some (.int .i64 m)) => Tryz.strings_Cut (t.extract (a + 2) t.size) ⟨#[42, 47]⟩ m w (by simp; omega) hm)
 rw [rest_extract] at HCut
 obtain ⟨x, hx⟩ : ∃ x, rest t (a + 2) = x := ⟨_, rfl⟩
 have hxl : x.length = t.size - (a + 2) := by rw [← hx, rest_length]
 rw [hx] at HCut ⊢
 have i0 : (0 : Int) ≤ (a : Int) := by omega
 have hwr : IntKind.i64.wrap ((a : Int) + 2) = (a : Int) + 2 := IntWalk.i64_in _ (by omega)
 have i1 : (0 : Int) ≤ (a : Int) + 2 := by omega
 have i2 : (a : Int) + 2 ≤ (t.size : Int) := by omega
 have htn : ((a : Int) + 2).toNat = a + 2 := by omega
 clear h hl hm hx
 by_cases hf : 0 ≤ Lib.index x [42, 47]
 ·have HF := Lib.hid hf
  have hcf := cut_found hf
  simp only [show (⟨#[42, 47]⟩ : ByteArray).data.toList = [42, 47] from rfl, hcf] at HCut
  obtain ⟨y, hy⟩ : ∃ y, x.drop ((Lib.index x [42, 47]).toNat + 2) = y := ⟨_, rfl⟩
  have hyl : y.length ≤ x.length := by rw [← hy, List.length_drop]; omega
  rw [hy] at HCut ⊢
  obtain ⟨z, hz⟩ : ∃ z, x.take (Lib.index x [42, 47]).toNat = z := ⟨_, rfl⟩
  rw [hz] at HCut
  have hys : (⟨y.toArray⟩ : ByteArray).size = y.length := by simp [ByteArray.size]
  obtain ⟨ys, hyse⟩ : ∃ ys : ByteArray, ⟨y.toArray⟩ = ys := ⟨_, rfl⟩
  rw [hyse] at HCut hys
  have j1 : (ys.size : Int) ≤ (t.size : Int) := by omega
  have HYS := Lib.hid hys
  have hwr2 : IntKind.i64.wrap ((t.size : Int) - (ys.size : Int)) = ((t.size - y.length : Nat) : Int) := by rw [IntKind.wrap_i64]; omega
  have hwr3 : (t.size : Int) - (ys.size : Int) = ((t.size - y.length : Nat) : Int) := by omega
  clear hf hcf hy hz hyse hys
  go_enter Tryz.func86, Tryz.ntmps86
  go_wp2_with fail
  go_at_call 89; refine (HA.out _ HS.out).mono ?_; rintro e w1 ⟨rfl, hb1⟩
  have HS1 := Lib.hid (HS.out.below hb1)
  have HW1 := Lib.hid (HS.out.stays hb1)
  have hb1h := Lib.hid hb1
  clear hb1
  go_wp2_with fail
  go_at_call 89; refine (HB.out _ HS1.out).mono ?_; rintro e w2 ⟨rfl, hb2⟩
  have HS2 := Lib.hid (HS1.out.below hb2)
  have HW2 := Lib.hid (HW1.out.trans (HS1.out.stays hb2))
  have hb2h := Lib.hid hb2
  clear hb2
  go_wp2_with fail
  go_at_call 89; refine (HC.out _ HS2.out).mono ?_; rintro e w3 ⟨rfl, hb3⟩
  have HS3 := Lib.hid (HS2.out.below hb3)
  have HW3 := Lib.hid (HW2.out.trans (HS2.out.stays hb3))
  have hb3h := Lib.hid hb3
  clear hb3
 
  have HB3 := Lib.hid ((hb1h.out.trans (hb2h.out.mono hb1h.out.size)).trans (hb3h.out.mono (Nat.le_trans hb1h.out.size hb2h.out.size)))
  have hmc := cells_keep HB3.out HM.out
  have c0 := HS3.out.1.cell 0
  have c1 := HS3.out.1.cell 1
  clear hb1h hb2h hb3h HA HB HC HS1 HS2 HW1 HW2
  go_wp2_with fail
  go_quiet ((go_at_call 111; exact Calls.quiet_of (HCut.out _ hmc)))
  obtain ⟨W4, hW4⟩ : ∃ W4, w3.drewN nq = W4 := ⟨_, rfl⟩
  have hb4 : Below w3.heap.size w3 W4 := by rw [← hW4]; exact below_drewN _ _
  have HS4 := Lib.hid (HS3.out.below hb4)
  have HW4 := Lib.hid (HW3.out.trans (HS3.out.stays hb4))
  rw [hW4]
  clear hW4 hb4 c0 c1 hmc HCut
  have c0 := HS4.out.1.cell 0
  have c1 := HS4.out.1.cell 1
  have f1 := HS4.out.1.frozen 1
  go_wp2
  go_ret
  refine ⟨fun _ => ⟨rfl, HW4.out.trans ?_⟩, fun hn => by have := HF.out; omega⟩
  exact HS4.out.moves (by omega)
 ·have HF := Lib.hid hf
  have hcf := cut_not hf
  simp only [hcf] at HCut
  clear hf hcf
  go_enter Tryz.func86, Tryz.ntmps86
  go_wp2_with fail
  go_at_call 89; refine (HA.out _ HS.out).mono ?_; rintro e w1 ⟨rfl, hb1⟩
  have HS1 := Lib.hid (HS.out.below hb1)
  have HW1 := Lib.hid (HS.out.stays hb1)
  have hb1h := Lib.hid hb1
  clear hb1
  go_wp2_with fail
  go_at_call 89; refine (HB.out _ HS1.out).mono ?_; rintro e w2 ⟨rfl, hb2⟩
  have HS2 := Lib.hid (HS1.out.below hb2)
  have HW2 := Lib.hid (HW1.out.trans (HS1.out.stays hb2))
  have hb2h := Lib.hid hb2
  clear hb2
  go_wp2_with fail
  go_at_call 89; refine (HC.out _ HS2.out).mono ?_; rintro e w3 ⟨rfl, hb3⟩
  have HS3 := Lib.hid (HS2.out.below hb3)
  have HW3 := Lib.hid (HW2.out.trans (HS2.out.stays hb3))
  have hb3h := Lib.hid hb3
  clear hb3
 
  have HB3 := Lib.hid ((hb1h.out.trans (hb2h.out.mono hb1h.out.size)).trans (hb3h.out.mono (Nat.le_trans hb1h.out.size hb2h.out.size)))
  have hmc := cells_keep HB3.out HM.out
  have c0 := HS3.out.1.cell 0
  have c1 := HS3.out.1.cell 1
  clear hb1h hb2h hb3h HA HB HC HS1 HS2 HW1 HW2
  go_wp2_with fail
  go_quiet ((go_at_call 111; exact Calls.quiet_of (HCut.out _ hmc)))
  obtain ⟨W4, hW4⟩ : ∃ W4, w3.drewN nq = W4 := ⟨_, rfl⟩
  have HB4 := Lib.hid (HB3.out.trans (show Below W.heap.size w3 W4 by rw [← hW4]; exact (below_drewN w3 nq).mono HB3.out.size))
  rw [hW4]
  clear hW4 c0 c1 hmc HCut
  go_wp2
  go_ret
  exact ⟨fun hn => by have := HF.out; omega, fun _ => ⟨rfl, HB4.out⟩⟩

theorem rest_back {t : ByteArray} {c : Nat} {R : List UInt8} (h : rest t c = R) : rest t (t.size - R.length) = R := by
 have hl := rest_length t c
 rw [h] at hl
 by_cases hc : c ≤ t.size
 ·rw [show t.size - R.length = c by omega]; exact h
 ·have h0 : R = [] := List.length_eq_zero_iff.1 (by omega)
  rw [h0]
  exact rest_nil (by simp)
/-- What skipRemark does. -/
def RemEnds (W : World) (P a : Nat) (t : ByteArray) (e : Ending) (w' : World) : Prop :=
 (∃ R' b, remarkL (rest t a) = some R' ∧ e = .returned (.bool true) ∧ Went W w' P t b ∧ rest t b = R') ∨ (remarkL (rest t a) = none ∧ e = .returned (.bool false) ∧ Below W.heap.size W w')
theorem remark_any {W : World} {P a : Nat} {t : ByteArray} {m : Int} (h : Scn W P t a) (hm : W.cell? ⟨2, 0, none⟩ = some (.int .i64 m)) : Calls Tryz.prog 86 #[.pointer (some ⟨P, 0, none⟩)] W (RemEnds W P a t) := by
 cases h1 : (Lib.hasPrefix (rest t a) [35] || Lib.hasPrefix (rest t a) [47, 47])
 ·obtain ⟨h2, h3⟩ := Bool.or_eq_false_iff.1 h1
  cases h4 : Lib.hasPrefix (rest t a) [47, 42]
  ·refine (remark_not h (looks_of h2 h3 h4)).mono ?_
   rintro e w' ⟨rfl, hb⟩
   exact .inr ⟨by unfold remarkL; rw [h1, h4]; rfl, rfl, hb⟩
  ·have hle := prefix_drop h4
   rw [rest_length] at hle
   simp only [List.length_cons, List.length_nil] at hle
   refine (remark_block h (looks_of h2 h3 h4) hm (by omega)).mono ?_
   rintro e w' ⟨hy, hn⟩
   have e2 : (rest t a).drop 2 = rest t (a + 2) := rest_add t a 2
   by_cases hi : 0 ≤ Lib.index (rest t (a + 2)) [42, 47]
   ·obtain ⟨rfl, hw⟩ := hy hi
    refine .inl ⟨_, _, ?_, rfl, hw, rest_back (rest_add t (a + 2) _).symm⟩
    unfold remarkL
    rw [h1, h4, e2, if_neg Bool.false_ne_true, if_pos rfl, if_pos hi]
   ·obtain ⟨rfl, hw⟩ := hn hi
    refine .inr ⟨?_, rfl, hw⟩
    unfold remarkL
    rw [h1, h4, e2, if_neg Bool.false_ne_true, if_pos rfl, if_neg hi]
 ·refine (remark_line h h1 rfl rfl).mono ?_
  rintro e w' ⟨rfl, hw⟩
  refine .inl ⟨_, _, ?_, rfl, hw, rest_back (outP_bytes asc10 h.2.1).1⟩
  unfold remarkL
  rw [h1, if_pos rfl]

/-! ### skipBetween -/
theorem below_env {W w1 : World} {P : Nat} {m : Int} {t : ByteArray} {b : Nat} (hP : 4 ≤ P) (hm : W.cell? ⟨2, 0, none⟩ = some (.int .i64 m)) (h : Went W w1 P t b) : w1.cell? ⟨2, 0, none⟩ = some (.int .i64 m) :=
 (World.cell?_of_block (w := W) (a := ⟨2, 0, none⟩) (h.1.block 2 (World.block_lt_of_cell? W _ hm) (by omega))).trans hm
set_option maxRecDepth 100000 in
set_option maxHeartbeats 4000000 in
theorem between_any {W : World} {P a b : Nat} {t : ByteArray} {m : Int} (h : Scn W P t a) (hP : 4 ≤ P) (hm : W.cell? ⟨2, 0, none⟩ = some (.int .i64 m)) (hb : b = t.size - (betweenA (rest t a)).length) : Calls Tryz.prog 68 #[.pointer (some ⟨P, 0, none⟩)] W fun e w' => e = .returned (.tuple #[]) ∧ Went W w' P t b ∧ rest t b = betweenA (rest t a) := by
 have HS := Lib.hid h
 have HM := Lib.hid hm
 have HA := Lib.hid (fun w => anyOf_any asc3 (by decide) w)
 have HT := Lib.hid (fun (w : World) (c : Nat) (hs : Scn w P t c) (g : Nat) (lb : Array Value) (hg : Says g lb (inP ⟨#[32, 9, 13]⟩) w) => take_to hs hg (inP_bytes asc3 hs.2.1) rfl)
 have HR := Lib.hid (fun (w : World) (c : Nat) (hs : Scn w P t c) (hm : w.cell? ⟨2, 0, none⟩ = some (.int .i64 m)) => remark_any hs hm)
 have HB := Lib.hid hb
 have hsz := h.2
 clear h hm hb
 go_enter Tryz.func68, Tryz.ntmps68
 go_wp2_with fail
 go_loopg [] t.size (fun gf wx => ∃ c : Nat, Hid (Went W wx P t c) ∧ Hid (betweenA (rest t c) = betweenA (rest t a)) ∧ t.size - c ≤ gf)
 case atStart => exact ⟨a, Lib.hid ⟨Aside.refl P W, HS.out⟩, Lib.hid rfl, by omega⟩
 case round =>
  obtain ⟨c, HW, HE, hc⟩ := hrel
  have HS1 := Lib.hid HW.out.2
  go_wp2_with fail
  go_at_call 85; refine (HA.out _).mono ?_; rintro e w1 ⟨⟨lb, rfl, hsay⟩, hb1⟩
  have HS2 := Lib.hid (HS1.out.below hb1)
  have HW2 := Lib.hid (HW.out.trans (HS1.out.stays hb1))
  have HSY := Lib.hid hsay
  clear hb1 hsay
  go_wp2_with fail
  have hcl := HS1.out.2.1
  have hdl := dropWhile_le (q := bytesIn [32, 9, 13]) (rest t c)
  have hrl := rest_length t c
  obtain ⟨D, hD⟩ : ∃ D, (rest t c).dropWhile (bytesIn [32, 9, 13]) = D := ⟨_, rfl⟩
  have hTk := HT.out _ c HS2.out _ _ HSY.out
  rw [show (rest t c).dropWhile (fun x => (⟨#[32, 9, 13]⟩ : ByteArray).data.toList.contains x) = D from hD] at hTk
  have hRD : rest t (t.size - D.length) = D := by
   have h1 := (inP_bytes asc3 hcl).1
   rw [show (rest t c).dropWhile (fun x => (⟨#[32, 9, 13]⟩ : ByteArray).data.toList.contains x) = D from hD] at h1
   exact rest_back h1
  rw [hD] at hdl
  obtain ⟨d, hd⟩ : ∃ d, t.size - D.length = d := ⟨_, rfl⟩
  rw [hd] at hTk hRD
  have hxs : (t.extract c d).size = d - c := by simp; omega
  obtain ⟨x, hx⟩ : ∃ x, t.extract c d = x := ⟨_, rfl⟩
  rw [hx] at hTk hxs
  have HTk := Lib.hid hTk
  have HRD := Lib.hid hRD
  have HD := Lib.hid hD
  have HDd := Lib.hid hd
  clear hx hTk hRD hD hd
  by_cases hlt : D.length < (rest t c).length
  ·have hx1 : x.toList.isEmpty = false := by
    rw [ByteArray.toList_eq, List.isEmpty_eq_false_iff]
    intro e
    have h1 : x.data.toList.length = x.size := by simp
    rw [e] at h1
    have := HDd.out
    simp at h1
    omega
   obtain ⟨g', rfl⟩ : ∃ g', gk = g' + 1 := ⟨gk - 1, by omega⟩
   have hgd : t.size - d ≤ g' := by have := HDd.out; omega
   have HL := Lib.hid hlt
   clear hxs hlt hdl hrl
   go_at_call 84; refine HTk.out.mono ?_; rintro e w2 ⟨rfl, hw2⟩
   go_wp2_with fail
   go_roundg g'
   case measure => omega
   case rel => exact ⟨d, Lib.hid (HW2.out.trans hw2), Lib.hid (by
    rw [HRD.out, ← HE.out, betweenA_blank (R := rest t c) (by rw [HD.out]; exact HL.out), HD.out]), hgd⟩
  ·have hx1 : x.toList.isEmpty = true := by
    rw [ByteArray.toList_eq, List.isEmpty_iff]
    apply List.length_eq_zero_iff.1
    have h1 : x.data.toList.length = x.size := by simp
    have := HDd.out
    omega
   have hdc : d = c := by have := HDd.out; omega
   subst hdc
   have HL : Hid (¬ ((rest t d).dropWhile (bytesIn [32, 9, 13])).length < (rest t d).length) := Lib.hid (by rw [HD.out]; exact hlt)
   clear hxs hlt hdl hrl
   go_at_call 84; refine HTk.out.mono ?_; rintro e w2 ⟨rfl, hw2⟩
   have HW3 := Lib.hid (HW2.out.trans hw2)
   clear hw2 HTk
   go_wp2_with fail
   go_at_call 86; refine (HR.out _ d HW3.out.2 (below_env hP HM.out HW3.out)).mono ?_; rintro e w3 hend
   rcases hend with ⟨R', b', hr, rfl, hw3, hrb⟩ | ⟨hr, rfl, hb3⟩
   ·have hless := remark_less hr
    rw [← hrb, rest_length, rest_length] at hless
    obtain ⟨g', rfl⟩ : ∃ g', gk = g' + 1 := ⟨gk - 1, by omega⟩
    have HR3 := Lib.hid hr
    have HRB := Lib.hid hrb
    have HW4 := Lib.hid (HW3.out.trans hw3)
    clear hr hrb hw3
    go_wp2_with fail
    go_roundg g'
    case measure => omega
    case rel => exact ⟨b', HW4, Lib.hid (by rw [HRB.out, ← HE.out, betweenA_remark HL.out HR3.out]), by omega⟩
   ·have HR3 := Lib.hid hr
    have HW4 := Lib.hid (HW3.out.trans (HW3.out.2.stays hb3))
    clear hr hb3
    go_wp2
    go_end0
    have h1 : betweenA (rest t a) = rest t d := by rw [← HE.out, betweenA_none HL.out HR3.out]
    have h2 : b = d := by rw [HB.out, h1, rest_length]; omega
    rw [h1, h2]
    exact ⟨rfl, HW4.out, rfl⟩
end Go.Proofs.YtljgggohjigaoaaGreatDoor
