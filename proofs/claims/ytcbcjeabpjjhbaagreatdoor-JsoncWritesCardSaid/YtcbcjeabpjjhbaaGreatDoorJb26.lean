/- What is written is read back: runes, texts, numbers · each: comma by comma, with a function value -/
import Derived.Deep.LoopGhost
import Derived.Test.YtcbcjeabpjjhbaaGreatDoorJb15
import Derived.Test.YtcbcjeabpjjhbaaGreatDoorJb23
import Derived.Test.YtcbcjeabpjjhbaaGreatDoorJb25
namespace Go.Proofs.YtcbcjeabpjjhbaaGreatDoor
set_option linter.unusedVariables false

theorem hexD_B : ∀ n, n < 16 → hexD (hexB n) = some n := by decide
theorem enc_head {r : Int} (hv : Utf8.valid r = true) : ∃ c l, Lib.encodeRune r = c :: l ∧ (r < 128 → c.toNat = r.toNat ∧ l = []) ∧ (128 ≤ r → 128 ≤ c.toNat) := by
  have hv2 : (0 ≤ r ∧ r < 55296) ∨ (57344 ≤ r ∧ r ≤ 1114111) := by
    unfold Utf8.valid at hv
    simpa using hv
  unfold Lib.encodeRune Lib.encodeRuneZ
  by_cases c1 : 0 ≤ r ∧ r ≤ 127
  · rw [if_pos c1]
    exact ⟨_, _, rfl, fun _ => ⟨by rw [byte_nat (by omega) (by omega)], rfl⟩, fun h => by omega⟩
  rw [if_neg c1]
  by_cases c2 : 128 ≤ r ∧ r ≤ 2047
  · rw [if_pos c2]
    exact ⟨_, _, rfl, fun _ => by omega, fun h => by rw [byte_nat (by omega) (by omega)]; omega⟩
  rw [if_neg c2]
  by_cases c3 : (2048 ≤ r ∧ r < 55296) ∨ (57343 < r ∧ r ≤ 65535)
  · rw [if_pos c3]
    exact ⟨_, _, rfl, fun _ => by omega, fun h => by rw [byte_nat (by omega) (by omega)]; omega⟩
  rw [if_neg c3, if_pos (by omega)]
  exact ⟨_, _, rfl, fun _ => by omega, fun h => by rw [byte_nat (by omega) (by omega)]; omega⟩
/-- A rune's JSON is read as it. -/
theorem runeJ_Q {r : Int} (hv : Utf8.valid r = true) (Y : List UInt8) : runeJ (runeQ r ++ Y) = .ok (r, Y) ∧ Lib.hasPrefix (runeQ r ++ Y) [34] = false ∧ 1 ≤ (runeQ r).length := by
  have hv2 : (0 ≤ r ∧ r < 55296) ∨ (57344 ≤ r ∧ r ≤ 1114111) := by
    unfold Utf8.valid at hv
    simpa using hv
  unfold runeQ
  by_cases h1 : r = 34
  · subst h1; exact ⟨rfl, rfl, by decide⟩
  rw [if_neg h1]
  by_cases h2 : r = 92
  · subst h2; exact ⟨rfl, rfl, by decide⟩
  rw [if_neg h2]
  by_cases h3 : r = 8
  · subst h3; exact ⟨rfl, rfl, by decide⟩
  rw [if_neg h3]
  by_cases h4 : r = 12
  · subst h4; exact ⟨rfl, rfl, by decide⟩
  rw [if_neg h4]
  by_cases h5 : r = 10
  · subst h5; exact ⟨rfl, rfl, by decide⟩
  rw [if_neg h5]
  by_cases h6 : r = 13
  · subst h6; exact ⟨rfl, rfl, by decide⟩
  rw [if_neg h6]
  by_cases h7 : r = 9
  · subst h7; exact ⟨rfl, rfl, by decide⟩
  rw [if_neg h7]
  by_cases h8 : r < 32
  · rw [if_pos h8]
    have hu : unitL ([92, 117, 48, 48, hexB (r.toNat / 16), hexB (r.toNat % 16)] ++ Y) = r := by
      show (match hexN [48, 48, hexB (r.toNat / 16), hexB (r.toNat % 16)] 0 with | none => (-1 : Int) | some n => (n : Int)) = r
      have e0 : hexD 48 = some 0 := rfl
      simp only [hexN, e0, hexD_B _ (show r.toNat / 16 < 16 by omega), hexD_B _ (show r.toNat % 16 < 16 by omega)]
      have h16 : (((0 * 16 + 0) * 16 + 0) * 16 + r.toNat / 16) * 16 + r.toNat % 16 = r.toNat := by omega
      rw [h16]
      exact Int.toNat_of_nonneg (by omega)
    refine ⟨?_, rfl, by simp⟩
    have he : runeJ ([92, 117, 48, 48, hexB (r.toNat / 16), hexB (r.toNat % 16)] ++ Y) = pairL ([92, 117, 48, 48, hexB (r.toNat / 16), hexB (r.toNat % 16)] ++ Y) := rfl
    rw [he]
    unfold pairL
    rw [hu, if_pos hv]
    rfl
  · rw [if_neg h8]
    obtain ⟨c, l, he, hlo, hhi⟩ := enc_head hv
    have hd := decode_encode hv Y
    have hc32 : ¬ c.toNat < 32 := by
      by_cases h : r < 128
      · have := (hlo h).1; omega
      · have := hhi (by omega); omega
    have hc92 : c.toNat ≠ 92 := by
      by_cases h : r < 128
      · have := (hlo h).1; omega
      · have := hhi (by omega); omega
    have hc34 : c.toNat ≠ 34 := by
      by_cases h : r < 128
      · have := (hlo h).1; omega
      · have := hhi (by omega); omega
    refine ⟨?_, ?_, by rw [he]; simp⟩
    · rw [runeJ_more (by rw [he]; exact hc32) (by rw [he]; exact hc92)]
      have hd2 : Utf8.decode ⟨(Lib.encodeRune r ++ Y).toArray⟩ 0 = (r.toNat, (Lib.encodeRune r).length) := hd
      rw [hd2]
      rw [if_neg, List.drop_left]
      · congr 2; omega
      · rintro ⟨e1, e2⟩
        have e1 : r.toNat = 65533 := e1
        have e2 : (Lib.encodeRune r).length = 1 := e2
        obtain rfl : r = 65533 := by omega
        revert e2
        decide
    · rw [he]
      have : ¬ (34 : UInt8) = c := fun h => hc34 (by rw [← h]; rfl)
      simp [Lib.hasPrefix, List.isPrefixOf, this]
theorem decodeL_pos {X : List UInt8} (h : X ≠ []) : 1 ≤ (Lib.decodeL X).2 := by
  have := Lib.decodeL_width X
  omega
/-- A text's JSON is read as it, to the quote. -/
theorem textJ_Q : ∀ (g f : Nat) (X acc R : List UInt8), Lib.validD X = true → X.length ≤ g → (textQ g X).length < f → textJ f (textQ g X ++ 34 :: R) acc = .ok (acc ++ X, R)
  | 0, f, X, acc, R, hv, hl, hf => by
    obtain rfl : X = [] := List.length_eq_zero_iff.1 (by omega)
    obtain ⟨f, rfl⟩ : ∃ g, f = g + 1 := ⟨f - 1, by omega⟩
    rw [show textQ 0 [] ++ 34 :: R = 34 :: R from rfl, textJ_end (by simp [Lib.hasPrefix, List.isPrefixOf])]
    simp
  | g + 1, f, X, acc, R, hv, hl, hf => by
    by_cases hX : X = []
    · subst hX
      obtain ⟨f, rfl⟩ : ∃ g, f = g + 1 := ⟨f - 1, by omega⟩
      rw [show textQ (g + 1) [] ++ 34 :: R = 34 :: R from rfl, textJ_end (by simp [Lib.hasPrefix, List.isPrefixOf])]
      simp
    · have hq : textQ (g + 1) X = runeQ ((Lib.decodeL X).1 : Int) ++ textQ g (X.drop (Lib.decodeL X).2) := by
        conv => lhs; unfold textQ
        rw [if_neg hX]
      rw [Lib.validD_step X hX] at hv
      split at hv
      · cases hv
      · rename_i hne
        have hw := decodeL_pos hX
        have hr := decodeL_valid X
        have hb := runeJ_Q hr.2.2 (textQ g (X.drop (Lib.decodeL X).2) ++ 34 :: R)
        rw [hq, List.length_append] at hf
        rw [hq, List.append_assoc]
        obtain ⟨f, rfl⟩ : ∃ g, f = g + 1 := ⟨f - 1, by omega⟩
        rw [textJ_ok hb.2.1 hb.1, Lib.encode_decode X hX hne, textJ_Q g f _ _ _ hv (by rw [List.length_drop]; omega) (by omega), List.append_assoc, List.take_append_drop]
def jsQ (t : ByteArray) : List UInt8 := 34 :: (textQ t.size t.data.toList ++ [34])
theorem quotedJ_Q {t : ByteArray} (hv : utfS t = true) (hs : t.size ≤ 16384) (R : List UInt8) : quotedJ (jsQ t ++ R) = .ok (t, R) := by
  have he : jsQ t ++ R = 34 :: (textQ t.size t.data.toList ++ 34 :: R) := by unfold jsQ; simp
  have h := textJ_Q t.size (34 :: (textQ t.size t.data.toList ++ 34 :: R)).length t.data.toList [] R hv (by simp) (by simp; omega)
  have hz : t.data.toList.length = t.size := by simp
  rw [he, quotedJ_ok (acc := t.data.toList) (R' := R) (by simpa using h) (by omega)]
/-- A good number is read as it. -/
theorem numJ_T {t : ByteArray} (h : goodB t.data.toList = true) {R : List UInt8} (hR : R.head?.any digJ = false) : numJ (t.data.toList ++ R) = .ok (t, R) := by
  obtain ⟨l, hl⟩ : ∃ l, t.data.toList = l := ⟨_, rfl⟩
  have ht : t = ⟨l.toArray⟩ := str_eq hl
  rw [hl] at h ⊢
  rw [ht]
  have htk : ∀ D : List UInt8, (D.all fun c => decide (48 ≤ c.toNat) && decide (c.toNat ≤ 57)) = true → (D ++ R).takeWhile digJ = D := by
    intro D hD
    have hR0 : R.takeWhile digJ = [] := by
      cases R with
      | nil => rfl
      | cons c r =>
        rw [List.takeWhile_cons_of_neg]
        have hh : digJ c = false := hR
        rw [hh]; decide
    have hall : ∀ x ∈ D, digJ x = true := by
      intro x hx
      have := List.all_eq_true.1 hD x hx
      rw [digJ_nat]
      exact this
    rw [List.takeWhile_append_of_pos hall, hR0, List.append_nil]
  unfold goodB at h
  simp only [Bool.and_eq_true, decide_eq_true_eq] at h
  obtain ⟨⟨h1, h2⟩, h3⟩ := h
  rcases trim_minus l with ⟨D, rfl, e, -⟩ | ⟨hne, e, -⟩
  · rw [e] at h1 h2 h3
    have hD48 : ¬ D.head? = some 48 := by
      intro hh
      rw [if_pos hh] at h3
      have h3 := of_decide_eq_true h3
      cases h3
    rw [if_neg hD48] at h3
    have hdA : digsAt (45 :: D ++ R) = D ++ R := by
      unfold digsAt
      rw [if_pos (by simp [Lib.hasPrefix, List.isPrefixOf])]
      rfl
    have hp : Lib.hasPrefix (D ++ R) [48] = false := by
      cases D with
      | nil => exact absurd rfl h1
      | cons c D =>
        have : ¬ (48 : UInt8) = c := fun hh => hD48 (by rw [← hh]; rfl)
        simp [Lib.hasPrefix, List.isPrefixOf, this]
    have hdJ : digsJ (D ++ R) = D := by unfold digsJ; rw [if_neg (by rw [hp]; decide), htk D h3]
    have hhd : (digsAt (45 :: D ++ R)).head?.any digJ = true := by
      rw [hdA]
      cases D with
      | nil => exact absurd rfl h1
      | cons c D =>
        show digJ c = true
        rw [digJ_nat]
        exact List.all_eq_true.1 h3 c (by simp)
    rw [numJ_ok hhd (by rw [hdA, hdJ]; omega), hdA, hdJ, if_neg, List.drop_left]
    · have : (45 :: D ++ R).take ((45 :: D ++ R).length - (D ++ R).length + D.length) = 45 :: D := by
        have hn : (45 :: D ++ R).length - (D ++ R).length + D.length = (45 :: D).length := by simp; omega
        rw [hn, List.take_left]
      rw [this]
    · rintro rfl
      exact hD48 rfl
  · rw [e] at h1 h2 h3
    have hdA : digsAt (l ++ R) = l ++ R := by
      unfold digsAt
      rw [if_neg]
      cases l with
      | nil => exact absurd rfl h1
      | cons c l =>
        have : ¬ (45 : UInt8) = c := fun hh => hne (by rw [← hh]; rfl)
        simp [Lib.hasPrefix, List.isPrefixOf, this]
    by_cases h48 : l.head? = some 48
    · rw [if_pos h48] at h3
      have h3 := of_decide_eq_true h3
      subst h3
      have hdJ : digsJ ([48] ++ R) = [48] := by unfold digsJ; rw [if_pos (by simp [Lib.hasPrefix, List.isPrefixOf])]
      rw [numJ_ok (by rw [hdA]; rfl) (by rw [hdA, hdJ]; decide), hdA, hdJ, if_pos rfl, List.drop_left]
    · rw [if_neg h48] at h3
      have hp : Lib.hasPrefix (l ++ R) [48] = false := by
        cases l with
        | nil => exact absurd rfl h1
        | cons c l =>
          have : ¬ (48 : UInt8) = c := fun hh => h48 (by rw [← hh]; rfl)
          simp [Lib.hasPrefix, List.isPrefixOf, this]
      have hdJ : digsJ (l ++ R) = l := by unfold digsJ; rw [if_neg (by rw [hp]; decide), htk l h3]
      have hhd : (digsAt (l ++ R)).head?.any digJ = true := by
        rw [hdA]
        cases l with
        | nil => exact absurd rfl h1
        | cons c l =>
          show digJ c = true
          rw [digJ_nat]
          exact List.all_eq_true.1 h3 c (by simp)
      rw [numJ_ok hhd (by rw [hdA, hdJ]; omega), hdA, hdJ, if_neg (by rintro rfl; exact h48 rfl), List.drop_left]
      have : (l ++ R).take ((l ++ R).length - (l ++ R).length + l.length) = l := by
        rw [Nat.sub_self, Nat.zero_add, List.take_left]
      rw [this]
end Go.Proofs.YtcbcjeabpjjhbaaGreatDoor
namespace Go.Proofs.YtcbcjeabpjjhbaaGreatDoor
open Go.RowKit Go.Shelf
set_option linter.unusedVariables false

/-- All blocks below B but P are as they were. -/
structure AsideB (B P : Nat) (W w' : World) : Prop where
  os : w'.os = W.os
  tape : w'.tape = W.tape
  output : w'.output = W.output
  size : W.heap.size ≤ w'.heap.size
  block : ∀ k, k < B → k ≠ P → w'.heap[k]? = W.heap[k]?
theorem AsideB.refl (B P : Nat) (W : World) : AsideB B P W W := ⟨rfl, rfl, rfl, Nat.le_refl _, fun _ _ _ => rfl⟩
theorem AsideB.trans {B P : Nat} {a b c : World} (h : AsideB B P a b) (k : AsideB B P b c) : AsideB B P a c :=
  ⟨k.os.trans h.os, k.tape.trans h.tape, k.output.trans h.output, Nat.le_trans h.size k.size, fun i hi hr => (k.block i hi hr).trans (h.block i hi hr)⟩
theorem Aside.toB {B P : Nat} {W w' : World} (h : Aside P W w') (hB : B ≤ W.heap.size) : AsideB B P W w' := ⟨h.os, h.tape, h.output, h.size, fun k hk hP => h.block k (by omega) hP⟩
theorem AsideB.toA {P : Nat} {W w' : World} (h : AsideB W.heap.size P W w') : Aside P W w' := ⟨h.os, h.tape, h.output, h.size, h.block⟩
theorem AsideB.ofBelow {B P : Nat} {W w' : World} (h : Below B W w') : AsideB B P W w' := ⟨h.os, h.tape, h.output, h.size, fun k hk _ => h.block k hk⟩
theorem ReadyJ.asideB {B P : Nat} {W W' : World} (h : ReadyJ W) (ha : AsideB B P W W') (hP : 7 ≤ P) (hB : 7 ≤ B) : ReadyJ W' := by
  refine h.below7 ⟨ha.os, ha.tape, ha.output, ha.size, fun k hk => ha.block k (by omega) (by omega)⟩
def WentB (B : Nat) (W W' : World) (P : Nat) (t : ByteArray) (a n : Nat) : Prop := AsideB B P W W' ∧ Rdr W' P t a n
theorem Went.toB {B P a n : Nat} {W W' : World} {t : ByteArray} (h : Went W W' P t a n) (hB : B ≤ W.heap.size) : WentB B W W' P t a n := ⟨h.1.toB hB, h.2⟩
theorem WentB.trans {B P a b n m : Nat} {W W1 W2 : World} {t : ByteArray} (h : WentB B W W1 P t a n) (k : WentB B W1 W2 P t b m) : WentB B W W2 P t b m := ⟨h.1.trans k.1, k.2⟩
def ThrownB (B : Nat) (W : World) (P : Nat) (t : ByteArray) (b : Bad) (e : Ending) (w' : World) : Prop := ∃ D, e = .panicked [{ v := .iface 34 (.pointer (some ⟨D, 0, none⟩)), recovered := false }] ∧ B ≤ D ∧ Blk w' D #[.int .i64 b.1, .string ⟨#[]⟩, .int .i64 ((t.size - b.2 : Nat) : Int)] 48 ∧ AsideB B P W w'
theorem Thrown.toB {B P : Nat} {W w' : World} {t : ByteArray} {b : Bad} {e : Ending} (h : Thrown W P t b e w') (hB : B ≤ W.heap.size) : ThrownB B W P t b e w' := by
  obtain ⟨D, h1, h2, h3, h4⟩ := h
  exact ⟨D, h1, Nat.le_trans hB h2, h3, h4.toB hB⟩
theorem ThrownB.after {B P : Nat} {W W1 w' : World} {t : ByteArray} {b : Bad} {e : Ending} (h : ThrownB B W1 P t b e w') (ha : AsideB B P W W1) : ThrownB B W P t b e w' := by
  obtain ⟨D, h1, h2, h3, h4⟩ := h
  exact ⟨D, h1, h2, h3, ha.trans h4⟩
theorem ThrownB.toA {P : Nat} {W w' : World} {t : ByteArray} {b : Bad} {e : Ending} (h : ThrownB W.heap.size W P t b e w') : Thrown W P t b e w' := by
  obtain ⟨D, h1, h2, h3, h4⟩ := h
  exact ⟨D, h1, h2, h3, h4.toA⟩
/-- How a reader by closure ends. -/
def CEnds {σ : Type} (B : Nat) (W : World) (P : Nat) (t : ByteArray) (St : World → σ → Nat → Prop) (r : Except Bad (σ × List UInt8 × Nat)) (e : Ending) (w' : World) : Prop :=
  match r with
  | .ok (st, R', n') => e = .returned (.tuple #[]) ∧ ∃ a', WentB B W w' P t a' n' ∧ rest t a' = R' ∧ St w' st n'
  | .error b => ThrownB B W P t b e w'
/-- A function value that reads one more. -/
structure ReadsC {σ : Type} (g : Nat) (lb : Array Value) (B P : Nat) (t : ByteArray) (St : World → σ → Nat → Prop) (rd : σ → RdJ σ) : Prop where
  enters : ∀ args w, (callFunc g args).run Tryz.prog w = .ok (.enter g args) w
  stays : ∀ W W' st n, St W st n → Aside P W W' → St W' st n
  reads : ∀ W a n st, Rdr W P t a n → ReadyJ W → B ≤ W.heap.size → St W st n → Calls Tryz.prog g lb W (CEnds B W P t St (rd st (rest t a) n))
  less : ∀ st R n st' R' n', rd st R n = .ok (st', R', n') → R'.length ≤ R.length
theorem skipB_le (R : List UInt8) : (skipB R).length ≤ R.length := by
  unfold skipB
  exact (List.dropWhile_suffix _).length_le
theorem pre_len {R : List UInt8} {q : UInt8} (h : Lib.hasPrefix R [q] = true) : 0 < R.length := by
  obtain ⟨r, rfl⟩ := pre_head.1 h
  simp
theorem seqJ_err {σ : Type} {rd : σ → RdJ σ} {q : UInt8} {f : Nat} {st : σ} {R : List UInt8} {n : Nat} {b : Bad} (h : rd st R n = .error b) : seqJ rd q (f + 1) st R n = .error b := by
  unfold seqJ; rw [h]
theorem seqJ_end {σ : Type} {rd : σ → RdJ σ} {q : UInt8} {f : Nat} {st st' : σ} {R R' : List UInt8} {n n' : Nat} (h : rd st R n = .ok (st', R', n')) (hq : Lib.hasPrefix (skipB R') [q] = true) : seqJ rd q (f + 1) st R n = .ok (st', (skipB R').drop 1, n') := by
  unfold seqJ; rw [h]; simp only; rw [if_pos hq]
theorem seqJ_more {σ : Type} {rd : σ → RdJ σ} {q : UInt8} {f : Nat} {st st' : σ} {R R' : List UInt8} {n n' : Nat} (h : rd st R n = .ok (st', R', n')) (hq : Lib.hasPrefix (skipB R') [q] = false) (hc : Lib.hasPrefix (skipB R') [44] = true) : seqJ rd q (f + 1) st R n = seqJ rd q f st' ((skipB R').drop 1) n' := by
  conv => lhs; unfold seqJ
  rw [h]; simp only; rw [if_neg (by rw [hq]; decide), if_pos hc]
theorem seqJ_bad {σ : Type} {rd : σ → RdJ σ} {q : UInt8} {f : Nat} {st st' : σ} {R R' : List UInt8} {n n' : Nat} (h : rd st R n = .ok (st', R', n')) (hq : Lib.hasPrefix (skipB R') [q] = false) (hc : Lib.hasPrefix (skipB R') [44] = false) : seqJ rd q (f + 1) st R n = .error (30, (skipB R').length) := by
  unfold seqJ; rw [h]; simp only; rw [if_neg (by rw [hq]; decide), if_neg (by rw [hc]; decide)]

set_option maxRecDepth 100000 in
set_option maxHeartbeats 8000000 in
theorem each_any {σ : Type} {W : World} {P B a n : Nat} {t : ByteArray} (h : Rdr W P t a n) (hR : ReadyJ W) (hP7 : 7 ≤ P) (hPB : P < B) (hBW : B ≤ W.heap.size) (hal : a < t.size) {g : Nat} {lb : Array Value} {St : World → σ → Nat → Prop} {rd : σ → RdJ σ} (hr : ReadsC g lb B P t St rd) {st0 : σ} (hst : St W st0 n) (q : UInt8) :
    Calls Tryz.prog 76 #[.pointer (some ⟨P, 0, none⟩), .string ⟨#[q]⟩, .func (.func g) #[] lb] W (CEnds B W P t St (eachJ rd q st0 (rest t a) n)) := by
  have hsz := h.2.2.1
  have k1 := h.1.cell 1
  have f1 := h.1.frozen 1
  have i0 : (0 : Int) ≤ (a : Int) := by omega
  have i1 : (a : Int) < (t.size : Int) := by omega
  have HM := Lib.hid (h.moves (b := a + 1) (by omega))
  have HM' : Hid (Went W (W.setCell ⟨P, 1, none⟩ (.int .i64 ((a : Int) + 1))) P t (a + 1) n) := Lib.hid (by simpa using HM.out)
  have HRM := Lib.hid (hR.aside HM'.out.1 hP7)
  have HST := Lib.hid (hr.stays _ _ _ _ hst HM'.out.1)
  have HR := Lib.hid hr
  have eg := hr.enters
  have hF := rest_length t a
  clear h hR hst hr HM
  have heach : eachJ rd q st0 (rest t a) n = if Lib.hasPrefix (skipB (rest t (a + 1))) [q] then .ok (st0, (skipB (rest t (a + 1))).drop 1, n) else seqJ rd q (rest t a).length st0 (skipB (rest t (a + 1))) n := by rw [rest_add]; rfl
  obtain ⟨W0, hW0⟩ : ∃ W0, W.setCell ⟨P, 1, none⟩ (.int .i64 ((a : Int) + 1)) = W0 := ⟨_, rfl⟩
  rw [hW0] at HM' HRM HST
  have HW0 := Lib.hid hW0
  clear hW0
  cases hq : Lib.hasPrefix (skipB (rest t (a + 1))) [q]
  · rw [hq, if_neg Bool.false_ne_true] at heach
    have HT := Lib.hid (take_b HM'.out.2 ⟨#[q]⟩ hq)
    obtain ⟨F, hFF⟩ : ∃ F, (rest t a).length = F := ⟨_, rfl⟩
    rw [hFF] at heach hF
    obtain ⟨X, hX⟩ : ∃ X, seqJ rd q F st0 (skipB (rest t (a + 1))) n = X := ⟨_, rfl⟩
    rw [hX] at heach
    have HE := Lib.hid heach
    have HX := Lib.hid hX
    have hl0 := skipB_le (rest t (a + 1))
    rw [rest_length] at hl0
    clear hq heach hX hFF
    go_enter Tryz.func76, Tryz.ntmps76
    go_wp2_with fail
    rw [HW0.out]
    clear k1 f1
    go_at_call 99; refine HT.out.mono ?_; rintro e w1 ⟨rfl, c1, hw1, hc1⟩
    have hc1' : rest t c1 = skipB (rest t (a + 1)) := hc1
    have HW1 := Lib.hid ((HM'.out.trans hw1).toB hBW)
    have HR1 := Lib.hid (HRM.out.aside hw1.1 hP7)
    have HS1 := Lib.hid (HR.out.stays _ _ _ _ HST.out hw1.1)
    have HX1 : Hid (seqJ rd q F st0 (rest t c1) n = X) := Lib.hid (by rw [hc1']; exact HX.out)
    have hl1 : t.size - c1 ≤ t.size - (a + 1) := by rw [← rest_length t c1, hc1']; exact hl0
    clear hw1 hc1 hc1'
    go_wp2_with fail
    go_loopg [] F (fun gf wx => ∃ (c m : Nat) (st : σ), Hid (WentB B W wx P t c m) ∧ Hid (ReadyJ wx) ∧ Hid (St wx st m) ∧ Hid (seqJ rd q gf st (rest t c) m = X) ∧ t.size - c < gf)
    case atStart => exact ⟨c1, n, st0, HW1, HR1, HS1, HX1, by omega⟩
    case round =>
      obtain ⟨c, m, st, HW, HRW, HS, HXc, hfu⟩ := hrel
      obtain ⟨g', rfl⟩ : ∃ g', gk = g' + 1 := ⟨gk - 1, by omega⟩
      have hBw : B ≤ wr.heap.size := Nat.le_trans hBW HW.out.1.size
      have HC := Lib.hid (HR.out.reads wr c m st HW.out.2 HRW.out hBw HS.out)
      cases hrd : rd st (rest t c) m with
      | error b =>
        rw [hrd] at HC
        have HX2 := Lib.hid (HXc.out.symm.trans (seqJ_err hrd))
        clear hrd
        go_wp2_with (go_at_fn g; refine HC.out.mono ?_; rintro e w2 ⟨D, rfl, h1, h2, h3⟩)
        refine ⟨rfl, ?_⟩
        rw [HE.out, HX2.out]
        exact ThrownB.after ⟨D, rfl, h1, h2, h3⟩ HW.out.1
      | ok y =>
        obtain ⟨st', R', n'⟩ := y
        have hless := HR.out.less _ _ _ _ _ _ hrd
        rw [rest_length] at hless
        rw [hrd] at HC
        have HRD := Lib.hid hrd
        clear hrd
        go_wp2_with (go_at_fn g; refine HC.out.mono ?_; rintro e w2 ⟨rfl, c', hw2, hc', hst'⟩; refine Hid.out ?_)
        refine Lib.hid ?_
        have HW2 := Lib.hid (HW.out.trans hw2)
        have HR2 := Lib.hid (HRW.out.asideB hw2.1 hP7 (by omega))
        have HS2 := Lib.hid hst'
        have HC2 := Lib.hid hc'
        have hBw2 : B ≤ w2.heap.size := Nat.le_trans hBw hw2.1.size
        clear hw2 hc' hst' HC
        cases hq2 : Lib.hasPrefix (skipB R') [q]
        · have hq3 : Lib.hasPrefix (skipB (rest t c')) [q] = false := by rw [HC2.out]; exact hq2
          have HT2 := Lib.hid (take_b HW2.out.2 ⟨#[q]⟩ hq3)
          have HQ2 := Lib.hid hq2
          clear hq2 hq3
          go_wp2_with (go_at_call 99; refine HT2.out.mono ?_; rintro e w3 ⟨rfl, c3, hw3, hc3⟩; refine Hid.out ?_)
          refine Lib.hid ?_
          have hc3' : rest t c3 = skipB R' := by rw [← HC2.out]; exact hc3
          have HW3 := Lib.hid (HW2.out.trans (hw3.toB hBw2))
          have HR3 := Lib.hid (HR2.out.aside hw3.1 hP7)
          have HS3 := Lib.hid (HR.out.stays _ _ _ _ HS2.out hw3.1)
          have HC3 := Lib.hid hc3'
          have hBw3 : B ≤ w3.heap.size := Nat.le_trans hBw2 hw3.1.size
          clear hw3 hc3 hc3' HT2
          cases hcm : Lib.hasPrefix (skipB R') [44]
          · have hcm' : Lib.hasPrefix (skipB (rest t c3)) [44] = false := by rw [HC3.out, skipB_idem]; exact hcm
            have HX2 := Lib.hid (HXc.out.symm.trans (seqJ_bad HRD.out HQ2.out hcm))
            have HN := Lib.hid (want_no HW3.out.2 hcm')
            clear hcm hcm'
            go_wp2_with (go_at_call 81; refine HN.out.mono ?_; rintro e w4 ⟨D, rfl, h1, h2, h3⟩)
            refine ⟨rfl, ?_⟩
            rw [HE.out, HX2.out]
            rw [HC3.out, skipB_idem] at h2
            exact ThrownB.after ⟨D, rfl, Nat.le_trans hBw3 h1, h2, h3.toB hBw3⟩ HW3.out.1
          · have hcm' : Lib.hasPrefix (skipB (rest t c3)) [44] = true := by rw [HC3.out, skipB_idem]; exact hcm
            have HX2 := Lib.hid (HXc.out.symm.trans (seqJ_more HRD.out HQ2.out hcm))
            have HY := Lib.hid (want_yes HW3.out.2 hcm')
            have hpl := pre_len hcm
            have hsl := skipB_le R'
            clear hcm hcm'
            go_wp2_with (go_at_call 81; refine HY.out.mono ?_; rintro e w4 ⟨rfl, c4, hw4, hc4⟩)
            have hc4' : rest t c4 = (skipB R').drop 1 := by rw [hc4, HC3.out, skipB_idem]
            have hl4 : t.size - c4 = (skipB R').length - 1 := by rw [← rest_length, hc4', List.length_drop]
            have HW4 := Lib.hid (HW3.out.trans (hw4.toB hBw3))
            have HR4 := Lib.hid (HR3.out.aside hw4.1 hP7)
            have HS4 := Lib.hid (HR.out.stays _ _ _ _ HS3.out hw4.1)
            have HX4 : Hid (seqJ rd q g' st' (rest t c4) n' = X) := Lib.hid (by rw [hc4']; exact HX2.out.symm)
            clear hw4 hc4 hc4' HY
            go_roundg g'
            case measure => omega
            case rel => exact ⟨c4, n', st', HW4, HR4, HS4, HX4, by omega⟩
        · have hq3 : Lib.hasPrefix (skipB (rest t c')) [q] = true := by rw [HC2.out]; exact hq2
          have HT2 := Lib.hid (take_b HW2.out.2 ⟨#[q]⟩ hq3)
          have HX2 := Lib.hid (HXc.out.symm.trans (seqJ_end HRD.out hq2))
          clear hq2 hq3
          go_wp2_with (go_at_call 99; refine HT2.out.mono ?_; rintro e w3 ⟨rfl, c3, hw3, hc3⟩)
          have hc3' : rest t c3 = (skipB R').drop 1 := by rw [← HC2.out]; exact hc3
          go_end0
          rw [HE.out, HX2.out]
          exact ⟨rfl, c3, HW2.out.trans (hw3.toB hBw2), hc3', HR.out.stays _ _ _ _ HS2.out hw3.1⟩
  · rw [hq, if_pos rfl] at heach
    have HT := Lib.hid (take_b HM'.out.2 ⟨#[q]⟩ hq)
    have HE := Lib.hid heach
    clear hq heach
    go_enter Tryz.func76, Tryz.ntmps76
    go_wp2_with fail
    rw [HW0.out]
    clear k1 f1
    go_at_call 99; refine HT.out.mono ?_; rintro e w1 ⟨rfl, c1, hw1, hc1⟩
    have HW1 := Lib.hid ((HM'.out.trans hw1).toB hBW)
    have HS1 := Lib.hid (HR.out.stays _ _ _ _ HST.out hw1.1)
    have HC1 := Lib.hid hc1
    clear hw1 hc1
    go_wp2
    go_end0
    rw [HE.out]
    exact ⟨rfl, c1, HW1.out, HC1.out, HS1.out⟩
end Go.Proofs.YtcbcjeabpjjhbaaGreatDoor
