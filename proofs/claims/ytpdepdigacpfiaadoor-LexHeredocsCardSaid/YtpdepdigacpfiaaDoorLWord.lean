/- A word, and what is taken as bytes. -/
import Derived.Test.YtpdepdigacpfiaaDoorLPred
namespace Go.Proofs.YtpdepdigacpfiaaDoor
open Go.RowKit Go.Shelf
set_option linter.unusedVariables false

theorem rest_add (t : ByteArray) (a m : Nat) : (rest t a).drop m = rest t (a + m) := by unfold rest; rw [List.drop_drop]
/-- take, as of bytes. -/
theorem takeTo_bytes {p : Nat → Bool} {q q' : UInt8 → Bool} {hi : Bool} (hlo : ∀ c : UInt8, c.toNat < 128 → p c.toNat = q c) (hhi : ∀ r, 128 ≤ r → p r = hi) (hq : ∀ c, byteP q hi c = q' c) {t : ByteArray} {a : Nat} (ha : a ≤ t.size) :
    rest t (takeTo p t a) = (rest t a).dropWhile q' ∧ a ≤ takeTo p t a ∧ takeTo p t a ≤ t.size := by
  have hz := extract_size ha
  obtain ⟨h1, h2, h3⟩ := stopAt_bytes (p := p) (q := q) (hi := hi) (s := t.extract a t.size) hlo hhi (t.size - a) 0 (by omega) (by omega)
  have e : byteP q hi = q' := funext hq
  rw [rest_extract, e, rest_add, List.drop_zero] at h1
  unfold takeTo
  exact ⟨h1, by omega, by omega⟩
theorem u8_nat (c : UInt8) : c.toNat.toUInt8 = c := by simp
theorem inP_bytes {s : ByteArray} (hs : AllAscii s) {t : ByteArray} {a : Nat} (ha : a ≤ t.size) : rest t (takeTo (inP s) t a) = (rest t a).dropWhile (fun c => s.data.toList.contains c) ∧ a ≤ takeTo (inP s) t a ∧ takeTo (inP s) t a ≤ t.size :=
  takeTo_bytes (q := fun c => s.data.toList.contains c) (hi := false) (fun c hc => by unfold inP; rw [decide_eq_true hc, u8_nat]; rfl) (fun r hr => by unfold inP; rw [decide_eq_false (by omega)]; rfl) (fun c => by
    unfold byteP
    split
    · rfl
    · rename_i h
      cases hc : s.data.toList.contains c
      · rfl
      · exact absurd (hs c (List.contains_iff_mem.1 hc)) h) ha
theorem outP_bytes {s : ByteArray} (hs : AllAscii s) {t : ByteArray} {a : Nat} (ha : a ≤ t.size) : rest t (takeTo (outP s) t a) = (rest t a).dropWhile (fun c => !s.data.toList.contains c) ∧ a ≤ takeTo (outP s) t a ∧ takeTo (outP s) t a ≤ t.size :=
  takeTo_bytes (q := fun c => !s.data.toList.contains c) (hi := true) (fun c hc => by unfold outP inP; rw [decide_eq_true hc, u8_nat]; rfl) (fun r hr => by unfold outP inP; rw [decide_eq_false (by omega)]; rfl) (fun c => by
    unfold byteP
    split
    · rfl
    · rename_i h
      cases hc : s.data.toList.contains c
      · rfl
      · exact absurd (hs c (List.contains_iff_mem.1 hc)) h) ha
theorem digP_bytes {t : ByteArray} {a : Nat} (ha : a ≤ t.size) : rest t (takeTo digP t a) = (rest t a).dropWhile digB ∧ a ≤ takeTo digP t a ∧ takeTo digP t a ≤ t.size :=
  takeTo_bytes (q := digB) (hi := false) (fun c hc => rfl) (fun r hr => by unfold digP; simp; omega) (fun c => by
    unfold byteP digB
    split
    · rfl
    · simp; omega) ha

/-- A word's bytes gone over. -/
def wordL : List UInt8 → List UInt8
  | [] => []
  | c :: r => if letB c then r.dropWhile wordB else c :: r
theorem wordL_cons (c : UInt8) (r : List UInt8) : wordL (c :: r) = if letB c then r.dropWhile wordB else c :: r := rfl
theorem rest_nil {t : ByteArray} {a : Nat} (h : t.size ≤ a) : rest t a = [] := by unfold rest; exact List.drop_of_length_le (by simpa using h)
theorem rest_cons {t : ByteArray} {a : Nat} (h : a < t.size) : rest t a = (t[a]'h) :: rest t (a + 1) := by
  unfold rest
  rw [drop_cons (by simpa using h)]
  rfl
theorem wordTo_bytes {t : ByteArray} {a : Nat} (ha : a ≤ t.size) : rest t (wordTo letP wordP t a) = wordL (rest t a) ∧ a ≤ wordTo letP wordP t a ∧ wordTo letP wordP t a ≤ t.size := by
  have hz := extract_size ha
  unfold wordTo
  rw [hz]
  by_cases h : a < t.size
  · rw [if_pos (by omega)]
    have h0 : 0 < (t.extract a t.size).size := by omega
    have hg : (t.extract a t.size)[0]'h0 = t[a]'h := by
      have e := rest_extract t a
      rw [rest_cons h] at e
      have h1 : (t.extract a t.size).data.toList[0]'(by simpa using h0) = t[a]'h := by
        have : ∀ (l : List UInt8) (hl : 0 < l.length) x r, l = x :: r → l[0] = x := by intro l hl x r e; subst e; rfl
        exact this _ _ _ _ e
      exact h1
    rw [rest_cons h]
    by_cases hc : (t[a]'h).toNat < 128
    · have hd := decode_ascii (t.extract a t.size) 0 h0 (by rw [hg]; exact hc)
      rw [hd, hg]
      have hl : letP (t[a]'h).toNat = letB (t[a]'h) := rfl
      show rest t (if letP (t[a]'h).toNat = true then a + stopAt wordP (t.extract a t.size) (t.size - a) 1 else a) = wordL ((t[a]'h) :: rest t (a + 1)) ∧ _ ∧ _
      rw [wordL_cons, hl]
      by_cases hw : letB (t[a]'h) = true
      · rw [if_pos hw, if_pos hw]
        obtain ⟨h1, h2, h3⟩ := stopAt_bytes (p := wordP) (q := wordB) (hi := false) (s := t.extract a t.size) (fun c hc => rfl) (fun r hr => by unfold wordP letP digP; simp; omega) (t.size - a) 1 (by omega) (by omega)
        have e : byteP wordB false = wordB := funext fun c => by
          unfold byteP
          split
          · rfl
          · unfold wordB letB digB; simp; omega
        rw [rest_extract, e, rest_add, rest_add] at h1
        exact ⟨h1, by omega, by omega⟩
      · rw [if_neg hw, if_neg hw]
        exact ⟨rest_cons h, by omega, by omega⟩
    · have hh := decode_high (t.extract a t.size) 0 h0 (by rw [hg]; omega)
      have e1 : letP (Utf8.decode (t.extract a t.size) 0).1 = false := by unfold letP; simp; omega
      have e2 : letB (t[a]'h) = false := by unfold letB; simp; omega
      rw [wordL_cons, e1, e2, if_neg Bool.false_ne_true, if_neg Bool.false_ne_true]
      exact ⟨rest_cons h, Nat.le_refl _, by omega⟩
  · rw [if_neg (by omega), rest_nil (by omega)]
    exact ⟨rfl, Nat.le_refl _, ha⟩

/-- take with a function value, as of bytes. -/
theorem take_to {W : World} {P a b : Nat} {t : ByteArray} (h : Scn W P t a) {g : Nat} {lb : Array Value} {p : Nat → Bool} (hs : Says g lb p W) {R : List UInt8} (hb : rest t (takeTo p t a) = R ∧ a ≤ takeTo p t a ∧ takeTo p t a ≤ t.size) (hR : b = t.size - R.length) :
    Calls Tryd.prog 20 #[.pointer (some ⟨P, 0, none⟩), .func (.func g) #[] lb] W fun e w' => e = .returned (.string (t.extract a b)) ∧ Went W w' P t b := by
  obtain ⟨h1, h2, h3⟩ := hb
  have hl : R.length = t.size - takeTo p t a := by rw [← h1, rest_length]
  exact take_any h hs (by omega) (by omega) (by omega)
set_option maxRecDepth 100000 in
set_option maxHeartbeats 1000000 in
theorem word_any {W : World} {P a b : Nat} {t : ByteArray} (h : Scn W P t a) (hb : wordTo letP wordP t a = b) : Calls Tryd.prog 39 #[.pointer (some ⟨P, 0, none⟩)] W fun e w' => e = .returned (.string (t.extract a b)) ∧ Went W w' P t b := by
  have hmf := hmf
  have hw := wordTo_bytes h.2.1
  rw [hb] at hw
  have hPF := h.1.lt
  have HT := Lib.hid (take_st (h.below (below_new W (.cells #[.bool true] 4))) (Blk.new W #[.bool true] 4) (by omega) (word_says W.heap.size) hb hw.2.2 hw.2.1)
  clear h hb hw
  go_enter Tryd.func39, Tryd.ntmps39
  go_wp2_with (go_at_call 20; refine HT.out.mono ?_; rintro e w1 ⟨rfl, ho, hsc⟩)
  go_ret
  refine ⟨rfl, ⟨ho.os, ho.tape, ho.output, ?_, fun k hk hP => ?_⟩, hsc⟩
  · have := ho.size; simp at this; omega
  · rw [ho.block k (by simp; omega) hP (by omega)]
    exact Below.heap_alloc W _ k hk
end Go.Proofs.YtpdepdigacpfiaaDoor
