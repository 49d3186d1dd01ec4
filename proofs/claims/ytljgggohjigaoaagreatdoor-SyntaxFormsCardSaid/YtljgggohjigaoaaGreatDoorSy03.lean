/- The lexer's statements on runes: anyOf, noneOf, isDigit, isLetter, and a word's · A word, and what is taken as bytes · The lexer as functions on what is left of a text · Texts, insertions and braces, as functions on what is left -/
import Derived.Lib.IndexMore
import Derived.Test.YtljgggohjigaoaaGreatDoorSy02
namespace Go.Proofs.YtljgggohjigaoaaGreatDoor
open Go.RowKit Go.Shelf
set_option linter.unusedVariables false

/-- One of these bytes? -/
def inP (s : ByteArray) (x : Nat) : Bool := decide (x < 128) && s.data.toList.contains x.toUInt8
def outP (s : ByteArray) (x : Nat) : Bool := !inP s x
def digB (c : UInt8) : Bool := decide (48 ≤ c.toNat) && decide (c.toNat ≤ 57)
def letB (c : UInt8) : Bool := (decide (97 ≤ c.toNat) && decide (c.toNat ≤ 122)) || (decide (65 ≤ c.toNat) && decide (c.toNat ≤ 90)) || decide (c.toNat = 95)
def digP (x : Nat) : Bool := decide (48 ≤ x) && decide (x ≤ 57)
def letP (x : Nat) : Bool := (decide (97 ≤ x) && decide (x ≤ 122)) || (decide (65 ≤ x) && decide (x ≤ 90)) || decide (x = 95)
def wordP (x : Nat) : Bool := letP x || digP x || decide (x = 45)
def wordB (c : UInt8) : Bool := letB c || digB c || decide (c.toNat = 45)

theorem hmf : ∀ (fn : Fn) (first cap : Array Value) (w : World), (Instr.makeFunc fn first cap).run Tryz.prog w = .ok (.func fn first cap) w := fun _ _ _ _ => rfl
set_option maxRecDepth 100000 in
set_option maxHeartbeats 1000000 in
theorem anyIn {s : ByteArray} (hs : AllAscii s) (hsz : s.size ≤ 100) {F : Nat} {X : World} (hc : X.cell? ⟨F, 0, none⟩ = some (.string s)) (x : Nat) (hx : x ≤ 1114111) : Calls Tryz.prog 108 #[.int .i32 (x : Int), .pointer (some ⟨F, 0, none⟩)] X fun e w' => e = .returned (.bool (inP s x)) ∧ Below X.heap.size X w' := by
  have HC := Lib.hid (fun w => contains_any hs hsz x hx w)
  obtain ⟨v, hv⟩ : ∃ v, inP s x = v := ⟨_, rfl⟩
  rw [hv]
  rw [show (decide (x < 128) && s.data.toList.contains x.toUInt8) = v from hv] at HC
  clear hv hs hsz
  go_enter Tryz.func108, Tryz.ntmps108
  go_wp2_with (go_at_call 109; refine (HC.out _).mono ?_; rintro e w1 ⟨rfl, hb⟩)
  go_ret
  exact ⟨rfl, hb⟩
set_option maxRecDepth 100000 in
set_option maxHeartbeats 1000000 in
theorem noneIn {s : ByteArray} (hs : AllAscii s) (hsz : s.size ≤ 100) {F : Nat} {X : World} (hc : X.cell? ⟨F, 0, none⟩ = some (.string s)) (x : Nat) (hx : x ≤ 1114111) : Calls Tryz.prog 123 #[.int .i32 (x : Int), .pointer (some ⟨F, 0, none⟩)] X fun e w' => e = .returned (.bool (outP s x)) ∧ Below X.heap.size X w' := by
  have HC := Lib.hid (fun w => contains_any hs hsz x hx w)
  obtain ⟨v, hv⟩ : ∃ v, inP s x = v := ⟨_, rfl⟩
  unfold outP
  rw [hv]
  rw [show (decide (x < 128) && s.data.toList.contains x.toUInt8) = v from hv] at HC
  clear hv hs hsz
  cases v
  all_goals
    go_enter Tryz.func123, Tryz.ntmps123
    go_wp2_with (go_at_call 109; refine (HC.out _).mono ?_; rintro e w1 ⟨rfl, hb⟩)
    go_ret
    exact ⟨rfl, hb⟩
/-- What anyOf answers. -/
theorem anyOf_any {s : ByteArray} (hs : AllAscii s) (hsz : s.size ≤ 100) (W : World) : Calls Tryz.prog 85 #[.string s] W fun e w' => (∃ lb, e = .returned (.func (.func 108) #[] lb) ∧ Says 108 lb (inP s) w') ∧ Below W.heap.size W w' := by
  have hmf := hmf
  go_enter Tryz.func85, Tryz.ntmps85
  go_wp2
  go_ret
  refine ⟨⟨_, rfl, enters_of Tryz.func108 (by kernel_rfl) rfl, fun X x hx hb => ?_⟩, below_new _ _⟩
  exact anyIn hs hsz ((hb.cell (p := ⟨W.heap.size, 0, none⟩) (by simp)).trans ((Blk.new W #[.string s] 9).cell 0)) x hx
theorem noneOf_any {s : ByteArray} (hs : AllAscii s) (hsz : s.size ≤ 100) (W : World) : Calls Tryz.prog 110 #[.string s] W fun e w' => (∃ lb, e = .returned (.func (.func 123) #[] lb) ∧ Says 123 lb (outP s) w') ∧ Below W.heap.size W w' := by
  have hmf := hmf
  go_enter Tryz.func110, Tryz.ntmps110
  go_wp2
  go_ret
  refine ⟨⟨_, rfl, enters_of Tryz.func123 (by kernel_rfl) rfl, fun X x hx hb => ?_⟩, below_new _ _⟩
  exact noneIn hs hsz ((hb.cell (p := ⟨W.heap.size, 0, none⟩) (by simp)).trans ((Blk.new W #[.string s] 9).cell 0)) x hx

theorem isDigit_any (x : Nat) (hx : x ≤ 1114111) (W : World) : Calls Tryz.prog 91 #[.int .i32 (x : Int)] W fun e w' => e = .returned (.bool (digP x)) ∧ W = w' := by
  unfold digP
  by_cases h1 : 48 ≤ x
  · by_cases h2 : x ≤ 57
    · have a1 : (48 : Int) ≤ (x : Int) := by omega
      have a2 : (x : Int) ≤ 57 := by omega
      go_enter Tryz.func91, Tryz.ntmps91
      go_wp2
      go_ret
      exact ⟨by first | (simp; done) | (simp; omega), rfl⟩
    · have a1 : (48 : Int) ≤ (x : Int) := by omega
      have a2 : ¬ (x : Int) ≤ 57 := by omega
      go_enter Tryz.func91, Tryz.ntmps91
      go_wp2
      go_ret
      exact ⟨by first | (simp; done) | (simp; omega), rfl⟩
  · have a1 : ¬ (48 : Int) ≤ (x : Int) := by omega
    go_enter Tryz.func91, Tryz.ntmps91
    go_wp2
    go_ret
    exact ⟨by first | (simp; done) | (simp; omega), rfl⟩
theorem isDigit_says (W : World) : Says 91 #[] digP W := ⟨enters_of Tryz.func91 (by kernel_rfl) rfl, fun X x hx hb => (isDigit_any x hx X).mono fun e w' ⟨he, hw⟩ => ⟨he, by subst hw; exact Below.refl _ _⟩⟩
set_option maxHeartbeats 1000000 in
theorem isLetter_any (x : Nat) (hx : x ≤ 1114111) (W : World) : Calls Tryz.prog 93 #[.int .i32 (x : Int)] W fun e w' => e = .returned (.bool (letP x)) ∧ W = w' := by
  rcases (show (x < 65) ∨ (65 ≤ x ∧ x ≤ 90) ∨ (91 ≤ x ∧ x ≤ 94) ∨ (x = 95) ∨ (x = 96) ∨ (97 ≤ x ∧ x ≤ 122) ∨ (123 ≤ x) by omega) with hc | hc | hc | hc | hc | hc | hc
  · have hv : letP x = false := by unfold letP; simp; omega
    rw [hv]
    clear hv
    have a1 : ¬ (97 : Int) ≤ (x : Int) := by omega
    have a3 : ¬ (65 : Int) ≤ (x : Int) := by omega
    have a5 : ((x : Int) == 95) = false := by exact beq_eq_false_iff_ne.2 (by omega)
    clear hc
    go_enter Tryz.func93, Tryz.ntmps93
    go_wp2
    go_ret
    exact ⟨rfl, rfl⟩
  · have hv : letP x = true := by unfold letP; simp; omega
    rw [hv]
    clear hv
    have a1 : ¬ (97 : Int) ≤ (x : Int) := by omega
    have a3 : (65 : Int) ≤ (x : Int) := by omega
    have a4 : (x : Int) ≤ 90 := by omega
    have a5 : ((x : Int) == 95) = false := by exact beq_eq_false_iff_ne.2 (by omega)
    clear hc
    go_enter Tryz.func93, Tryz.ntmps93
    go_wp2
    go_ret
    exact ⟨rfl, rfl⟩
  · have hv : letP x = false := by unfold letP; simp; omega
    rw [hv]
    clear hv
    have a1 : ¬ (97 : Int) ≤ (x : Int) := by omega
    have a3 : (65 : Int) ≤ (x : Int) := by omega
    have a4 : ¬ (x : Int) ≤ 90 := by omega
    have a5 : ((x : Int) == 95) = false := by exact beq_eq_false_iff_ne.2 (by omega)
    clear hc
    go_enter Tryz.func93, Tryz.ntmps93
    go_wp2
    go_ret
    exact ⟨rfl, rfl⟩
  · have hv : letP x = true := by unfold letP; simp; omega
    rw [hv]
    clear hv
    have a1 : ¬ (97 : Int) ≤ (x : Int) := by omega
    have a3 : (65 : Int) ≤ (x : Int) := by omega
    have a4 : ¬ (x : Int) ≤ 90 := by omega
    have a5 : ((x : Int) == 95) = true := by exact beq_iff_eq.2 (by omega)
    clear hc
    go_enter Tryz.func93, Tryz.ntmps93
    go_wp2
    go_ret
    exact ⟨rfl, rfl⟩
  · have hv : letP x = false := by unfold letP; simp; omega
    rw [hv]
    clear hv
    have a1 : ¬ (97 : Int) ≤ (x : Int) := by omega
    have a3 : (65 : Int) ≤ (x : Int) := by omega
    have a4 : ¬ (x : Int) ≤ 90 := by omega
    have a5 : ((x : Int) == 95) = false := by exact beq_eq_false_iff_ne.2 (by omega)
    clear hc
    go_enter Tryz.func93, Tryz.ntmps93
    go_wp2
    go_ret
    exact ⟨rfl, rfl⟩
  · have hv : letP x = true := by unfold letP; simp; omega
    rw [hv]
    clear hv
    have a1 : (97 : Int) ≤ (x : Int) := by omega
    have a2 : (x : Int) ≤ 122 := by omega
    clear hc
    go_enter Tryz.func93, Tryz.ntmps93
    go_wp2
    go_ret
    exact ⟨rfl, rfl⟩
  · have hv : letP x = false := by unfold letP; simp; omega
    rw [hv]
    clear hv
    have a1 : (97 : Int) ≤ (x : Int) := by omega
    have a2 : ¬ (x : Int) ≤ 122 := by omega
    have a3 : (65 : Int) ≤ (x : Int) := by omega
    have a4 : ¬ (x : Int) ≤ 90 := by omega
    have a5 : ((x : Int) == 95) = false := by exact beq_eq_false_iff_ne.2 (by omega)
    clear hc
    go_enter Tryz.func93, Tryz.ntmps93
    go_wp2
    go_ret
    exact ⟨rfl, rfl⟩

theorem stored_false {F : Nat} {W w1 : World} {v : Bool} (h : Blk W F #[.bool v] 4) (hb : Below W.heap.size W w1) : Aside F W (w1.setCell ⟨F, 0, none⟩ (.bool false)) ∧ Blk (w1.setCell ⟨F, 0, none⟩ (.bool false)) F #[.bool false] 4 :=
  ⟨(Aside.of hb).set 0 _, by have := (h.below hb).set 0 (.bool false); simpa using this⟩
set_option maxRecDepth 100000 in
set_option maxHeartbeats 1000000 in
theorem word_one (x : Nat) (hx : x ≤ 1114111) {F : Nat} {W : World} (h : Blk W F #[.bool true] 4) : Calls Tryz.prog 129 #[.int .i32 (x : Int), .pointer (some ⟨F, 0, none⟩)] W fun e w' => e = .returned (.bool (letP x)) ∧ Aside F W w' ∧ Blk w' F #[.bool false] 4 := by
  have HL := Lib.hid (fun w => isLetter_any x hx w)
  have HK := Lib.hid h
  have c0 := h.cell 0
  have f0 := h.frozen 0
  clear h
  cases hv : letP x
  · rw [hv] at HL
    clear hv
    go_enter Tryz.func129, Tryz.ntmps129
    go_wp2_with (go_at_call 93; refine (HL.out _).mono ?_; rintro e w1 ⟨rfl, rfl⟩)
    go_ret
    exact ⟨rfl, stored_false HK.out (Below.refl _ _)⟩
  · rw [hv] at HL
    clear hv
    go_enter Tryz.func129, Tryz.ntmps129
    go_wp2_with (go_at_call 93; refine (HL.out _).mono ?_; rintro e w1 ⟨rfl, rfl⟩)
    go_ret
    exact ⟨rfl, stored_false HK.out (Below.refl _ _)⟩
set_option maxRecDepth 100000 in
set_option maxHeartbeats 1000000 in
theorem word_more (x : Nat) (hx : x ≤ 1114111) {F : Nat} {W : World} (h : Blk W F #[.bool false] 4) : Calls Tryz.prog 129 #[.int .i32 (x : Int), .pointer (some ⟨F, 0, none⟩)] W fun e w' => e = .returned (.bool (wordP x)) ∧ Aside F W w' ∧ Blk w' F #[.bool false] 4 := by
  have HL := Lib.hid (fun w => isLetter_any x hx w)
  have HD := Lib.hid (fun w => isDigit_any x hx w)
  have HK := Lib.hid h
  have c0 := h.cell 0
  have f0 := h.frozen 0
  clear h
  unfold wordP
  by_cases h45 : x = 45
  · subst h45
    have e1 : letP 45 = false := by decide
    have e2 : digP 45 = false := by decide
    rw [e1] at HL
    rw [e2] at HD
    clear e1 e2
    go_enter Tryz.func129, Tryz.ntmps129
    go_wp2_with (first | (go_at_call 93; refine (HL.out _).mono ?_; rintro e w1 ⟨rfl, rfl⟩) | (go_at_call 91; refine (HD.out _).mono ?_; rintro e w1 ⟨rfl, rfl⟩))
    go_ret
    exact ⟨by first | rfl | simp, stored_false HK.out (Below.refl _ _)⟩
  · have h45' : ((x : Int) == 45) = false := beq_eq_false_iff_ne.2 (by omega)
    cases hv : letP x <;> cases hd : digP x
    all_goals
      rw [hv] at HL
      rw [hd] at HD
      clear hv hd
      go_enter Tryz.func129, Tryz.ntmps129
      go_wp2_with (first | (go_at_call 93; refine (HL.out _).mono ?_; rintro e w1 ⟨rfl, rfl⟩) | (go_at_call 91; refine (HD.out _).mono ?_; rintro e w1 ⟨rfl, rfl⟩))
      go_ret
      exact ⟨by simp [h45], stored_false HK.out (Below.refl _ _)⟩
theorem word_says (F : Nat) : SaysSt 129 F letP wordP := ⟨enters_of Tryz.func129 (by kernel_rfl) rfl, fun W x hx h => word_one x hx h, fun W x hx h => word_more x hx h⟩
end Go.Proofs.YtljgggohjigaoaaGreatDoor
namespace Go.Proofs.YtljgggohjigaoaaGreatDoor
open Go.RowKit Go.Shelf
set_option linter.unusedVariables false

theorem rest_add (t : ByteArray) (a m : Nat) : (rest t a).drop m = rest t (a + m) := by unfold rest; rw [List.drop_drop]
/-- take, as of bytes. -/
theorem takeTo_bytes {p : Nat → Bool} {q q' : UInt8 → Bool} {hi : Bool} (hlo : ∀ c : UInt8, c.toNat < 128 → p c.toNat = q c) (hhi : ∀ r, 128 ≤ r → p r = hi) (hq : ∀ c, byteP q hi c = q' c) {t : ByteArray} {a : Nat} (ha : a ≤ t.size) :
    rest t (takeTo p t a) = (rest t a).dropWhile q' ∧ a ≤ takeTo p t a ∧ takeTo p t a ≤ t.size := by
  have hz := extract_size ha
  obtain ⟨h1, h2, h3⟩ := stopAt_bytes (p := p) (q := q) (hi := hi) (s := t.extract a t.size) hlo hhi (t.size - a) 0 (by omega) (by omega)
  have e : byteP q hi = q' := funext hq
  rw [rest_extract, e, rest_add, List.drop_zero] at h1
  unfold takeTo
  exact ⟨h1, by omega, by omega⟩
theorem u8_nat (c : UInt8) : c.toNat.toUInt8 = c := by simp
theorem inP_bytes {s : ByteArray} (hs : AllAscii s) {t : ByteArray} {a : Nat} (ha : a ≤ t.size) : rest t (takeTo (inP s) t a) = (rest t a).dropWhile (fun c => s.data.toList.contains c) ∧ a ≤ takeTo (inP s) t a ∧ takeTo (inP s) t a ≤ t.size :=
  takeTo_bytes (q := fun c => s.data.toList.contains c) (hi := false) (fun c hc => by unfold inP; rw [decide_eq_true hc, u8_nat]; rfl) (fun r hr => by unfold inP; rw [decide_eq_false (by omega)]; rfl) (fun c => by
    unfold byteP
    split
    · rfl
    · rename_i h
      cases hc : s.data.toList.contains c
      · rfl
      · exact absurd (hs c (List.contains_iff_mem.1 hc)) h) ha
theorem outP_bytes {s : ByteArray} (hs : AllAscii s) {t : ByteArray} {a : Nat} (ha : a ≤ t.size) : rest t (takeTo (outP s) t a) = (rest t a).dropWhile (fun c => !s.data.toList.contains c) ∧ a ≤ takeTo (outP s) t a ∧ takeTo (outP s) t a ≤ t.size :=
  takeTo_bytes (q := fun c => !s.data.toList.contains c) (hi := true) (fun c hc => by unfold outP inP; rw [decide_eq_true hc, u8_nat]; rfl) (fun r hr => by unfold outP inP; rw [decide_eq_false (by omega)]; rfl) (fun c => by
    unfold byteP
    split
    · rfl
    · rename_i h
      cases hc : s.data.toList.contains c
      · rfl
      · exact absurd (hs c (List.contains_iff_mem.1 hc)) h) ha
theorem digP_bytes {t : ByteArray} {a : Nat} (ha : a ≤ t.size) : rest t (takeTo digP t a) = (rest t a).dropWhile digB ∧ a ≤ takeTo digP t a ∧ takeTo digP t a ≤ t.size :=
  takeTo_bytes (q := digB) (hi := false) (fun c hc => rfl) (fun r hr => by unfold digP; simp; omega) (fun c => by
    unfold byteP digB
    split
    · rfl
    · simp; omega) ha

/-- A word's bytes gone over. -/
def wordL : List UInt8 → List UInt8
  | [] => []
  | c :: r => if letB c then r.dropWhile wordB else c :: r
theorem wordL_cons (c : UInt8) (r : List UInt8) : wordL (c :: r) = if letB c then r.dropWhile wordB else c :: r := rfl
theorem rest_nil {t : ByteArray} {a : Nat} (h : t.size ≤ a) : rest t a = [] := by unfold rest; exact List.drop_of_length_le (by simpa using h)
theorem rest_cons {t : ByteArray} {a : Nat} (h : a < t.size) : rest t a = (t[a]'h) :: rest t (a + 1) := by
  unfold rest
  rw [drop_cons (by simpa using h)]
  rfl
theorem wordTo_bytes {t : ByteArray} {a : Nat} (ha : a ≤ t.size) : rest t (wordTo letP wordP t a) = wordL (rest t a) ∧ a ≤ wordTo letP wordP t a ∧ wordTo letP wordP t a ≤ t.size := by
  have hz := extract_size ha
  unfold wordTo
  rw [hz]
  by_cases h : a < t.size
  · rw [if_pos (by omega)]
    have h0 : 0 < (t.extract a t.size).size := by omega
    have hg : (t.extract a t.size)[0]'h0 = t[a]'h := by
      have e := rest_extract t a
      rw [rest_cons h] at e
      have h1 : (t.extract a t.size).data.toList[0]'(by simpa using h0) = t[a]'h := by
        have : ∀ (l : List UInt8) (hl : 0 < l.length) x r, l = x :: r → l[0] = x := by intro l hl x r e; subst e; rfl
        exact this _ _ _ _ e
      exact h1
    rw [rest_cons h]
    by_cases hc : (t[a]'h).toNat < 128
    · have hd := decode_ascii (t.extract a t.size) 0 h0 (by rw [hg]; exact hc)
      rw [hd, hg]
      have hl : letP (t[a]'h).toNat = letB (t[a]'h) := rfl
      show rest t (if letP (t[a]'h).toNat = true then a + stopAt wordP (t.extract a t.size) (t.size - a) 1 else a) = wordL ((t[a]'h) :: rest t (a + 1)) ∧ _ ∧ _
      rw [wordL_cons, hl]
      by_cases hw : letB (t[a]'h) = true
      · rw [if_pos hw, if_pos hw]
        obtain ⟨h1, h2, h3⟩ := stopAt_bytes (p := wordP) (q := wordB) (hi := false) (s := t.extract a t.size) (fun c hc => rfl) (fun r hr => by unfold wordP letP digP; simp; omega) (t.size - a) 1 (by omega) (by omega)
        have e : byteP wordB false = wordB := funext fun c => by
          unfold byteP
          split
          · rfl
          · unfold wordB letB digB; simp; omega
        rw [rest_extract, e, rest_add, rest_add] at h1
        exact ⟨h1, by omega, by omega⟩
      · rw [if_neg hw, if_neg hw]
        exact ⟨rest_cons h, by omega, by omega⟩
    · have hh := decode_high (t.extract a t.size) 0 h0 (by rw [hg]; omega)
      have e1 : letP (Utf8.decode (t.extract a t.size) 0).1 = false := by unfold letP; simp; omega
      have e2 : letB (t[a]'h) = false := by unfold letB; simp; omega
      rw [wordL_cons, e1, e2, if_neg Bool.false_ne_true, if_neg Bool.false_ne_true]
      exact ⟨rest_cons h, Nat.le_refl _, by omega⟩
  · rw [if_neg (by omega), rest_nil (by omega)]
    exact ⟨rfl, Nat.le_refl _, ha⟩

/-- take with a function value, as of bytes. -/
theorem take_to {W : World} {P a b : Nat} {t : ByteArray} (h : Scn W P t a) {g : Nat} {lb : Array Value} {p : Nat → Bool} (hs : Says g lb p W) {R : List UInt8} (hb : rest t (takeTo p t a) = R ∧ a ≤ takeTo p t a ∧ takeTo p t a ≤ t.size) (hR : b = t.size - R.length) :
    Calls Tryz.prog 84 #[.pointer (some ⟨P, 0, none⟩), .func (.func g) #[] lb] W fun e w' => e = .returned (.string (t.extract a b)) ∧ Went W w' P t b := by
  obtain ⟨h1, h2, h3⟩ := hb
  have hl : R.length = t.size - takeTo p t a := by rw [← h1, rest_length]
  exact take_any h hs (by omega) (by omega) (by omega)
set_option maxRecDepth 100000 in
set_option maxHeartbeats 1000000 in
theorem word_any {W : World} {P a b : Nat} {t : ByteArray} (h : Scn W P t a) (hb : wordTo letP wordP t a = b) : Calls Tryz.prog 114 #[.pointer (some ⟨P, 0, none⟩)] W fun e w' => e = .returned (.string (t.extract a b)) ∧ Went W w' P t b := by
  have hmf := hmf
  have hw := wordTo_bytes h.2.1
  rw [hb] at hw
  have hPF := h.1.lt
  have HT := Lib.hid (take_st (h.below (below_new W (.cells #[.bool true] 4))) (Blk.new W #[.bool true] 4) (by omega) (word_says W.heap.size) hb hw.2.2 hw.2.1)
  clear h hb hw
  go_enter Tryz.func114, Tryz.ntmps114
  go_wp2_with (go_at_call 84; refine HT.out.mono ?_; rintro e w1 ⟨rfl, ho, hsc⟩)
  go_ret
  refine ⟨rfl, ⟨ho.os, ho.tape, ho.output, ?_, fun k hk hP => ?_⟩, hsc⟩
  · have := ho.size; simp at this; omega
  · rw [ho.block k (by simp; omega) hP (by omega)]
    exact Below.heap_alloc W _ k hk
end Go.Proofs.YtljgggohjigaoaaGreatDoor
namespace Go.Proofs.YtljgggohjigaoaaGreatDoor
set_option linter.unusedVariables false

def bytesIn (l : List UInt8) (c : UInt8) : Bool := l.contains c
def notIn (l : List UInt8) (c : UInt8) : Bool := !l.contains c
/-- Behind a remark, if one stands here. -/
def remarkL (R : List UInt8) : Option (List UInt8) :=
  if Lib.hasPrefix R [35] || Lib.hasPrefix R [47, 47] then some (R.dropWhile (notIn [10]))
  else if Lib.hasPrefix R [47, 42] then (if 0 ≤ Lib.index (R.drop 2) [42, 47] then some ((R.drop 2).drop ((Lib.index (R.drop 2) [42, 47]).toNat + 2)) else none)
  else none
/-- Behind all that may stand between two tokens. -/
def betweenL : Nat → List UInt8 → List UInt8
  | 0, R => R
  | n + 1, R =>
    let R1 := R.dropWhile (bytesIn [32, 9, 13])
    if R1.length < R.length then betweenL n R1 else match remarkL R with
      | some R2 => betweenL n R2
      | none => R
theorem dropWhile_le {q : UInt8 → Bool} : ∀ l : List UInt8, (l.dropWhile q).length ≤ l.length
  | [] => by simp
  | c :: l => by
    have := dropWhile_le (q := q) l
    rw [List.dropWhile_cons]
    split
    · simp; omega
    · simp
theorem prefix_drop {R p : List UInt8} (h : Lib.hasPrefix R p = true) : p.length ≤ R.length := List.IsPrefix.length_le (List.isPrefixOf_iff_prefix.1 h)
theorem remark_less {R R' : List UInt8} (h : remarkL R = some R') : R'.length < R.length := by
  unfold remarkL at h
  split at h
  · rename_i hp
    cases h
    have hd := dropWhile_le (q := notIn [10]) R
    match R, hp with
    | [], hp => simp [Lib.hasPrefix] at hp
    | c :: r, hp =>
      have hc : notIn [10] c = true := by
        have h1 : c = 35 ∨ c = 47 := by
          simp [Lib.hasPrefix, List.isPrefixOf] at hp
          rcases hp with h | h
          · exact .inl h.symm
          · exact .inr h.1.symm
        rcases h1 with rfl | rfl <;> decide
      rw [List.dropWhile_cons_of_pos hc]
      have := dropWhile_le (q := notIn [10]) r
      simp; omega
  · split at h
    · rename_i hp
      have h2 := prefix_drop hp
      split at h
      · cases h
        simp at h2 ⊢
        omega
      · cases h
    · cases h
theorem between_more : ∀ {n m : Nat} {R : List UInt8}, R.length ≤ n → R.length ≤ m → betweenL n R = betweenL m R
  | 0, 0, _, _, _ => rfl
  | 0, m + 1, R, h, _ => by
    obtain rfl : R = [] := List.length_eq_zero_iff.1 (by omega)
    simp [betweenL, remarkL, Lib.hasPrefix]
  | n + 1, 0, R, _, h => by
    obtain rfl : R = [] := List.length_eq_zero_iff.1 (by omega)
    simp [betweenL, remarkL, Lib.hasPrefix]
  | n + 1, m + 1, R, h1, h2 => by
    unfold betweenL
    simp only
    split
    · exact between_more (by omega) (by omega)
    · cases hr : remarkL R with
      | none => rfl
      | some R2 =>
        have := remark_less hr
        exact between_more (by omega) (by omega)
/-- Behind all that may stand between two tokens, of any length. -/
def betweenA (R : List UInt8) : List UInt8 := betweenL R.length R
theorem betweenA_blank {R : List UInt8} (h : (R.dropWhile (bytesIn [32, 9, 13])).length < R.length) : betweenA R = betweenA (R.dropWhile (bytesIn [32, 9, 13])) := by
  unfold betweenA
  obtain ⟨n, hn⟩ : ∃ n, R.length = n + 1 := ⟨R.length - 1, by omega⟩
  rw [hn]
  conv => lhs; unfold betweenL
  simp only
  rw [if_pos h]
  exact between_more (by omega) (Nat.le_refl _)
theorem betweenA_remark {R R' : List UInt8} (h : ¬ (R.dropWhile (bytesIn [32, 9, 13])).length < R.length) (hr : remarkL R = some R') : betweenA R = betweenA R' := by
  unfold betweenA
  have := remark_less hr
  obtain ⟨n, hn⟩ : ∃ n, R.length = n + 1 := ⟨R.length - 1, by omega⟩
  rw [hn]
  conv => lhs; unfold betweenL
  simp only
  rw [if_neg h, hr]
  exact between_more (by omega) (Nat.le_refl _)
theorem betweenA_none {R : List UInt8} (h : ¬ (R.dropWhile (bytesIn [32, 9, 13])).length < R.length) (hr : remarkL R = none) : betweenA R = R := by
  unfold betweenA
  cases hn : R.length with
  | zero => rfl
  | succ n =>
    unfold betweenL
    simp only
    rw [if_neg h, hr]
end Go.Proofs.YtljgggohjigaoaaGreatDoor
namespace Go.Proofs.YtljgggohjigaoaaGreatDoor
set_option linter.unusedVariables false

/-- What is left, or what is wrong. -/
abbrev Left := Except Int (List UInt8)
def escL : List UInt8 → Left
  | 92 :: c :: r => if [34, 92, 110, 116, 114, 36].contains c then .ok r else .error 40
  | _ => .error 40
/-- What is no sign of one of these, at least one. -/
def runL (q : List UInt8) (R : List UInt8) : Left := if (R.dropWhile (notIn q)).length < R.length then .ok (R.dropWhile (notIn q)) else .error 40
def textPart (b : List UInt8 → Left) (R : List UInt8) : Left :=
  if Lib.hasPrefix R [92] then escL R
  else if Lib.hasPrefix R [36, 123] then b (R.drop 1)
  else if Lib.hasPrefix R [36] then .ok (R.drop 1)
  else runL [34, 92, 36, 10] R
def bracePart (b tx : List UInt8 → Left) (R : List UInt8) : Left :=
  if Lib.hasPrefix R [123] then b R
  else if Lib.hasPrefix R [34] then tx R
  else runL [123, 125, 34, 10] R
/-- Part by part, to an end. -/
def toEnd (part : List UInt8 → Left) (q : UInt8) : Nat → List UInt8 → Left
  | 0, R => .error 40
  | n + 1, R => if Lib.hasPrefix R [q] then .ok (R.drop 1) else match part R with
    | .ok R' => toEnd part q n R'
    | .error c => .error c
def toEndA (part : List UInt8 → Left) (q : UInt8) (R : List UInt8) : Left := toEnd part q (R.length + 1) R
def textL (b : List UInt8 → Left) (R : List UInt8) : Left := toEndA (textPart b) 34 (R.drop 1)
def braceL : Nat → List UInt8 → Left
  | 0, _ => .error 7
  | n + 1, R => toEndA (bracePart (braceL n) (textL (braceL n))) 125 (R.drop 1)
/-- A reader that goes on. -/
def GoesOn (part : List UInt8 → Left) : Prop := ∀ R, (∀ R', part R = .ok R' → R'.length < R.length) ∧ (∀ c, part R = .error c → 0 < c ∧ c < 100)
theorem pre1 {R : List UInt8} {q : UInt8} (h : Lib.hasPrefix R [q] = true) : R = q :: R.drop 1 := by
  match R, h with
  | [], h => simp [Lib.hasPrefix] at h
  | c :: r, h =>
    simp [Lib.hasPrefix, List.isPrefixOf] at h
    simp [h]
theorem esc_on : GoesOn escL := fun R => by
  unfold escL
  split
  · split
    · exact ⟨fun R' h => (by cases h; simp; omega), fun c h => by cases h⟩
    · exact ⟨fun R' h => (by cases h), fun c h => by cases h; decide⟩
  · exact ⟨fun R' h => (by cases h), fun c h => by cases h; decide⟩
theorem run_on (q : List UInt8) : GoesOn (runL q) := fun R => by
  unfold runL
  split
  · exact ⟨fun R' h => (by cases h; assumption), fun c h => by cases h⟩
  · exact ⟨fun R' h => (by cases h), fun c h => by cases h; decide⟩
theorem textPart_on {b : List UInt8 → Left} (hb : GoesOn b) : GoesOn (textPart b) := fun R => by
  unfold textPart
  split
  · exact esc_on R
  · split
    · rename_i h
      have := prefix_drop h
      refine ⟨fun R' h' => ?_, (hb _).2⟩
      have := (hb _).1 R' h'
      simp at *
      omega
    · split
      · rename_i h
        have := prefix_drop h
        simp at this
        exact ⟨fun R' h' => (by cases h'; simp; omega), fun c h' => by cases h'⟩
      · exact run_on _ R
theorem bracePart_on {b tx : List UInt8 → Left} (hb : GoesOn b) (ht : GoesOn tx) : GoesOn (bracePart b tx) := fun R => by
  unfold bracePart
  split
  · exact hb R
  · split
    · exact ht R
    · exact run_on _ R
theorem toEnd_on {part : List UInt8 → Left} (hp : GoesOn part) {q : UInt8} : ∀ n R, (∀ R', toEnd part q n R = .ok R' → R'.length < R.length) ∧ (∀ c, toEnd part q n R = .error c → 0 < c ∧ c < 100)
  | 0, R => ⟨fun R' h => (by cases h), fun c h => by cases h; decide⟩
  | n + 1, R => by
    unfold toEnd
    split
    · rename_i h
      have := prefix_drop h
      simp at this
      exact ⟨fun R' h' => (by cases h'; simp; omega), fun c h' => by cases h'⟩
    · cases hr : part R with
      | ok R1 =>
        have h1 := (hp R).1 R1 hr
        obtain ⟨i1, i2⟩ := toEnd_on hp (q := q) n R1
        exact ⟨fun R' h' => Nat.lt_trans (i1 R' h') h1, i2⟩
      | error c => exact ⟨fun R' h' => (by cases h'), fun c' h' => by cases h'; exact (hp R).2 c hr⟩
theorem textL_on {b : List UInt8 → Left} (hb : GoesOn b) : GoesOn (textL b) := fun R => by
  obtain ⟨h1, h2⟩ := toEnd_on (textPart_on hb) (q := 34) ((R.drop 1).length + 1) (R.drop 1)
  exact ⟨fun R' h => by have := h1 R' h; simp at this; omega, h2⟩
theorem braceL_on : ∀ n, GoesOn (braceL n)
  | 0 => fun R => ⟨fun R' h => (by cases h), fun c h => by cases h; decide⟩
  | n + 1 => fun R => by
    obtain ⟨h1, h2⟩ := toEnd_on (bracePart_on (braceL_on n) (textL_on (braceL_on n))) (q := 125) ((R.drop 1).length + 1) (R.drop 1)
    exact ⟨fun R' h => by have := h1 R' h; simp at this; omega, h2⟩
theorem toEnd_more {part : List UInt8 → Left} (hp : GoesOn part) {q : UInt8} : ∀ {n m : Nat} {R : List UInt8}, R.length < n → R.length < m → toEnd part q n R = toEnd part q m R
  | 0, m, R, h, _ => by omega
  | n + 1, 0, R, _, h => by omega
  | n + 1, m + 1, R, h1, h2 => by
    unfold toEnd
    split
    · rfl
    · cases hr : part R with
      | ok R1 =>
        have h3 := (hp R).1 R1 hr
        exact toEnd_more hp (by omega) (by omega)
      | error c => rfl
theorem toEndA_end {part : List UInt8 → Left} {q : UInt8} {R : List UInt8} (h : Lib.hasPrefix R [q] = true) : toEndA part q R = .ok (R.drop 1) := by
  unfold toEndA toEnd
  rw [if_pos h]
theorem toEndA_part {part : List UInt8 → Left} (hp : GoesOn part) {q : UInt8} {R R' : List UInt8} (h : Lib.hasPrefix R [q] = false) (hr : part R = .ok R') : toEndA part q R = toEndA part q R' := by
  unfold toEndA
  conv => lhs; unfold toEnd
  rw [if_neg (by rw [h]; decide), hr]
  have := (hp R).1 R' hr
  exact toEnd_more hp (by omega) (by omega)
theorem toEndA_err {part : List UInt8 → Left} {q : UInt8} {R : List UInt8} {c : Int} (h : Lib.hasPrefix R [q] = false) (hr : part R = .error c) : toEndA part q R = .error c := by
  unfold toEndA toEnd
  rw [if_neg (by rw [h]; decide), hr]
end Go.Proofs.YtljgggohjigaoaaGreatDoor
