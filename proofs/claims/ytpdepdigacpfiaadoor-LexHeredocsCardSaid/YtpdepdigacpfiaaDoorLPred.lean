/- The lexer's statements on runes: anyOf, noneOf, isDigit, isLetter, and a word's. -/
import Derived.Test.YtpdepdigacpfiaaDoorLTakeSt
import Derived.Test.YtpdepdigacpfiaaDoorLRune
namespace Go.Proofs.YtpdepdigacpfiaaDoor
open Go.RowKit Go.Shelf
set_option linter.unusedVariables false

/-- One of these bytes? -/
def inP (s : ByteArray) (x : Nat) : Bool := decide (x < 128) && s.data.toList.contains x.toUInt8
def outP (s : ByteArray) (x : Nat) : Bool := !inP s x
def digB (c : UInt8) : Bool := decide (48 ≤ c.toNat) && decide (c.toNat ≤ 57)
def letB (c : UInt8) : Bool := (decide (97 ≤ c.toNat) && decide (c.toNat ≤ 122)) || (decide (65 ≤ c.toNat) && decide (c.toNat ≤ 90)) || decide (c.toNat = 95)
def digP (x : Nat) : Bool := decide (48 ≤ x) && decide (x ≤ 57)
def letP (x : Nat) : Bool := (decide (97 ≤ x) && decide (x ≤ 122)) || (decide (65 ≤ x) && decide (x ≤ 90)) || decide (x = 95)
def wordP (x : Nat) : Bool := letP x || digP x || decide (x = 45)
def wordB (c : UInt8) : Bool := letB c || digB c || decide (c.toNat = 45)

theorem hmf : ∀ (fn : Fn) (first cap : Array Value) (w : World), (Instr.makeFunc fn first cap).run Tryd.prog w = .ok (.func fn first cap) w := fun _ _ _ _ => rfl
set_option maxRecDepth 100000 in
set_option maxHeartbeats 1000000 in
theorem anyIn {s : ByteArray} (hs : AllAscii s) (hsz : s.size ≤ 100) {F : Nat} {X : World} (hc : X.cell? ⟨F, 0, none⟩ = some (.string s)) (x : Nat) (hx : x ≤ 1114111) : Calls Tryd.prog 33 #[.int .i32 (x : Int), .pointer (some ⟨F, 0, none⟩)] X fun e w' => e = .returned (.bool (inP s x)) ∧ Below X.heap.size X w' := by
  have HC := Lib.hid (fun w => contains_any hs hsz x hx w)
  obtain ⟨v, hv⟩ : ∃ v, inP s x = v := ⟨_, rfl⟩
  rw [hv]
  rw [show (decide (x < 128) && s.data.toList.contains x.toUInt8) = v from hv] at HC
  clear hv hs hsz
  go_enter Tryd.func33, Tryd.ntmps33
  go_wp2_with (go_at_call 34; refine (HC.out _).mono ?_; rintro e w1 ⟨rfl, hb⟩)
  go_ret
  exact ⟨rfl, hb⟩
set_option maxRecDepth 100000 in
set_option maxHeartbeats 1000000 in
theorem noneIn {s : ByteArray} (hs : AllAscii s) (hsz : s.size ≤ 100) {F : Nat} {X : World} (hc : X.cell? ⟨F, 0, none⟩ = some (.string s)) (x : Nat) (hx : x ≤ 1114111) : Calls Tryd.prog 44 #[.int .i32 (x : Int), .pointer (some ⟨F, 0, none⟩)] X fun e w' => e = .returned (.bool (outP s x)) ∧ Below X.heap.size X w' := by
  have HC := Lib.hid (fun w => contains_any hs hsz x hx w)
  obtain ⟨v, hv⟩ : ∃ v, inP s x = v := ⟨_, rfl⟩
  unfold outP
  rw [hv]
  rw [show (decide (x < 128) && s.data.toList.contains x.toUInt8) = v from hv] at HC
  clear hv hs hsz
  cases v
  all_goals
    go_enter Tryd.func44, Tryd.ntmps44
    go_wp2_with (go_at_call 34; refine (HC.out _).mono ?_; rintro e w1 ⟨rfl, hb⟩)
    go_ret
    exact ⟨rfl, hb⟩
/-- What anyOf answers. -/
theorem anyOf_any {s : ByteArray} (hs : AllAscii s) (hsz : s.size ≤ 100) (W : World) : Calls Tryd.prog 21 #[.string s] W fun e w' => (∃ lb, e = .returned (.func (.func 33) #[] lb) ∧ Says 33 lb (inP s) w') ∧ Below W.heap.size W w' := by
  have hmf := hmf
  go_enter Tryd.func21, Tryd.ntmps21
  go_wp2
  go_ret
  refine ⟨⟨_, rfl, enters_of Tryd.func33 (by kernel_rfl) rfl, fun X x hx hb => ?_⟩, below_new _ _⟩
  exact anyIn hs hsz ((hb.cell (p := ⟨W.heap.size, 0, none⟩) (by simp)).trans ((Blk.new W #[.string s] 9).cell 0)) x hx
theorem noneOf_any {s : ByteArray} (hs : AllAscii s) (hsz : s.size ≤ 100) (W : World) : Calls Tryd.prog 35 #[.string s] W fun e w' => (∃ lb, e = .returned (.func (.func 44) #[] lb) ∧ Says 44 lb (outP s) w') ∧ Below W.heap.size W w' := by
  have hmf := hmf
  go_enter Tryd.func35, Tryd.ntmps35
  go_wp2
  go_ret
  refine ⟨⟨_, rfl, enters_of Tryd.func44 (by kernel_rfl) rfl, fun X x hx hb => ?_⟩, below_new _ _⟩
  exact noneIn hs hsz ((hb.cell (p := ⟨W.heap.size, 0, none⟩) (by simp)).trans ((Blk.new W #[.string s] 9).cell 0)) x hx

theorem isDigit_any (x : Nat) (hx : x ≤ 1114111) (W : World) : Calls Tryd.prog 27 #[.int .i32 (x : Int)] W fun e w' => e = .returned (.bool (digP x)) ∧ W = w' := by
  unfold digP
  by_cases h1 : 48 ≤ x
  · by_cases h2 : x ≤ 57
    · have a1 : (48 : Int) ≤ (x : Int) := by omega
      have a2 : (x : Int) ≤ 57 := by omega
      go_enter Tryd.func27, Tryd.ntmps27
      go_wp2
      go_ret
      exact ⟨by first | (simp; done) | (simp; omega), rfl⟩
    · have a1 : (48 : Int) ≤ (x : Int) := by omega
      have a2 : ¬ (x : Int) ≤ 57 := by omega
      go_enter Tryd.func27, Tryd.ntmps27
      go_wp2
      go_ret
      exact ⟨by first | (simp; done) | (simp; omega), rfl⟩
  · have a1 : ¬ (48 : Int) ≤ (x : Int) := by omega
    go_enter Tryd.func27, Tryd.ntmps27
    go_wp2
    go_ret
    exact ⟨by first | (simp; done) | (simp; omega), rfl⟩
theorem isDigit_says (W : World) : Says 27 #[] digP W := ⟨enters_of Tryd.func27 (by kernel_rfl) rfl, fun X x hx hb => (isDigit_any x hx X).mono fun e w' ⟨he, hw⟩ => ⟨he, by subst hw; exact Below.refl _ _⟩⟩
set_option maxHeartbeats 1000000 in
theorem isLetter_any (x : Nat) (hx : x ≤ 1114111) (W : World) : Calls Tryd.prog 29 #[.int .i32 (x : Int)] W fun e w' => e = .returned (.bool (letP x)) ∧ W = w' := by
  rcases (show (x < 65) ∨ (65 ≤ x ∧ x ≤ 90) ∨ (91 ≤ x ∧ x ≤ 94) ∨ (x = 95) ∨ (x = 96) ∨ (97 ≤ x ∧ x ≤ 122) ∨ (123 ≤ x) by omega) with hc | hc | hc | hc | hc | hc | hc
  · have hv : letP x = false := by unfold letP; simp; omega
    rw [hv]
    clear hv
    have a1 : ¬ (97 : Int) ≤ (x : Int) := by omega
    have a3 : ¬ (65 : Int) ≤ (x : Int) := by omega
    have a5 : ((x : Int) == 95) = false := by exact beq_eq_false_iff_ne.2 (by omega)
    clear hc
    go_enter Tryd.func29, Tryd.ntmps29
    go_wp2
    go_ret
    exact ⟨rfl, rfl⟩
  · have hv : letP x = true := by unfold letP; simp; omega
    rw [hv]
    clear hv
    have a1 : ¬ (97 : Int) ≤ (x : Int) := by omega
    have a3 : (65 : Int) ≤ (x : Int) := by omega
    have a4 : (x : Int) ≤ 90 := by omega
    have a5 : ((x : Int) == 95) = false := by exact beq_eq_false_iff_ne.2 (by omega)
    clear hc
    go_enter Tryd.func29, Tryd.ntmps29
    go_wp2
    go_ret
    exact ⟨rfl, rfl⟩
  · have hv : letP x = false := by unfold letP; simp; omega
    rw [hv]
    clear hv
    have a1 : ¬ (97 : Int) ≤ (x : Int) := by omega
    have a3 : (65 : Int) ≤ (x : Int) := by omega
    have a4 : ¬ (x : Int) ≤ 90 := by omega
    have a5 : ((x : Int) == 95) = false := by exact beq_eq_false_iff_ne.2 (by omega)
    clear hc
    go_enter Tryd.func29, Tryd.ntmps29
    go_wp2
    go_ret
    exact ⟨rfl, rfl⟩
  · have hv : letP x = true := by unfold letP; simp; omega
    rw [hv]
    clear hv
    have a1 : ¬ (97 : Int) ≤ (x : Int) := by omega
    have a3 : (65 : Int) ≤ (x : Int) := by omega
    have a4 : ¬ (x : Int) ≤ 90 := by omega
    have a5 : ((x : Int) == 95) = true := by exact beq_iff_eq.2 (by omega)
    clear hc
    go_enter Tryd.func29, Tryd.ntmps29
    go_wp2
    go_ret
    exact ⟨rfl, rfl⟩
  · have hv : letP x = false := by unfold letP; simp; omega
    rw [hv]
    clear hv
    have a1 : ¬ (97 : Int) ≤ (x : Int) := by omega
    have a3 : (65 : Int) ≤ (x : Int) := by omega
    have a4 : ¬ (x : Int) ≤ 90 := by omega
    have a5 : ((x : Int) == 95) = false := by exact beq_eq_false_iff_ne.2 (by omega)
    clear hc
    go_enter Tryd.func29, Tryd.ntmps29
    go_wp2
    go_ret
    exact ⟨rfl, rfl⟩
  · have hv : letP x = true := by unfold letP; simp; omega
    rw [hv]
    clear hv
    have a1 : (97 : Int) ≤ (x : Int) := by omega
    have a2 : (x : Int) ≤ 122 := by omega
    clear hc
    go_enter Tryd.func29, Tryd.ntmps29
    go_wp2
    go_ret
    exact ⟨rfl, rfl⟩
  · have hv : letP x = false := by unfold letP; simp; omega
    rw [hv]
    clear hv
    have a1 : (97 : Int) ≤ (x : Int) := by omega
    have a2 : ¬ (x : Int) ≤ 122 := by omega
    have a3 : (65 : Int) ≤ (x : Int) := by omega
    have a4 : ¬ (x : Int) ≤ 90 := by omega
    have a5 : ((x : Int) == 95) = false := by exact beq_eq_false_iff_ne.2 (by omega)
    clear hc
    go_enter Tryd.func29, Tryd.ntmps29
    go_wp2
    go_ret
    exact ⟨rfl, rfl⟩

theorem stored_false {F : Nat} {W w1 : World} {v : Bool} (h : Blk W F #[.bool v] 4) (hb : Below W.heap.size W w1) : Aside F W (w1.setCell ⟨F, 0, none⟩ (.bool false)) ∧ Blk (w1.setCell ⟨F, 0, none⟩ (.bool false)) F #[.bool false] 4 :=
  ⟨(Aside.of hb).set 0 _, by have := (h.below hb).set 0 (.bool false); simpa using this⟩
set_option maxRecDepth 100000 in
set_option maxHeartbeats 1000000 in
theorem word_one (x : Nat) (hx : x ≤ 1114111) {F : Nat} {W : World} (h : Blk W F #[.bool true] 4) : Calls Tryd.prog 50 #[.int .i32 (x : Int), .pointer (some ⟨F, 0, none⟩)] W fun e w' => e = .returned (.bool (letP x)) ∧ Aside F W w' ∧ Blk w' F #[.bool false] 4 := by
  have HL := Lib.hid (fun w => isLetter_any x hx w)
  have HK := Lib.hid h
  have c0 := h.cell 0
  have f0 := h.frozen 0
  clear h
  cases hv : letP x
  · rw [hv] at HL
    clear hv
    go_enter Tryd.func50, Tryd.ntmps50
    go_wp2_with (go_at_call 29; refine (HL.out _).mono ?_; rintro e w1 ⟨rfl, rfl⟩)
    go_ret
    exact ⟨rfl, stored_false HK.out (Below.refl _ _)⟩
  · rw [hv] at HL
    clear hv
    go_enter Tryd.func50, Tryd.ntmps50
    go_wp2_with (go_at_call 29; refine (HL.out _).mono ?_; rintro e w1 ⟨rfl, rfl⟩)
    go_ret
    exact ⟨rfl, stored_false HK.out (Below.refl _ _)⟩
set_option maxRecDepth 100000 in
set_option maxHeartbeats 1000000 in
theorem word_more (x : Nat) (hx : x ≤ 1114111) {F : Nat} {W : World} (h : Blk W F #[.bool false] 4) : Calls Tryd.prog 50 #[.int .i32 (x : Int), .pointer (some ⟨F, 0, none⟩)] W fun e w' => e = .returned (.bool (wordP x)) ∧ Aside F W w' ∧ Blk w' F #[.bool false] 4 := by
  have HL := Lib.hid (fun w => isLetter_any x hx w)
  have HD := Lib.hid (fun w => isDigit_any x hx w)
  have HK := Lib.hid h
  have c0 := h.cell 0
  have f0 := h.frozen 0
  clear h
  unfold wordP
  by_cases h45 : x = 45
  · subst h45
    have e1 : letP 45 = false := by decide
    have e2 : digP 45 = false := by decide
    rw [e1] at HL
    rw [e2] at HD
    clear e1 e2
    go_enter Tryd.func50, Tryd.ntmps50
    go_wp2_with (first | (go_at_call 29; refine (HL.out _).mono ?_; rintro e w1 ⟨rfl, rfl⟩) | (go_at_call 27; refine (HD.out _).mono ?_; rintro e w1 ⟨rfl, rfl⟩))
    go_ret
    exact ⟨by first | rfl | simp, stored_false HK.out (Below.refl _ _)⟩
  · have h45' : ((x : Int) == 45) = false := beq_eq_false_iff_ne.2 (by omega)
    cases hv : letP x <;> cases hd : digP x
    all_goals
      rw [hv] at HL
      rw [hd] at HD
      clear hv hd
      go_enter Tryd.func50, Tryd.ntmps50
      go_wp2_with (first | (go_at_call 29; refine (HL.out _).mono ?_; rintro e w1 ⟨rfl, rfl⟩) | (go_at_call 27; refine (HD.out _).mono ?_; rintro e w1 ⟨rfl, rfl⟩))
      go_ret
      exact ⟨by simp [h45], stored_false HK.out (Below.refl _ _)⟩
theorem word_says (F : Nat) : SaysSt 50 F letP wordP := ⟨enters_of Tryd.func50 (by kernel_rfl) rfl, fun W x hx h => word_one x hx h, fun W x hx h => word_more x hx h⟩
end Go.Proofs.YtpdepdigacpfiaaDoor
