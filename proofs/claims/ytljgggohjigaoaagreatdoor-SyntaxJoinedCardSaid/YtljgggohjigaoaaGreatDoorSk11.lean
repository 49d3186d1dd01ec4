/- ( ), [ ] and braces · Which kind a sign joins · Which kind a sign joins: all of it · What has ended and what is ahead never grows: tokens are taken from the front, and each expression has one that it stands for -/
import Derived.Test.YtljgggohjigaoaaGreatDoorSk08
import Derived.Test.YtljgggohjigaoaaGreatDoorSk09
import Derived.Test.YtljgggohjigaoaaGreatDoorSk10
namespace Go.Proofs.YtljgggohjigaoaaGreatDoor
open Go.RowKit Go.Shelf
set_option linter.unusedVariables false

section
variable {α : Type} {W : World} {P F T lo dp : Nat} {s : Ps} {m : FileM} {nx : Sub} {gr : Nat} {lbr : Array Value} {X : List Nat} {f : PM Nat × PM Nat → PM α} {St : α → FileM → World → Prop}
set_option maxRecDepth 100000 in
theorem grouped_any (h : PsAt W P F T lo dp s m) (hnx : Left24 dp nx) {b en : ByteArray} (hb : b ≠ ⟨#[]⟩) (hen : en ≠ ⟨#[]⟩) (egr : ∀ args w, (callFunc gr args).run Tryz.prog w = .ok (.enter gr args) w) (hX : ∀ k ∈ X, k < W.heap.size) (hst : ∀ a m w w', St a m w → Aside P w w' → St a m w')
  (hr : ∀ p, nx = some p → ∀ (W' : World) (s' : Ps), Aside P W W' → PsAt W' P F T lo (dp + 1) s' m → s'.over = true → s'.toks = (takeS s).toks → s'.f = s.f → Calls Tryz.prog gr lbr W' (KEnd W' P F T lo (dp + 1) m X St (f p s') (fun _ => .tuple #[]))) :
  Calls Tryz.prog 160 #[.pointer (some ⟨P, 0, none⟩), .string b, .string en, .func (.func gr) #[] lbr] W (KEnd W P F T lo dp m X (fun r m w => St r.1 m w) (betweenM b en true nx f s) (fun r => .int .i64 (r.2 : Int))) := by
 have HB := Lib.hid (pbetween_any h hnx hb hen egr hX hst hr)
 obtain ⟨R, hR⟩ : ∃ R, betweenM b en true nx f s = R := ⟨_, rfl⟩
 rw [hR] at HB ⊢
 clear h hnx hb hen egr hX hst hr hR
 go_enter Tryz.func160, Tryz.ntmps160
 go_wp2_with fail
 go_at_call 73; refine HB.out.mono ?_
 intro e w2 hk
 cases R with
 | error bd =>
  obtain ⟨D, rfl, h1, h2, h3⟩ := hk
  exact ⟨rfl, D, rfl, h1, h2, h3⟩
 | ok y =>
  obtain ⟨a, s'⟩ := y
  obtain ⟨rfl, m', h1, h2, h3, h4⟩ := hk
  go_wp2_with fail
  go_ret
  exact ⟨rfl, m', h1, h2, h3, h4⟩
set_option maxRecDepth 100000 in
theorem braced_any (h : PsAt W P F T lo dp s m) (hnx : Left24 dp nx) (egr : ∀ args w, (callFunc gr args).run Tryz.prog w = .ok (.enter gr args) w) (hX : ∀ k ∈ X, k < W.heap.size) (hst : ∀ a m w w', St a m w → Aside P w w' → St a m w')
  (hr : ∀ p, nx = some p → ∀ (W' : World) (s' : Ps), Aside P W W' → PsAt W' P F T lo (dp + 1) s' m → s'.over = false → s'.toks = (takeS s).toks → s'.f = s.f → Calls Tryz.prog gr lbr W' (KEnd W' P F T lo (dp + 1) m X St (f p s') (fun _ => .tuple #[]))) :
  Calls Tryz.prog 55 #[.pointer (some ⟨P, 0, none⟩), .func (.func gr) #[] lbr] W (KEnd W P F T lo dp m X (fun r m w => St r.1 m w) (betweenM (wb [123]) (wb [125]) false nx f s) (fun r => .int .i64 (r.2 : Int))) := by
 have HB := Lib.hid (pbetween_any h hnx (b := wb [123]) (en := wb [125]) (by decide) (by decide) egr hX hst hr)
 obtain ⟨R, hR⟩ : ∃ R, betweenM (wb [123]) (wb [125]) false nx f s = R := ⟨_, rfl⟩
 rw [hR] at HB ⊢
 have HB : Hid (Calls Tryz.prog 73 #[.pointer (some ⟨P, 0, none⟩), .string ⟨#[123]⟩, .string ⟨#[125]⟩, .bool false, .func (.func gr) #[] lbr] W (KEnd W P F T lo dp m X (fun r m w => St r.1 m w) R (fun r => .int .i64 (r.2 : Int)))) := HB
 clear h hnx egr hX hst hr hR
 go_enter Tryz.func55, Tryz.ntmps55
 go_wp2_with fail
 go_at_call 73; refine HB.out.mono ?_
 intro e w2 hk
 cases R with
 | error bd =>
  obtain ⟨D, rfl, h1, h2, h3⟩ := hk
  exact ⟨rfl, D, rfl, h1, h2, h3⟩
 | ok y =>
  obtain ⟨a, s'⟩ := y
  obtain ⟨rfl, m', h1, h2, h3, h4⟩ := hk
  go_wp2_with fail
  go_ret
  exact ⟨rfl, m', h1, h2, h3, h4⟩
end
end Go.Proofs.YtljgggohjigaoaaGreatDoor
namespace Go.Proofs.YtljgggohjigaoaaGreatDoor
open Go.RowKit Go.Shelf
set_option linter.unusedVariables false

theorem joins_other (t : Tk) (hk : t.k ≠ 4) (W : World) : Calls Tryz.prog 120 #[tkV t] W fun e w' => e = .returned (.int .i64 (joinsT t)) ∧ Below W.heap.size W w' := by
 have e4 : (t.k != 4) = true := by simp [hk]
 have hJ : Hid (joinsT t = 0) := Lib.hid (by unfold joinsT; rw [if_pos hk])
 clear hk
 go_enter Tryz.func120, Tryz.ntmps120
 go_wp2
 go_ret
 rw [hJ.out]
 exact ⟨rfl, by go_grown⟩
set_option maxRecDepth 100000 in
set_option maxHeartbeats 2000000 in
theorem joins_27 (x : ByteArray) (a : Int) (W : World) (e27 : (x.toList == [124, 124]) = true) : Calls Tryz.prog 120 #[.agg #[.int .i64 4, .string x, .int .i64 a]] W fun e w' => e = .returned (.int .i64 27) ∧ Below W.heap.size W w' := by
 go_enter Tryz.func120, Tryz.ntmps120
 go_wp2
 go_ret
 exact ⟨rfl, by go_grown⟩
set_option maxRecDepth 100000 in
set_option maxHeartbeats 2000000 in
theorem joins_26 (x : ByteArray) (a : Int) (W : World) (e27 : (x.toList == [124, 124]) = false) (e26 : (x.toList == [38, 38]) = true) : Calls Tryz.prog 120 #[.agg #[.int .i64 4, .string x, .int .i64 a]] W fun e w' => e = .returned (.int .i64 26) ∧ Below W.heap.size W w' := by
 go_enter Tryz.func120, Tryz.ntmps120
 go_wp2
 go_ret
 exact ⟨rfl, by go_grown⟩
set_option maxRecDepth 100000 in
set_option maxHeartbeats 2000000 in
theorem joins_25 (x : ByteArray) (a : Int) (W : World) (e27 : (x.toList == [124, 124]) = false) (e26 : (x.toList == [38, 38]) = false) (e25 : (x.toList == [62, 61]) = true) : Calls Tryz.prog 120 #[.agg #[.int .i64 4, .string x, .int .i64 a]] W fun e w' => e = .returned (.int .i64 25) ∧ Below W.heap.size W w' := by
 go_enter Tryz.func120, Tryz.ntmps120
 go_wp2
 go_ret
 exact ⟨rfl, by go_grown⟩
set_option maxRecDepth 100000 in
set_option maxHeartbeats 2000000 in
theorem joins_24 (x : ByteArray) (a : Int) (W : World) (e27 : (x.toList == [124, 124]) = false) (e26 : (x.toList == [38, 38]) = false) (e25 : (x.toList == [62, 61]) = false) (e24 : (x.toList == [60, 61]) = true) : Calls Tryz.prog 120 #[.agg #[.int .i64 4, .string x, .int .i64 a]] W fun e w' => e = .returned (.int .i64 24) ∧ Below W.heap.size W w' := by
 go_enter Tryz.func120, Tryz.ntmps120
 go_wp2
 go_ret
 exact ⟨rfl, by go_grown⟩
set_option maxRecDepth 100000 in
set_option maxHeartbeats 2000000 in
theorem joins_23 (x : ByteArray) (a : Int) (W : World) (e27 : (x.toList == [124, 124]) = false) (e26 : (x.toList == [38, 38]) = false) (e25 : (x.toList == [62, 61]) = false) (e24 : (x.toList == [60, 61]) = false) (e23 : (x.toList == [62]) = true) : Calls Tryz.prog 120 #[.agg #[.int .i64 4, .string x, .int .i64 a]] W fun e w' => e = .returned (.int .i64 23) ∧ Below W.heap.size W w' := by
 go_enter Tryz.func120, Tryz.ntmps120
 go_wp2
 go_ret
 exact ⟨rfl, by go_grown⟩
set_option maxRecDepth 100000 in
set_option maxHeartbeats 2000000 in
theorem joins_22 (x : ByteArray) (a : Int) (W : World) (e27 : (x.toList == [124, 124]) = false) (e26 : (x.toList == [38, 38]) = false) (e25 : (x.toList == [62, 61]) = false) (e24 : (x.toList == [60, 61]) = false) (e23 : (x.toList == [62]) = false) (e22 : (x.toList == [60]) = true) : Calls Tryz.prog 120 #[.agg #[.int .i64 4, .string x, .int .i64 a]] W fun e w' => e = .returned (.int .i64 22) ∧ Below W.heap.size W w' := by
 go_enter Tryz.func120, Tryz.ntmps120
 go_wp2
 go_ret
 exact ⟨rfl, by go_grown⟩
set_option maxRecDepth 100000 in
set_option maxHeartbeats 2000000 in
theorem joins_21 (x : ByteArray) (a : Int) (W : World) (e27 : (x.toList == [124, 124]) = false) (e26 : (x.toList == [38, 38]) = false) (e25 : (x.toList == [62, 61]) = false) (e24 : (x.toList == [60, 61]) = false) (e23 : (x.toList == [62]) = false) (e22 : (x.toList == [60]) = false) (e21 : (x.toList == [33, 61]) = true) : Calls Tryz.prog 120 #[.agg #[.int .i64 4, .string x, .int .i64 a]] W fun e w' => e = .returned (.int .i64 21) ∧ Below W.heap.size W w' := by
 go_enter Tryz.func120, Tryz.ntmps120
 go_wp2
 go_ret
 exact ⟨rfl, by go_grown⟩
set_option maxRecDepth 100000 in
set_option maxHeartbeats 2000000 in
theorem joins_20 (x : ByteArray) (a : Int) (W : World) (e27 : (x.toList == [124, 124]) = false) (e26 : (x.toList == [38, 38]) = false) (e25 : (x.toList == [62, 61]) = false) (e24 : (x.toList == [60, 61]) = false) (e23 : (x.toList == [62]) = false) (e22 : (x.toList == [60]) = false) (e21 : (x.toList == [33, 61]) = false) (e20 : (x.toList == [61, 61]) = true) : Calls Tryz.prog 120 #[.agg #[.int .i64 4, .string x, .int .i64 a]] W fun e w' => e = .returned (.int .i64 20) ∧ Below W.heap.size W w' := by
 go_enter Tryz.func120, Tryz.ntmps120
 go_wp2
 go_ret
 exact ⟨rfl, by go_grown⟩
set_option maxRecDepth 100000 in
set_option maxHeartbeats 2000000 in
theorem joins_19 (x : ByteArray) (a : Int) (W : World) (e27 : (x.toList == [124, 124]) = false) (e26 : (x.toList == [38, 38]) = false) (e25 : (x.toList == [62, 61]) = false) (e24 : (x.toList == [60, 61]) = false) (e23 : (x.toList == [62]) = false) (e22 : (x.toList == [60]) = false) (e21 : (x.toList == [33, 61]) = false) (e20 : (x.toList == [61, 61]) = false) (e19 : (x.toList == [37]) = true) : Calls Tryz.prog 120 #[.agg #[.int .i64 4, .string x, .int .i64 a]] W fun e w' => e = .returned (.int .i64 19) ∧ Below W.heap.size W w' := by
 go_enter Tryz.func120, Tryz.ntmps120
 go_wp2
 go_ret
 exact ⟨rfl, by go_grown⟩
set_option maxRecDepth 100000 in
set_option maxHeartbeats 2000000 in
theorem joins_18 (x : ByteArray) (a : Int) (W : World) (e27 : (x.toList == [124, 124]) = false) (e26 : (x.toList == [38, 38]) = false) (e25 : (x.toList == [62, 61]) = false) (e24 : (x.toList == [60, 61]) = false) (e23 : (x.toList == [62]) = false) (e22 : (x.toList == [60]) = false) (e21 : (x.toList == [33, 61]) = false) (e20 : (x.toList == [61, 61]) = false) (e19 : (x.toList == [37]) = false) (e18 : (x.toList == [47]) = true) : Calls Tryz.prog 120 #[.agg #[.int .i64 4, .string x, .int .i64 a]] W fun e w' => e = .returned (.int .i64 18) ∧ Below W.heap.size W w' := by
 go_enter Tryz.func120, Tryz.ntmps120
 go_wp2
 go_ret
 exact ⟨rfl, by go_grown⟩
set_option maxRecDepth 100000 in
set_option maxHeartbeats 2000000 in
theorem joins_17 (x : ByteArray) (a : Int) (W : World) (e27 : (x.toList == [124, 124]) = false) (e26 : (x.toList == [38, 38]) = false) (e25 : (x.toList == [62, 61]) = false) (e24 : (x.toList == [60, 61]) = false) (e23 : (x.toList == [62]) = false) (e22 : (x.toList == [60]) = false) (e21 : (x.toList == [33, 61]) = false) (e20 : (x.toList == [61, 61]) = false) (e19 : (x.toList == [37]) = false) (e18 : (x.toList == [47]) = false) (e17 : (x.toList == [42]) = true) : Calls Tryz.prog 120 #[.agg #[.int .i64 4, .string x, .int .i64 a]] W fun e w' => e = .returned (.int .i64 17) ∧ Below W.heap.size W w' := by
 go_enter Tryz.func120, Tryz.ntmps120
 go_wp2
 go_ret
 exact ⟨rfl, by go_grown⟩
set_option maxRecDepth 100000 in
set_option maxHeartbeats 2000000 in
theorem joins_16 (x : ByteArray) (a : Int) (W : World) (e27 : (x.toList == [124, 124]) = false) (e26 : (x.toList == [38, 38]) = false) (e25 : (x.toList == [62, 61]) = false) (e24 : (x.toList == [60, 61]) = false) (e23 : (x.toList == [62]) = false) (e22 : (x.toList == [60]) = false) (e21 : (x.toList == [33, 61]) = false) (e20 : (x.toList == [61, 61]) = false) (e19 : (x.toList == [37]) = false) (e18 : (x.toList == [47]) = false) (e17 : (x.toList == [42]) = false) (e16 : (x.toList == [45]) = true) : Calls Tryz.prog 120 #[.agg #[.int .i64 4, .string x, .int .i64 a]] W fun e w' => e = .returned (.int .i64 16) ∧ Below W.heap.size W w' := by
 go_enter Tryz.func120, Tryz.ntmps120
 go_wp2
 go_ret
 exact ⟨rfl, by go_grown⟩
set_option maxRecDepth 100000 in
set_option maxHeartbeats 2000000 in
theorem joins_15 (x : ByteArray) (a : Int) (W : World) (e27 : (x.toList == [124, 124]) = false) (e26 : (x.toList == [38, 38]) = false) (e25 : (x.toList == [62, 61]) = false) (e24 : (x.toList == [60, 61]) = false) (e23 : (x.toList == [62]) = false) (e22 : (x.toList == [60]) = false) (e21 : (x.toList == [33, 61]) = false) (e20 : (x.toList == [61, 61]) = false) (e19 : (x.toList == [37]) = false) (e18 : (x.toList == [47]) = false) (e17 : (x.toList == [42]) = false) (e16 : (x.toList == [45]) = false) (e15 : (x.toList == [43]) = true) : Calls Tryz.prog 120 #[.agg #[.int .i64 4, .string x, .int .i64 a]] W fun e w' => e = .returned (.int .i64 15) ∧ Below W.heap.size W w' := by
 go_enter Tryz.func120, Tryz.ntmps120
 go_wp2
 go_ret
 exact ⟨rfl, by go_grown⟩
set_option maxRecDepth 100000 in
set_option maxHeartbeats 2000000 in
theorem joins_none (x : ByteArray) (a : Int) (W : World) (e27 : (x.toList == [124, 124]) = false) (e26 : (x.toList == [38, 38]) = false) (e25 : (x.toList == [62, 61]) = false) (e24 : (x.toList == [60, 61]) = false) (e23 : (x.toList == [62]) = false) (e22 : (x.toList == [60]) = false) (e21 : (x.toList == [33, 61]) = false) (e20 : (x.toList == [61, 61]) = false) (e19 : (x.toList == [37]) = false) (e18 : (x.toList == [47]) = false) (e17 : (x.toList == [42]) = false) (e16 : (x.toList == [45]) = false) (e15 : (x.toList == [43]) = false) : Calls Tryz.prog 120 #[.agg #[.int .i64 4, .string x, .int .i64 a]] W fun e w' => e = .returned (.int .i64 0) ∧ Below W.heap.size W w' := by
 go_enter Tryz.func120, Tryz.ntmps120
 go_wp2
 go_ret
 exact ⟨rfl, by go_grown⟩
end Go.Proofs.YtljgggohjigaoaaGreatDoor
namespace Go.Proofs.YtljgggohjigaoaaGreatDoor
open Go.RowKit Go.Shelf
set_option linter.unusedVariables false

theorem word_no (x : ByteArray) (l : List UInt8) (s : ByteArray) (hs : s.toList = l) (h : x ≠ s) : (x.toList == l) = false := by
 rw [← hs, str_beq]
 exact decide_eq_false h
theorem joins_any (t : Tk) (W : World) : Calls Tryz.prog 120 #[tkV t] W fun e w' => e = .returned (.int .i64 (joinsT t)) ∧ Below W.heap.size W w' := by
 by_cases hk : t.k = 4
 ·obtain ⟨k, x, a⟩ := t
  simp only at hk
  subst hk
  by_cases h27 : x = ⟨#[124, 124]⟩
  ·subst h27
   exact joins_27 ⟨#[124, 124]⟩ _ W (by kernel_rfl)
  have e27 := word_no x [124, 124] ⟨#[124, 124]⟩ (by kernel_rfl) h27
  by_cases h26 : x = ⟨#[38, 38]⟩
  ·subst h26
   exact joins_26 ⟨#[38, 38]⟩ _ W (by kernel_rfl) (by kernel_rfl)
  have e26 := word_no x [38, 38] ⟨#[38, 38]⟩ (by kernel_rfl) h26
  by_cases h25 : x = ⟨#[62, 61]⟩
  ·subst h25
   exact joins_25 ⟨#[62, 61]⟩ _ W (by kernel_rfl) (by kernel_rfl) (by kernel_rfl)
  have e25 := word_no x [62, 61] ⟨#[62, 61]⟩ (by kernel_rfl) h25
  by_cases h24 : x = ⟨#[60, 61]⟩
  ·subst h24
   exact joins_24 ⟨#[60, 61]⟩ _ W (by kernel_rfl) (by kernel_rfl) (by kernel_rfl) (by kernel_rfl)
  have e24 := word_no x [60, 61] ⟨#[60, 61]⟩ (by kernel_rfl) h24
  by_cases h23 : x = ⟨#[62]⟩
  ·subst h23
   exact joins_23 ⟨#[62]⟩ _ W (by kernel_rfl) (by kernel_rfl) (by kernel_rfl) (by kernel_rfl) (by kernel_rfl)
  have e23 := word_no x [62] ⟨#[62]⟩ (by kernel_rfl) h23
  by_cases h22 : x = ⟨#[60]⟩
  ·subst h22
   exact joins_22 ⟨#[60]⟩ _ W (by kernel_rfl) (by kernel_rfl) (by kernel_rfl) (by kernel_rfl) (by kernel_rfl) (by kernel_rfl)
  have e22 := word_no x [60] ⟨#[60]⟩ (by kernel_rfl) h22
  by_cases h21 : x = ⟨#[33, 61]⟩
  ·subst h21
   exact joins_21 ⟨#[33, 61]⟩ _ W (by kernel_rfl) (by kernel_rfl) (by kernel_rfl) (by kernel_rfl) (by kernel_rfl) (by kernel_rfl) (by kernel_rfl)
  have e21 := word_no x [33, 61] ⟨#[33, 61]⟩ (by kernel_rfl) h21
  by_cases h20 : x = ⟨#[61, 61]⟩
  ·subst h20
   exact joins_20 ⟨#[61, 61]⟩ _ W (by kernel_rfl) (by kernel_rfl) (by kernel_rfl) (by kernel_rfl) (by kernel_rfl) (by kernel_rfl) (by kernel_rfl) (by kernel_rfl)
  have e20 := word_no x [61, 61] ⟨#[61, 61]⟩ (by kernel_rfl) h20
  by_cases h19 : x = ⟨#[37]⟩
  ·subst h19
   exact joins_19 ⟨#[37]⟩ _ W (by kernel_rfl) (by kernel_rfl) (by kernel_rfl) (by kernel_rfl) (by kernel_rfl) (by kernel_rfl) (by kernel_rfl) (by kernel_rfl) (by kernel_rfl)
  have e19 := word_no x [37] ⟨#[37]⟩ (by kernel_rfl) h19
  by_cases h18 : x = ⟨#[47]⟩
  ·subst h18
   exact joins_18 ⟨#[47]⟩ _ W (by kernel_rfl) (by kernel_rfl) (by kernel_rfl) (by kernel_rfl) (by kernel_rfl) (by kernel_rfl) (by kernel_rfl) (by kernel_rfl) (by kernel_rfl) (by kernel_rfl)
  have e18 := word_no x [47] ⟨#[47]⟩ (by kernel_rfl) h18
  by_cases h17 : x = ⟨#[42]⟩
  ·subst h17
   exact joins_17 ⟨#[42]⟩ _ W (by kernel_rfl) (by kernel_rfl) (by kernel_rfl) (by kernel_rfl) (by kernel_rfl) (by kernel_rfl) (by kernel_rfl) (by kernel_rfl) (by kernel_rfl) (by kernel_rfl) (by kernel_rfl)
  have e17 := word_no x [42] ⟨#[42]⟩ (by kernel_rfl) h17
  by_cases h16 : x = ⟨#[45]⟩
  ·subst h16
   exact joins_16 ⟨#[45]⟩ _ W (by kernel_rfl) (by kernel_rfl) (by kernel_rfl) (by kernel_rfl) (by kernel_rfl) (by kernel_rfl) (by kernel_rfl) (by kernel_rfl) (by kernel_rfl) (by kernel_rfl) (by kernel_rfl) (by kernel_rfl)
  have e16 := word_no x [45] ⟨#[45]⟩ (by kernel_rfl) h16
  by_cases h15 : x = ⟨#[43]⟩
  ·subst h15
   exact joins_15 ⟨#[43]⟩ _ W (by kernel_rfl) (by kernel_rfl) (by kernel_rfl) (by kernel_rfl) (by kernel_rfl) (by kernel_rfl) (by kernel_rfl) (by kernel_rfl) (by kernel_rfl) (by kernel_rfl) (by kernel_rfl) (by kernel_rfl) (by kernel_rfl)
  have e15 := word_no x [43] ⟨#[43]⟩ (by kernel_rfl) h15
  have hJ : joinsT ⟨4, x, a⟩ = 0 := by
   unfold joinsT wb
   simp only [h15, h16, h17, h18, h19, h20, h21, h22, h23, h24, h25, h26, h27, if_false, ne_eq, not_true_eq_false]
  rw [hJ]
  exact joins_none x _ W e27 e26 e25 e24 e23 e22 e21 e20 e19 e18 e17 e16 e15
 ·exact joins_other t hk W
end Go.Proofs.YtljgggohjigaoaaGreatDoor
namespace Go.Proofs.YtljgggohjigaoaaGreatDoor
set_option linter.unusedVariables false

/-- What a token may become. -/
def wt (t : Tk) : Nat := if t.k = 0 then 0 else if t.k = 3 ∧ aheadL t.x.data.toList < t.x.data.toList.length then t.x.size + 2 else 1
def wts (l : List Tk) : Nat := (l.map wt).sum
def pot (s : Ps) : Nat := s.f.exprs.length + s.f.blocks.length + wts s.toks
/-- Ends are empty; what stands in a text's insertions weighs no more than its bytes, d levels deep. -/
def Snd : Nat → List Tk → Prop
 | 0, l => ∀ t ∈ l, t.k = 0 → t.x = ⟨#[]⟩
 | d + 1, l => (∀ t ∈ l, t.k = 0 → t.x = ⟨#[]⟩) ∧ ∀ t ∈ l, t.k = 3 → ∀ R, R <:+ t.x.data.toList → ∀ b e, insL R = some (b, e) → b < e → ∀ (q : List Tk) (at_ : Nat),
   scanL (bA ((((R.take e).drop b).drop 2).take (((R.take e).drop b).length - 3))) = .ok q → wts q ≤ e - b - 1 ∧ Snd d ((q ++ [endT (bA ((((R.take e).drop b).drop 2).take (((R.take e).drop b).length - 3))).size]).map (shiftT (at_ + 2)))
theorem wts_append (a b : List Tk) : wts (a ++ b) = wts a + wts b := by unfold wts; simp
theorem wts_sfx {a b : List Tk} (h : a <:+ b) : wts a ≤ wts b := by
 obtain ⟨p, rfl⟩ := h
 rw [wts_append]; omega
theorem wts_shift (d : Nat) (l : List Tk) : wts (l.map (shiftT d)) = wts l := by
 unfold wts; rw [List.map_map]; rfl
theorem Snd.ends {d : Nat} {l : List Tk} (h : Snd d l) : ∀ t ∈ l, t.k = 0 → t.x = ⟨#[]⟩ := by
 cases d with
 | zero => exact h
 | succ d => exact h.1
theorem Snd.sfx {d : Nat} {l l' : List Tk} (h : Snd d l) (hs : l' <:+ l) : Snd d l' := by
 cases d with
 | zero => exact fun t ht => h t (hs.subset ht)
 | succ d => exact ⟨fun t ht => h.1 t (hs.subset ht), fun t ht => h.2 t (hs.subset ht)⟩
theorem Snd.down : ∀ {d : Nat} {l : List Tk}, Snd (d + 1) l → Snd d l
 | 0, l, h => h.1
 | d + 1, l, h => ⟨h.1, fun t ht hk R hR b e hi hb q at_ hq => by
   obtain ⟨h1, h2⟩ := h.2 t ht hk R hR b e hi hb q at_ hq
   exact ⟨h1, h2.down⟩⟩
theorem peekL_sfx (o : Bool) (l : List Tk) : peekL o l <:+ l := by
 unfold peekL
 split
 ·exact List.dropWhile_suffix _
 ·exact List.suffix_refl _
/-- How a reader ends: what is ahead is the end of what was; c less has come than gone. -/
def Res {α : Type} (c : Int) (s : Ps) (r : PR α) : Prop := ∀ a s', r = .ok (a, s') → s'.toks <:+ s.toks ∧ (pot s' : Int) + c ≤ pot s
def Dec {α : Type} (d : Nat) (c : Int) (M : PM α) : Prop := ∀ s, Snd d s.toks → Res c s (M s)
section
variable {α β : Type} {c e : Int} {s : Ps} {d : Nat}
theorem Res.err (x : Bd) : Res c s (.error x : PR α) := fun a s' h => by cases h
theorem Res.none : Res c s (noneE : PR α) := fun a s' h => by cases h
theorem Res.ok {a : α} {s' : Ps} (h1 : s'.toks <:+ s.toks) (h2 : (pot s' : Int) + c ≤ pot s) : Res c s (.ok (a, s')) := fun a s' h => by
 cases h
 exact ⟨h1, h2⟩
theorem Res.mono {r : PR α} (h : Res c s r) (he : e ≤ c) : Res e s r := fun a s' hr => by
 obtain ⟨h1, h2⟩ := h a s' hr
 exact ⟨h1, by omega⟩
theorem pot_peek (s : Ps) : pot (peekS s) ≤ pot s := by
 have := wts_sfx (peekL_sfx s.over s.toks)
 unfold pot peekS
 simp only
 omega
theorem pot_take (s : Ps) : pot (takeS s) + wt (next s) ≤ pot s := by
 have h := wts_sfx (peekL_sfx s.over s.toks)
 unfold pot takeS next
 simp only
 cases hp : peekL s.over s.toks with
 | nil => rw [hp] at h; simp [headT, noTk, wt, wts] at h ⊢
 | cons t r =>
  rw [hp] at h
  have : wts (t :: r) = wt t + wts r := by unfold wts; simp
  simp only [headT, List.headD_cons, List.drop_succ_cons, List.drop_zero]
  omega
theorem take_sfx (s : Ps) : (takeS s).toks <:+ s.toks := (List.drop_suffix _ _).trans (peekL_sfx s.over s.toks)
theorem peek_sfx (s : Ps) : (peekS s).toks <:+ s.toks := peekL_sfx s.over s.toks
theorem next_mem (s : Ps) : next s ∈ s.toks ∨ next s = noTk := by
 unfold next headT
 cases hp : peekL s.over s.toks with
 | nil => exact .inr rfl
 | cons t r => exact .inl ((peekL_sfx s.over s.toks).subset (by rw [hp]; exact List.mem_cons_self))
theorem next_end {s : Ps} (h : Snd d s.toks) (hk : (next s).k = 0) : (next s).x = ⟨#[]⟩ := by
 rcases next_mem s with h1 | h1
 ·exact h.ends _ h1 hk
 ·rw [h1]; rfl
theorem wt_pos {t : Tk} (h : t.k ≠ 0) : 1 ≤ wt t := by
 unfold wt
 rw [if_neg h]
 split <;> omega
theorem isW_wt {w : ByteArray} (hw : w ≠ ⟨#[]⟩) (h : Snd d s.toks) (hi : isW w (next s) = true) : 1 ≤ wt (next s) := by
 refine wt_pos fun hk => hw ?_
 unfold isW at hi
 simp only [Bool.and_eq_true, decide_eq_true_eq] at hi
 rw [← hi.2]
 exact next_end h hk
theorem Res.take {r : PR α} {n : Nat} (hn : n ≤ wt (next s)) (h : Res c (takeS s) r) : Res (c + n) s r := fun a s' hr => by
 obtain ⟨h1, h2⟩ := h a s' hr
 have := pot_take s
 exact ⟨h1.trans (take_sfx s), by omega⟩
theorem Res.peek {r : PR α} (h : Res c (peekS s) r) : Res c s r := fun a s' hr => by
 obtain ⟨h1, h2⟩ := h a s' hr
 have := pot_peek s
 exact ⟨h1.trans (peek_sfx s), by omega⟩
theorem Res.over {r : PR α} {o : Bool} (h : Res c { s with over := o } r) : Res c s r := h
theorem Res.bind {m : PM α} {k : α → PM β} (hS : Snd d s.toks) (h : Res c s (m s)) (hk : ∀ a s', m s = .ok (a, s') → Snd d s'.toks → Res e s' (k a s')) : Res (c + e) s (bindP m k s) := fun b s'' hr => by
 unfold bindP at hr
 cases hm : m s with
 | error x => rw [hm] at hr; cases hr
 | ok y =>
  obtain ⟨a, s'⟩ := y
  rw [hm] at hr
  obtain ⟨h1, h2⟩ := h a s' hm
  obtain ⟨h3, h4⟩ := hk a s' hm (hS.sfx h1) b s'' hr
  exact ⟨h3.trans h1, by omega⟩
theorem Dec.bind {m : PM α} {k : α → PM β} (h : Dec d c m) (hk : ∀ a, Dec d e (k a)) : Dec d (c + e) (bindP m k) := fun s hS => Res.bind hS (h s hS) fun a s' _ hS' => hk a s' hS'
theorem Dec.mono {m : PM α} (h : Dec d c m) (he : e ≤ c) : Dec d e m := fun s hS => (h s hS).mono he
theorem Dec.pure {a : α} : Dec d 0 (fun s => .ok (a, s)) := fun s _ => Res.ok (List.suffix_refl _) (by omega)
theorem Dec.want {w : ByteArray} (hw : w ≠ ⟨#[]⟩) : Dec d 1 (wantM w) := fun s hS => by
 unfold wantM
 cases hi : isW w (next s) with
 | true => exact Res.ok (take_sfx s) (by have := pot_take s; have := isW_wt hw hS hi; omega)
 | false => exact Res.err _
theorem Dec.kind {k : Int} (hk : k ≠ 0) : Dec d 1 (kindM k) := fun s hS => by
 unfold kindM
 split
 ·rename_i hi
  exact Res.ok (take_sfx s) (by have := pot_take s; have := wt_pos (t := next s) (by rw [hi]; exact hk); omega)
 ·exact Res.err _
theorem Dec.kind0 {k : Int} : Dec d 0 (kindM k) := fun s hS => by
 unfold kindM
 split
 ·exact Res.ok (take_sfx s) (by have := pot_take s; omega)
 ·exact Res.err _
theorem Dec.skip {w : ByteArray} : Dec d 0 (skipM w) := fun s hS => by
 unfold skipM
 split
 ·exact Res.ok (take_sfx s) (by have := pot_take s; omega)
 ·exact Res.ok (peek_sfx s) (by have := pot_peek s; omega)
theorem linesL_sfx (o : Bool) (l : List Tk) : (linesL o l).2 <:+ l := by
 unfold linesL
 simp only
 split
 ·exact (List.dropWhile_suffix _).trans (peekL_sfx o l)
 ·exact peekL_sfx o l
theorem Dec.lines : Dec d 0 linesM := fun s hS => by
 unfold linesM
 refine Res.ok (linesL_sfx _ _) ?_
 have := wts_sfx (linesL_sfx s.over s.toks)
 unfold pot
 simp only
 omega
theorem Dec.add (x : Ex) : Dec d (-1) (addM x) := fun s hS => by
 unfold addM
 refine Res.ok (List.suffix_refl _) ?_
 unfold pot
 simp only [List.length_append, List.length_cons, List.length_nil]
 omega
theorem Dec.addBl (x : Bl) : Dec d (-1) (addB x) := fun s hS => by
 unfold addB
 refine Res.ok (List.suffix_refl _) ?_
 unfold pot
 simp only [List.length_append, List.length_cons, List.length_nil]
 omega
theorem Dec.deeper {nx : Sub} {at_ : Nat} {f : PM Nat × PM Nat → PM α} (h : ∀ p, nx = some p → Dec d c (f p)) : Dec d c (deeperM nx at_ f) := fun s hS => by
 unfold deeperM
 cases nx with
 | none => exact Res.err _
 | some p => exact h p rfl s hS
theorem Dec.between {nx : Sub} {b en : ByteArray} {o : Bool} {f : PM Nat × PM Nat → PM α} (hb : b ≠ ⟨#[]⟩) (h : ∀ p, nx = some p → Dec d 0 (f p)) : Dec d 1 (betweenM b en o nx f) := by
 unfold betweenM
 refine (Dec.bind (e := 0) (Dec.want hb) fun t => Dec.deeper fun p hp s hS => ?_).mono (by omega)
 intro a s' hr
 cases h1 : f p { s with over := o } with
 | error x => rw [h1] at hr; cases hr
 | ok y =>
  obtain ⟨a2, s2⟩ := y
  rw [h1] at hr
  obtain ⟨h2, h3⟩ := h p hp { s with over := o } hS a2 s2 h1
  have hw := (Dec.kind0 (d := d) (k := 0) s2)
  simp only at hr
  cases h4 : wantM en s2 with
  | error x => rw [h4] at hr; cases hr
  | ok y =>
   obtain ⟨t3, s3⟩ := y
   rw [h4] at hr
   cases hr
   have h5 : s3 = takeS s2 := by
    unfold wantM at h4
    split at h4
    ·cases h4; rfl
    ·cases h4
   have := pot_take s2
   subst h5
   refine ⟨(take_sfx s2).trans h2, ?_⟩
   have e1 : pot { takeS s2 with over := s.over } = pot (takeS s2) := rfl
   have e2 : pot { s with over := o } = pot s := rfl
   rw [e1]; rw [e2] at h3
   omega
theorem Dec.plain : Dec d 0 plainM := fun s hS => by
 unfold plainM
 simp only
 cases insL (next s).x.data.toList with
 | none => exact Res.none
 | some y =>
  obtain ⟨b, q⟩ := y
  simp only
  split
  ·exact Res.err _
  ·cases saidL (next s).x.data.toList with
   | none => exact Res.none
   | some t => exact Res.ok (take_sfx s) (by have := pot_take s; omega)
/-- What is read one level deeper, and within an insertion. -/
structure SubOk (d : Nat) (nx : Sub) : Prop where
 expr : ∀ p, nx = some p → Dec d 0 p.1
 sign : ∀ p, nx = some p → Dec d 0 p.2
 ins : ∀ p, nx = some p → ∃ d', d = d' + 1 ∧ Dec d' 0 p.1
theorem brace_lt : ∀ (n : Nat) (R r : List UInt8), (braceS n R = some r → r.length < R.length) ∧ (quoteS n R = some r → r.length < R.length) := by
 intro n
 induction n with
 | zero => intro R r; exact ⟨fun h => by simp [braceS] at h, fun h => by simp [quoteS] at h⟩
 | succ n ih =>
  intro R r
  cases R with
  | nil => exact ⟨fun h => by simp [braceS] at h, fun h => by simp [quoteS] at h⟩
  | cons c l =>
   refine ⟨fun h => ?_, fun h => ?_⟩
   ·unfold braceS at h
    simp only at h
    split at h
    ·cases h; simp
    ·split at h
     ·cases hb : braceS n l with
      | none => rw [hb] at h; cases h
      | some r' =>
       rw [hb] at h
       have h1 := (ih l r').1 hb
       have h2 := (ih r' r).1 h
       simp only [List.length_cons]; omega
     ·split at h
      ·cases hb : quoteS n l with
       | none => rw [hb] at h; cases h
       | some r' =>
        rw [hb] at h
        have h1 := (ih l r').2 hb
        have h2 := (ih r' r).1 h
        simp only [List.length_cons]; omega
      ·have h2 := (ih l r).1 h
       simp only [List.length_cons]; omega
   ·unfold quoteS at h
    simp only at h
    split at h
    ·cases h; simp
    ·split at h
     ·have h2 := (ih (l.drop 1) r).2 h
      simp only [List.length_drop] at h2
      simp only [List.length_cons]; omega
     ·split at h
      ·cases hb : braceS n (l.drop 1) with
       | none => rw [hb] at h; cases h
       | some r' =>
        rw [hb] at h
        have h1 := (ih (l.drop 1) r').1 hb
        have h2 := (ih r' r).2 h
        simp only [List.length_drop] at h1
        simp only [List.length_cons]; omega
      ·have h2 := (ih l r).2 h
       simp only [List.length_cons]; omega
theorem insL_le {R : List UInt8} {b q : Nat} (h : insL R = some (b, q)) (hR : R ≠ []) : 1 ≤ q ∧ q ≤ R.length := by
 have hl : 0 < R.length := List.length_pos_iff.2 hR
 unfold insL at h
 split at h
 ·cases hb : braceS (R.length + 1) (R.drop (aheadL R + 2)) with
  | none => rw [hb] at h; cases h
  | some r =>
   rw [hb] at h
   cases h
   have := (brace_lt _ _ _).1 hb
   simp only [List.length_drop] at this
   omega
 ·cases h
  omega
theorem inserted_res {nx : Sub} {R : List UInt8} {at_ K : Nat} (hx : ∀ p, nx = some p → ∃ d', Dec d' 0 p.1 ∧ ∀ q, scanL (bA ((R.drop 2).take (R.length - 3))) = .ok q → wts q ≤ K ∧ Snd d' ((q ++ [endT (bA ((R.drop 2).take (R.length - 3))).size]).map (shiftT (at_ + 2)))) : Res (-(K : Int)) s (insertedM nx R at_ s) := by
 unfold insertedM deeperM
 cases nx with
 | none => exact Res.err _
 | some p =>
  obtain ⟨d', hD, hq⟩ := hx p rfl
  simp only
  cases hs : scanL (bA ((R.drop 2).take (R.length - 3))) with
  | error x => exact Res.err _
  | ok q =>
   obtain ⟨h1, h2⟩ := hq q hs
   simp only
   have hB := Dec.bind (e := 0) hD (k := fun i => bindP (kindM 0) fun _ s' => .ok (i, s')) (fun i => (Dec.bind (e := 0) (Dec.kind0 (k := 0)) fun _ => Dec.pure).mono (by omega))
   have hr := hB (⟨(q ++ [endT (bA ((R.drop 2).take (R.length - 3))).size]).map (shiftT (at_ + 2)), false, s.f⟩ : Ps) h2
   intro a s' h
   cases hm : bindP p.1 (fun i => bindP (kindM 0) fun _ s' => .ok (i, s')) (⟨(q ++ [endT (bA ((R.drop 2).take (R.length - 3))).size]).map (shiftT (at_ + 2)), false, s.f⟩ : Ps) with
   | error x => rw [hm] at h; cases h
   | ok y =>
    obtain ⟨i, s2⟩ := y
    rw [hm] at h
    obtain ⟨h3, h4⟩ := hr i s2 hm
    cases h
    refine ⟨List.suffix_refl _, ?_⟩
    unfold pot at h4 ⊢
    simp only [wts_shift, wts_append] at h4 ⊢
    have : wts [endT (bA ((R.drop 2).take (R.length - 3))).size] = 0 := by simp [wts, wt, endT]
    omega
end
end Go.Proofs.YtljgggohjigaoaaGreatDoor
