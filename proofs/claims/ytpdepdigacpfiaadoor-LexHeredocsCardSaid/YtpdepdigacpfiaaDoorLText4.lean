/- skipBraces and quoted, whole. -/
import Derived.Test.YtpdepdigacpfiaaDoorLText3
namespace Go.Proofs.YtpdepdigacpfiaaDoor
open Go.RowKit Go.Shelf
set_option linter.unusedVariables false

set_option maxRecDepth 100000 in
set_option maxHeartbeats 4000000 in
theorem brace_deep {W : World} {P a : Nat} {t : ByteArray} (h : Scn W P t a) : Calls Tryd.prog 49 #[.pointer (some ⟨P, 0, none⟩), .int .i64 25] W (REnds W P t (braceL 0 (rest t a))) := by
  have HS0 := Lib.hid (h.stays (caught_new h 25).1)
  go_enter Tryd.func49, Tryd.ntmps49
  go_wp2
  go_ret
  exact ⟨a, HS0.out, .inr ⟨7, rfl, rfl⟩⟩
set_option maxRecDepth 100000 in
set_option maxHeartbeats 4000000 in
theorem brace_step {W : World} {P a n : Nat} {t : ByteArray} {d : Int} (h : Scn W P t a) (h1 : Lib.hasPrefix (rest t a) [123] = true) (hd : 0 ≤ d ∧ d ≤ 24)
    (hb : ∀ W c, Scn W P t c → Lib.hasPrefix (rest t c) [123] = true → Calls Tryd.prog 49 #[.pointer (some ⟨P, 0, none⟩), .int .i64 (d + 1)] W (REnds W P t (braceL n (rest t c)))) :
    Calls Tryd.prog 49 #[.pointer (some ⟨P, 0, none⟩), .int .i64 d] W (REnds W P t (braceL (n + 1) (rest t a))) := by
  have hmf := hmf
  obtain ⟨hb0, hc0⟩ := caught_new h d
  have HB0 := Lib.hid hb0
  have HC0 := Lib.hid hc0
  have HK := Lib.hid (fun (w : World) (hs : Scn w P t a) => skip_yes hs ⟨#[123]⟩ h1)
  have hon := braceL_on n
  have HT := Lib.hid (fun (w : World) (hs : Scn w P t (a + 1)) (hc : Caught w P W.heap.size (W.heap.size + 1) d) => skipTo_any (lb := #[.pointer (some ⟨W.heap.size, 0, none⟩), .pointer (some ⟨W.heap.size + 1, 0, none⟩)]) (part := bracePart (braceL n) (textL (braceL n))) hs ⟨enters_of Tryd.func62 (by kernel_rfl) rfl, fun w' c ha hs' => brace_part hs' (hc.aside ha) hd hb (fun w2 c2 hs2 h2 => text_read hs2 h2 hd hon hb)⟩ (bracePart_on hon (textL_on hon)) 125)
  have e0 : braceL (n + 1) (rest t a) = toEndA (bracePart (braceL n) (textL (braceL n))) 125 (rest t (a + 1)) := by rw [← rest_add]; rfl
  rw [e0]
  have HS := Lib.hid (h.below hb0)
  have HS0 := Lib.hid (h.stays hb0)
  have k0 := hc0.one.cell 0
  have k9 := hc0.two.cell 0
  obtain ⟨d0, d1⟩ := hd
  have d2 : ¬ 24 < d := by omega
  clear h h1 hb hb0 hc0 e0 hon
  go_enter Tryd.func49, Tryd.ntmps49
  go_wp2_with fail
  go_at_call 37; refine (HK.out _ HS.out).mono ?_; rintro e w1 ⟨rfl, hw1⟩
  have HW1 := Lib.hid (HS0.out.trans hw1)
  have HC1 := Lib.hid (HC0.out.aside hw1.1)
  have k1 := HC1.out.one.cell 0
  clear hw1 k0 k9 HK
  go_wp2_with fail
  go_at_call 46; refine (HT.out _ HW1.out.2 HC1.out).mono ?_; rintro e w4 ⟨b2, hw4, hx⟩
  have HW4 := Lib.hid (HW1.out.trans hw4)
  clear hw4
  rcases hx with ⟨R', he, rfl, hr⟩ | ⟨c, he, rfl⟩
  · have HX := Lib.hid he
    have HY := Lib.hid hr
    clear he hr
    go_wp2
    go_ret
    exact ⟨b2, HW4.out, .inl ⟨R', HX.out, rfl, HY.out⟩⟩
  · have HX := Lib.hid he
    clear he
    go_wp2
    go_ret
    exact ⟨b2, HW4.out, .inr ⟨c, HX.out, rfl⟩⟩
theorem brace_read {P : Nat} {t : ByteArray} : ∀ (n : Nat) (d : Int), d + (n : Int) = 25 → 0 ≤ d → ∀ W a, Scn W P t a → Lib.hasPrefix (rest t a) [123] = true → Calls Tryd.prog 49 #[.pointer (some ⟨P, 0, none⟩), .int .i64 d] W (REnds W P t (braceL n (rest t a)))
  | 0, d, hd, h0, W, a, hs, h1 => by
    obtain rfl : d = 25 := by omega
    exact brace_deep hs
  | n + 1, d, hd, h0, W, a, hs, h1 => brace_step hs h1 ⟨h0, by omega⟩ (brace_read n (d + 1) (by omega) (by omega))

/-- A text in quotes: what stands between, and what is left. -/
def quotedL (R : List UInt8) : Except Int (List UInt8 × List UInt8) := match textL (braceL 24) R with
  | .ok R' => .ok ((R.drop 1).take (R.length - R'.length - 2), R')
  | .error c => .error c
/-- How a token's reader ends. -/
def TEnds (W : World) (P : Nat) (t : ByteArray) (r : Except Int (List UInt8 × List UInt8)) (e : Ending) (w' : World) : Prop :=
  ∃ b, Went W w' P t b ∧ ((∃ x R' s, r = .ok (x, R') ∧ e = .returned (.tuple #[.string s, .int .i64 0]) ∧ s.data.toList = x ∧ rest t b = R') ∨ (∃ c, r = .error c ∧ e = .returned (.tuple #[.string ⟨#[]⟩, .int .i64 c])))
set_option maxRecDepth 100000 in
set_option maxHeartbeats 4000000 in
theorem quoted_any {W : World} {P a : Nat} {t : ByteArray} (h : Scn W P t a) (h1 : Lib.hasPrefix (rest t a) [34] = true) : Calls Tryd.prog 24 #[.pointer (some ⟨P, 0, none⟩)] W (TEnds W P t (quotedL (rest t a))) := by
  have hon := braceL_on 24
  have HT := Lib.hid (text_read (d := 0) h h1 (by decide) hon (fun w c hs hp => brace_read 24 1 (by decide) (by decide) w c hs hp))
  have HS := Lib.hid h
  have hsz := h.2
  have hle := prefix_drop h1
  rw [rest_length] at hle
  simp only [List.length_cons, List.length_nil] at hle
  have hlo := textL_on hon (rest t a)
  unfold quotedL
  have c1 := h.1.cell 1
  cases hr : textL (braceL 24) (rest t a) with
  | error c =>
    have hc := hlo.2 c hr
    rw [hr] at HT
    have hc0 : (c == 0) = false := beq_eq_false_iff_ne.2 (by omega)
    have hc1 : (c != 0) = true := by simp only [bne, hc0]; rfl
    clear hr h hlo h1 hon
    replace HT := Lib.hid (HT.out.mono fun _ _ h => h.isErr)
    go_enter Tryd.func24, Tryd.ntmps24
    go_wp2_with (go_at_call 38; refine HT.out.mono ?_; rintro e w1 ⟨rfl, b, hw1⟩)
    go_ret2
    exact ⟨b, hw1, .inr ⟨c, rfl, rfl⟩⟩
  | ok R' =>
    have hless := (toEnd_on (textPart_on hon) (q := 34) (((rest t a).drop 1).length + 1) ((rest t a).drop 1)).1 R' hr
    rw [hr] at HT
    rw [List.length_drop, rest_length] at hless
    clear hr h hlo h1 hon
    replace HT := Lib.hid (HT.out.mono fun _ _ h => h.isOk)
    go_enter Tryd.func24, Tryd.ntmps24
    go_wp2_with fail
    go_at_call 38; refine HT.out.mono ?_; rintro e w1 ⟨rfl, b, hw1, hrb⟩
    have HS1 := Lib.hid hw1.2
    have HW1 := Lib.hid hw1
    have hbl : t.size - b = R'.length := by rw [← hrb, rest_length]
    have hbs := hw1.2.2.1
    have HRB := Lib.hid hrb
    have hab : a + 2 ≤ b := by omega
    have HBL := Lib.hid hbl
    clear hw1 hrb c1 HT hless hle hbl
    have c0 := HS1.out.1.cell 0
    have c1 := HS1.out.1.cell 1
    have i0 : IntKind.i64.wrap ((a : Int) + 1) = (a : Int) + 1 := IntWalk.i64_in _ (by omega)
    have i1 : IntKind.i64.wrap ((b : Int) - 1) = (b : Int) - 1 := IntWalk.i64_in _ (by omega)
    have i2 : (0 : Int) ≤ (a : Int) + 1 := by omega
    have i3 : (a : Int) + 1 ≤ (b : Int) - 1 := by omega
    have i4 : (b : Int) - 1 ≤ (t.size : Int) := by omega
    have i5 : ((a : Int) + 1).toNat = a + 1 := by omega
    have i6 : ((b : Int) - 1).toNat = b - 1 := by omega
    have i7 : (1 : Int) ≤ (b : Int) := by omega
    go_wp2_with fail
    go_quiet (fail)
    clear i0 i1 i2 i3 i4 i5 i6 i7
    go_wp2
    go_ret2
    refine ⟨b, HW1.out.trans (HS1.out.stays (below_drewN _ _)), .inl ⟨_, R', _, rfl, rfl, ?_, HRB.out⟩⟩
    rw [Lib.extract_data]
    have h2 : ∀ n, (t.data.toList.drop (a + 1)).take n = ((rest t a).drop 1).take n := fun n => by rw [rest_add]; rfl
    rw [h2, rest_length]
    congr 1
    have := HBL.out
    omega
end Go.Proofs.YtpdepdigacpfiaaDoor
