/- Texts and braces read. -/
import Derived.Test.YtpdepdigacpfiaaDoorLText2
namespace Go.Proofs.YtpdepdigacpfiaaDoor
open Go.RowKit Go.Shelf
set_option linter.unusedVariables false

set_option maxRecDepth 100000 in
set_option maxHeartbeats 4000000 in
theorem braceRun {W : World} {P Q1 Q2 a : Nat} {t : ByteArray} {d : Int} {b tx : List UInt8 → Left} (h : Scn W P t a) (hc : Caught W P Q1 Q2 d) (h1 : Lib.hasPrefix (rest t a) [123] = false) (h2 : Lib.hasPrefix (rest t a) [34] = false) :
    Calls Tryd.prog 62 #[.pointer (some ⟨Q1, 0, none⟩), .pointer (some ⟨Q2, 0, none⟩)] W (REnds W P t (bracePart b tx (rest t a))) := by
  have e0 : bracePart b tx (rest t a) = runL [123, 125, 34, 10] (rest t a) := by unfold bracePart; rw [if_neg (by rw [h1]; decide), if_neg (by rw [h2]; decide)]
  rw [e0]
  have HA := Lib.hid (fun (w : World) (hs : Scn w P t a) => has_any hs ⟨#[123]⟩)
  have HB := Lib.hid (fun (w : World) (hs : Scn w P t a) => has_any hs ⟨#[34]⟩)
  simp only [h1] at HA
  simp only [h2] at HB
  have HN := Lib.hid (fun w => noneOf_any asc5 (by decide) w)
  have HT := Lib.hid (fun (w : World) (hs : Scn w P t a) (g : Nat) (lb : Array Value) (hg : Says g lb (outP ⟨#[123, 125, 34, 10]⟩) w) => takeRun (q := [123, 125, 34, 10]) rfl asc5 hs hg)
  have HS := Lib.hid h
  have HC := Lib.hid hc
  have k0 := hc.one.cell 0
  clear h hc h1 h2 e0
  go_enter Tryd.func62, Tryd.ntmps62
  go_wp2_with fail
  go_at_call 25; refine (HA.out _ HS.out).mono ?_; rintro e w1 ⟨rfl, hb1⟩
  have HS1 := Lib.hid (HS.out.below hb1)
  have HW1 := Lib.hid (HS.out.stays hb1)
  have k1 := (HC.out.aside HW1.out.1).one.cell 0
  clear hb1 k0 HA
  go_wp2_with fail
  go_at_call 25; refine (HB.out _ HS1.out).mono ?_; rintro e w2 ⟨rfl, hb2⟩
  have HS2 := Lib.hid (HS1.out.below hb2)
  have HW2 := Lib.hid (HW1.out.trans (HS1.out.stays hb2))
  have k2 := (HC.out.aside HW2.out.1).one.cell 0
  clear hb2 k1 HB
  by_cases hlt : ((rest t a).dropWhile (notIn [123, 125, 34, 10])).length < (rest t a).length
  all_goals
    have HL := Lib.hid hlt
    first | (have hdl : decide (¬ ((rest t a).dropWhile (notIn [123, 125, 34, 10])).length < (rest t a).length) = false := decide_eq_false (fun h => h hlt)) | (have hdl : decide (¬ ((rest t a).dropWhile (notIn [123, 125, 34, 10])).length < (rest t a).length) = true := decide_eq_true hlt)
    rw [hdl] at HT
    clear hlt hdl
    go_wp2_with fail
    go_region_law (first
      | (go_simp; go_at_call 35; refine (HN.out _).mono ?_; rintro e w4 ⟨⟨lb, rfl, hsay⟩, hb4⟩; have HS4 := Lib.hid ((HS2.out.below (Below.refl _ w2).drew).below hb4); have k4 := cells_keep hb4 k2)
      | (go_simp; go_at_call 20; refine (HT.out _ HS4.out _ _ hsay).mono ?_; rintro e w5 ⟨x, b5, rfl, hw5, hr5, hx5⟩; have k5 := ((HC.out.aside HW2.out.1).aside (HS2.out.stays (((Below.refl _ w2).drew).trans hb4)).1 |>.aside hw5.1).one.cell 0; have HW5 := Lib.hid ((HW2.out.trans (HS2.out.stays (((Below.refl _ w2).drew).trans hb4))).trans hw5); have HR5 := Lib.hid hr5; clear hr5))
    all_goals
      clear hsay hb4 hw5
      go_wp2
      go_ret
      first
        | exact ⟨b5, HW5.out, .inl ⟨_, runL_ok HL.out, rfl, HR5.out⟩⟩
        | exact ⟨b5, HW5.out, .inr ⟨40, runL_err HL.out, rfl⟩⟩

set_option maxRecDepth 100000 in
set_option maxHeartbeats 4000000 in
theorem braceIn {W : World} {P Q1 Q2 a : Nat} {t : ByteArray} {d : Int} {b tx : List UInt8 → Left} (h : Scn W P t a) (hc : Caught W P Q1 Q2 d) (h1 : Lib.hasPrefix (rest t a) [123] = true) (hd : 0 ≤ d ∧ d ≤ 24)
    (hb : ∀ W c, Scn W P t c → Lib.hasPrefix (rest t c) [123] = true → Calls Tryd.prog 49 #[.pointer (some ⟨P, 0, none⟩), .int .i64 (d + 1)] W (REnds W P t (b (rest t c)))) :
    Calls Tryd.prog 62 #[.pointer (some ⟨Q1, 0, none⟩), .pointer (some ⟨Q2, 0, none⟩)] W (REnds W P t (bracePart b tx (rest t a))) := by
  have e0 : bracePart b tx (rest t a) = b (rest t a) := by unfold bracePart; rw [if_pos h1]
  rw [e0]
  have HA := Lib.hid (fun (w : World) (hs : Scn w P t a) => has_any hs ⟨#[123]⟩)
  simp only [h1] at HA
  have HBR := Lib.hid (fun (w : World) (hs : Scn w P t a) => hb w a hs h1)
  have HS := Lib.hid h
  have HC := Lib.hid hc
  have k0 := hc.one.cell 0
  obtain ⟨d0, d1⟩ := hd
  clear h hc h1 hb e0
  go_enter Tryd.func62, Tryd.ntmps62
  go_wp2_with fail
  go_at_call 25; refine (HA.out _ HS.out).mono ?_; rintro e w1 ⟨rfl, hb1⟩
  have HS1 := Lib.hid (HS.out.below hb1)
  have HW1 := Lib.hid (HS.out.stays hb1)
  have k1 := (HC.out.aside HW1.out.1).one.cell 0
  have k2 := (HC.out.aside HW1.out.1).two.cell 0
  clear hb1 k0 HA
  go_wp2_with fail
  go_at_call 49; refine (HBR.out _ HS1.out).mono ?_; rintro e w4 ⟨b2, hw4, hx⟩
  have HW4 := Lib.hid (HW1.out.trans hw4)
  clear hw4
  rcases hx with ⟨R', he, rfl, hr⟩ | ⟨c, he, rfl⟩
  · have HX := Lib.hid he
    have HY := Lib.hid hr
    clear he hr
    go_wp2
    go_ret
    exact ⟨b2, HW4.out, .inl ⟨R', HX.out, rfl, HY.out⟩⟩
  · have HX := Lib.hid he
    clear he
    go_wp2
    go_ret
    exact ⟨b2, HW4.out, .inr ⟨c, HX.out, rfl⟩⟩
set_option maxRecDepth 100000 in
set_option maxHeartbeats 4000000 in
theorem braceText {W : World} {P Q1 Q2 a : Nat} {t : ByteArray} {d : Int} {b tx : List UInt8 → Left} (h : Scn W P t a) (hc : Caught W P Q1 Q2 d) (h1 : Lib.hasPrefix (rest t a) [123] = false) (h2 : Lib.hasPrefix (rest t a) [34] = true)
    (ht : ∀ W c, Scn W P t c → Lib.hasPrefix (rest t c) [34] = true → Calls Tryd.prog 38 #[.pointer (some ⟨P, 0, none⟩), .int .i64 d] W (REnds W P t (tx (rest t c)))) :
    Calls Tryd.prog 62 #[.pointer (some ⟨Q1, 0, none⟩), .pointer (some ⟨Q2, 0, none⟩)] W (REnds W P t (bracePart b tx (rest t a))) := by
  have e0 : bracePart b tx (rest t a) = tx (rest t a) := by unfold bracePart; rw [if_neg (by rw [h1]; decide), if_pos h2]
  rw [e0]
  have HA := Lib.hid (fun (w : World) (hs : Scn w P t a) => has_any hs ⟨#[123]⟩)
  have HB := Lib.hid (fun (w : World) (hs : Scn w P t a) => has_any hs ⟨#[34]⟩)
  simp only [h1] at HA
  simp only [h2] at HB
  have HBR := Lib.hid (fun (w : World) (hs : Scn w P t a) => ht w a hs h2)
  have HS := Lib.hid h
  have HC := Lib.hid hc
  have k0 := hc.one.cell 0
  clear h hc h1 h2 ht e0
  go_enter Tryd.func62, Tryd.ntmps62
  go_wp2_with fail
  go_at_call 25; refine (HA.out _ HS.out).mono ?_; rintro e w1 ⟨rfl, hb1⟩
  have HS1 := Lib.hid (HS.out.below hb1)
  have HW1 := Lib.hid (HS.out.stays hb1)
  have k1 := (HC.out.aside HW1.out.1).one.cell 0
  clear hb1 k0 HA
  go_wp2_with fail
  go_at_call 25; refine (HB.out _ HS1.out).mono ?_; rintro e w2 ⟨rfl, hb2⟩
  have HS2 := Lib.hid (HS1.out.below hb2)
  have HW2 := Lib.hid (HW1.out.trans (HS1.out.stays hb2))
  have k2 := (HC.out.aside HW2.out.1).one.cell 0
  have k3 := (HC.out.aside HW2.out.1).two.cell 0
  clear hb2 k1 HB
  go_wp2_with fail
  go_at_call 38; refine (HBR.out _ HS2.out).mono ?_; rintro e w4 ⟨b2, hw4, hx⟩
  have HW4 := Lib.hid (HW2.out.trans hw4)
  clear hw4
  rcases hx with ⟨R', he, rfl, hr⟩ | ⟨c, he, rfl⟩
  · have HX := Lib.hid he
    have HY := Lib.hid hr
    clear he hr
    go_wp2
    go_ret
    exact ⟨b2, HW4.out, .inl ⟨R', HX.out, rfl, HY.out⟩⟩
  · have HX := Lib.hid he
    clear he
    go_wp2
    go_ret
    exact ⟨b2, HW4.out, .inr ⟨c, HX.out, rfl⟩⟩
theorem brace_part {W : World} {P Q1 Q2 a : Nat} {t : ByteArray} {d : Int} {b tx : List UInt8 → Left} (h : Scn W P t a) (hc : Caught W P Q1 Q2 d) (hd : 0 ≤ d ∧ d ≤ 24)
    (hb : ∀ W c, Scn W P t c → Lib.hasPrefix (rest t c) [123] = true → Calls Tryd.prog 49 #[.pointer (some ⟨P, 0, none⟩), .int .i64 (d + 1)] W (REnds W P t (b (rest t c))))
    (ht : ∀ W c, Scn W P t c → Lib.hasPrefix (rest t c) [34] = true → Calls Tryd.prog 38 #[.pointer (some ⟨P, 0, none⟩), .int .i64 d] W (REnds W P t (tx (rest t c)))) :
    Calls Tryd.prog 62 #[.pointer (some ⟨Q1, 0, none⟩), .pointer (some ⟨Q2, 0, none⟩)] W (REnds W P t (bracePart b tx (rest t a))) := by
  cases h1 : Lib.hasPrefix (rest t a) [123]
  · cases h2 : Lib.hasPrefix (rest t a) [34]
    · exact braceRun h hc h1 h2
    · exact braceText h hc h1 h2 ht
  · exact braceIn h hc h1 hd hb

theorem caught_new {W : World} {P a : Nat} {t : ByteArray} (h : Scn W P t a) (d : Int) : Below W.heap.size W ((W.alloc (.cells #[.pointer (some ⟨P, 0, none⟩)] 51)).alloc (.cells #[.int .i64 d] 3)) ∧ Caught ((W.alloc (.cells #[.pointer (some ⟨P, 0, none⟩)] 51)).alloc (.cells #[.int .i64 d] 3)) P W.heap.size (W.heap.size + 1) d := by
  have hP := h.1.lt
  refine ⟨(below_new W _).alloc (by simp) _, ⟨(Blk.new W _ _).alloc _, ?_, by omega, by omega⟩⟩
  have := Blk.new (W.alloc (.cells #[.pointer (some ⟨P, 0, none⟩)] 51)) #[.int .i64 d] 3
  simpa using this
set_option maxRecDepth 100000 in
set_option maxHeartbeats 4000000 in
theorem text_read {W : World} {P a : Nat} {t : ByteArray} {d : Int} {b : List UInt8 → Left} (h : Scn W P t a) (h1 : Lib.hasPrefix (rest t a) [34] = true) (hd : 0 ≤ d ∧ d ≤ 24) (hg : GoesOn b)
    (hb : ∀ W c, Scn W P t c → Lib.hasPrefix (rest t c) [123] = true → Calls Tryd.prog 49 #[.pointer (some ⟨P, 0, none⟩), .int .i64 (d + 1)] W (REnds W P t (b (rest t c)))) :
    Calls Tryd.prog 38 #[.pointer (some ⟨P, 0, none⟩), .int .i64 d] W (REnds W P t (textL b (rest t a))) := by
  have hmf := hmf
  obtain ⟨hb0, hc0⟩ := caught_new h d
  have HB0 := Lib.hid hb0
  have HC0 := Lib.hid hc0
  have HK := Lib.hid (fun (w : World) (hs : Scn w P t a) => skip_yes hs ⟨#[34]⟩ h1)
  have HT := Lib.hid (fun (w : World) (hs : Scn w P t (a + 1)) (hc : Caught w P W.heap.size (W.heap.size + 1) d) => skipTo_any (lb := #[.pointer (some ⟨W.heap.size, 0, none⟩), .pointer (some ⟨W.heap.size + 1, 0, none⟩)]) hs ⟨enters_of Tryd.func47 (by kernel_rfl) rfl, fun w' c ha hs' => text_part hs' (hc.aside ha) hd hb⟩ (textPart_on hg) 34)
  have e0 : textL b (rest t a) = toEndA (textPart b) 34 (rest t (a + 1)) := by unfold textL; rw [rest_add]
  rw [e0]
  have HS := Lib.hid (h.below hb0)
  have HS0 := Lib.hid (h.stays hb0)
  have k0 := hc0.one.cell 0
  clear h h1 hb hb0 hc0 e0 hg
  go_enter Tryd.func38, Tryd.ntmps38
  go_wp2_with fail
  go_at_call 37; refine (HK.out _ HS.out).mono ?_; rintro e w1 ⟨rfl, hw1⟩
  have HW1 := Lib.hid (HS0.out.trans hw1)
  have HC1 := Lib.hid (HC0.out.aside hw1.1)
  have k1 := HC1.out.one.cell 0
  clear hw1 k0 HK
  go_wp2_with fail
  go_at_call 46; refine (HT.out _ HW1.out.2 HC1.out).mono ?_; rintro e w4 ⟨b2, hw4, hx⟩
  have HW4 := Lib.hid (HW1.out.trans hw4)
  clear hw4
  rcases hx with ⟨R', he, rfl, hr⟩ | ⟨c, he, rfl⟩
  · have HX := Lib.hid he
    have HY := Lib.hid hr
    clear he hr
    go_wp2
    go_ret
    exact ⟨b2, HW4.out, .inl ⟨R', HX.out, rfl, HY.out⟩⟩
  · have HX := Lib.hid he
    clear he
    go_wp2
    go_ret
    exact ⟨b2, HW4.out, .inr ⟨c, HX.out, rfl⟩⟩
end Go.Proofs.YtpdepdigacpfiaaDoor
