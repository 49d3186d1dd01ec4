/- A text's parts. -/
import Derived.Test.YtpdepdigacpfiaaDoorLText
namespace Go.Proofs.YtpdepdigacpfiaaDoor
open Go.RowKit Go.Shelf
set_option linter.unusedVariables false

/-- What a closure of a text or of braces has captured. -/
structure Caught (W : World) (P Q1 Q2 : Nat) (d : Int) : Prop where
  one : Blk W Q1 #[.pointer (some ⟨P, 0, none⟩)] 51
  two : Blk W Q2 #[.int .i64 d] 3
  ne : Q1 ≠ P ∧ Q2 ≠ P
theorem Caught.aside {W W' : World} {P Q1 Q2 : Nat} {d : Int} (h : Caught W P Q1 Q2 d) (ha : Aside P W W') : Caught W' P Q1 Q2 d := ⟨h.one.aside ha h.ne.1, h.two.aside ha h.ne.2, h.ne⟩
theorem asc4 : AllAscii ⟨#[34, 92, 36, 10]⟩ := ascii_of (l := [34, 92, 36, 10]) (by decide)
theorem asc5 : AllAscii ⟨#[123, 125, 34, 10]⟩ := ascii_of (l := [123, 125, 34, 10]) (by decide)
theorem runL_ok {q R : List UInt8} (h : (R.dropWhile (notIn q)).length < R.length) : runL q R = .ok (R.dropWhile (notIn q)) := by unfold runL; rw [if_pos h]
theorem runL_err {q R : List UInt8} (h : ¬ (R.dropWhile (notIn q)).length < R.length) : runL q R = .error 40 := by unfold runL; rw [if_neg h]

set_option maxRecDepth 100000 in
set_option maxHeartbeats 4000000 in
theorem textEsc {W : World} {P Q1 Q2 a : Nat} {t : ByteArray} {d : Int} {b : List UInt8 → Left} (h : Scn W P t a) (hc : Caught W P Q1 Q2 d) (h1 : Lib.hasPrefix (rest t a) [92] = true) : Calls Tryd.prog 47 #[.pointer (some ⟨Q1, 0, none⟩), .pointer (some ⟨Q2, 0, none⟩)] W (REnds W P t (textPart b (rest t a))) := by
  have e0 : textPart b (rest t a) = escL (rest t a) := by unfold textPart; rw [if_pos h1]
  rw [e0]
  have HA := Lib.hid (has_any h ⟨#[92]⟩)
  simp only [h1] at HA
  have HS := Lib.hid h
  have HC := Lib.hid hc
  have HE := Lib.hid (fun (w : World) (hs : Scn w P t a) => escape_any hs)
  have k0 := hc.one.cell 0
  clear h hc h1 e0
  go_enter Tryd.func47, Tryd.ntmps47
  go_wp2_with fail
  go_at_call 25; refine HA.out.mono ?_; rintro e w1 ⟨rfl, hb1⟩
  have HS1 := Lib.hid (HS.out.below hb1)
  have HW1 := Lib.hid (HS.out.stays hb1)
  have k1 := (HC.out.aside HW1.out.1).one.cell 0
  clear hb1 k0 HA
  go_wp2_with fail
  go_at_call 48; refine (HE.out _ HS1.out).mono ?_; rintro e w2 ⟨b2, hw2, hx⟩
  have HW2 := Lib.hid (HW1.out.trans hw2)
  clear hw2
  rcases hx with ⟨R', he, rfl, hr⟩ | ⟨c, he, rfl⟩
  · have HX := Lib.hid he
    have HY := Lib.hid hr
    clear he hr
    go_wp2
    go_ret
    exact ⟨b2, HW2.out, .inl ⟨R', HX.out, rfl, HY.out⟩⟩
  · have HX := Lib.hid he
    clear he
    go_wp2
    go_ret
    exact ⟨b2, HW2.out, .inr ⟨c, HX.out, rfl⟩⟩
set_option maxRecDepth 100000 in
set_option maxHeartbeats 4000000 in
theorem textIns {W : World} {P Q1 Q2 a : Nat} {t : ByteArray} {d : Int} {b : List UInt8 → Left} (h : Scn W P t a) (hc : Caught W P Q1 Q2 d) (h1 : Lib.hasPrefix (rest t a) [92] = false) (h2 : Lib.hasPrefix (rest t a) [36, 123] = true) (hd : 0 ≤ d ∧ d ≤ 24)
    (hb : ∀ W c, Scn W P t c → Lib.hasPrefix (rest t c) [123] = true → Calls Tryd.prog 49 #[.pointer (some ⟨P, 0, none⟩), .int .i64 (d + 1)] W (REnds W P t (b (rest t c)))) :
    Calls Tryd.prog 47 #[.pointer (some ⟨Q1, 0, none⟩), .pointer (some ⟨Q2, 0, none⟩)] W (REnds W P t (textPart b (rest t a))) := by
  have e0 : textPart b (rest t a) = b (rest t (a + 1)) := by unfold textPart; rw [if_neg (by rw [h1]; decide), if_pos h2, rest_add]
  rw [e0]
  have hp := pre2 h2
  have h3 : Lib.hasPrefix (rest t a) [36] = true := by rw [hp]; simp [Lib.hasPrefix, List.isPrefixOf]
  have h4 : Lib.hasPrefix (rest t (a + 1)) [123] = true := by rw [← rest_add, hp]; simp [Lib.hasPrefix, List.isPrefixOf]
  have HA := Lib.hid (fun (w : World) (hs : Scn w P t a) => has_any hs ⟨#[92]⟩)
  have HB := Lib.hid (fun (w : World) (hs : Scn w P t a) => has_any hs ⟨#[36, 123]⟩)
  simp only [h1] at HA
  simp only [h2] at HB
  have HK := Lib.hid (fun (w : World) (hs : Scn w P t a) => skip_yes hs ⟨#[36]⟩ h3)
  have HBR := Lib.hid (fun (w : World) (hs : Scn w P t (a + 1)) => hb w (a + 1) hs h4)
  have HS := Lib.hid h
  have HC := Lib.hid hc
  have k0 := hc.one.cell 0
  obtain ⟨d0, d1⟩ := hd
  clear h hc h1 h2 h3 h4 hp hb e0
  go_enter Tryd.func47, Tryd.ntmps47
  go_wp2_with fail
  go_at_call 25; refine (HA.out _ HS.out).mono ?_; rintro e w1 ⟨rfl, hb1⟩
  have HS1 := Lib.hid (HS.out.below hb1)
  have HW1 := Lib.hid (HS.out.stays hb1)
  have k1 := (HC.out.aside HW1.out.1).one.cell 0
  clear hb1 k0 HA
  go_wp2_with fail
  go_at_call 25; refine (HB.out _ HS1.out).mono ?_; rintro e w2 ⟨rfl, hb2⟩
  have HS2 := Lib.hid (HS1.out.below hb2)
  have HW2 := Lib.hid (HW1.out.trans (HS1.out.stays hb2))
  have k2 := (HC.out.aside HW2.out.1).one.cell 0
  clear hb2 k1 HB
  go_wp2_with fail
  go_at_call 37; refine (HK.out _ HS2.out).mono ?_; rintro e w3 ⟨rfl, hw3⟩
  have HS3 := Lib.hid hw3.2
  have HW3 := Lib.hid (HW2.out.trans hw3)
  have k3 := (HC.out.aside HW3.out.1).one.cell 0
  have k4 := (HC.out.aside HW3.out.1).two.cell 0
  clear hw3 k2 HK
  go_wp2_with fail
  go_at_call 49; refine (HBR.out _ HS3.out).mono ?_; rintro e w4 ⟨b2, hw4, hx⟩
  have HW4 := Lib.hid (HW3.out.trans hw4)
  clear hw4
  rcases hx with ⟨R', he, rfl, hr⟩ | ⟨c, he, rfl⟩
  · have HX := Lib.hid he
    have HY := Lib.hid hr
    clear he hr
    go_wp2
    go_ret
    exact ⟨b2, HW4.out, .inl ⟨R', HX.out, rfl, HY.out⟩⟩
  · have HX := Lib.hid he
    clear he
    go_wp2
    go_ret
    exact ⟨b2, HW4.out, .inr ⟨c, HX.out, rfl⟩⟩
set_option maxRecDepth 100000 in
set_option maxHeartbeats 4000000 in
theorem textDol {W : World} {P Q1 Q2 a : Nat} {t : ByteArray} {d : Int} {b : List UInt8 → Left} (h : Scn W P t a) (hc : Caught W P Q1 Q2 d) (h1 : Lib.hasPrefix (rest t a) [92] = false) (h2 : Lib.hasPrefix (rest t a) [36, 123] = false) (h3 : Lib.hasPrefix (rest t a) [36] = true) :
    Calls Tryd.prog 47 #[.pointer (some ⟨Q1, 0, none⟩), .pointer (some ⟨Q2, 0, none⟩)] W (REnds W P t (textPart b (rest t a))) := by
  have e0 : textPart b (rest t a) = .ok (rest t (a + 1)) := by unfold textPart; rw [if_neg (by rw [h1]; decide), if_neg (by rw [h2]; decide), if_pos h3, rest_add]
  rw [e0]
  have HA := Lib.hid (fun (w : World) (hs : Scn w P t a) => has_any hs ⟨#[92]⟩)
  have HB := Lib.hid (fun (w : World) (hs : Scn w P t a) => has_any hs ⟨#[36, 123]⟩)
  simp only [h1] at HA
  simp only [h2] at HB
  have HK := Lib.hid (fun (w : World) (hs : Scn w P t a) => skip_yes hs ⟨#[36]⟩ h3)
  have HS := Lib.hid h
  have HC := Lib.hid hc
  have k0 := hc.one.cell 0
  clear h hc h1 h2 h3 e0
  go_enter Tryd.func47, Tryd.ntmps47
  go_wp2_with fail
  go_at_call 25; refine (HA.out _ HS.out).mono ?_; rintro e w1 ⟨rfl, hb1⟩
  have HS1 := Lib.hid (HS.out.below hb1)
  have HW1 := Lib.hid (HS.out.stays hb1)
  have k1 := (HC.out.aside HW1.out.1).one.cell 0
  clear hb1 k0 HA
  go_wp2_with fail
  go_at_call 25; refine (HB.out _ HS1.out).mono ?_; rintro e w2 ⟨rfl, hb2⟩
  have HS2 := Lib.hid (HS1.out.below hb2)
  have HW2 := Lib.hid (HW1.out.trans (HS1.out.stays hb2))
  have k2 := (HC.out.aside HW2.out.1).one.cell 0
  clear hb2 k1 HB
  go_wp2_with fail
  go_at_call 37; refine (HK.out _ HS2.out).mono ?_; rintro e w3 ⟨rfl, hw3⟩
  go_wp2
  go_ret
  exact ⟨a + 1, HW2.out.trans hw3, .inl ⟨_, rfl, rfl, rfl⟩⟩
/-- What no sign of some takes. -/
theorem takeRun {s : ByteArray} {q : List UInt8} (hq : s.data.toList = q) (hs : AllAscii s) {W : World} {P a : Nat} {t : ByteArray} (h : Scn W P t a) {g : Nat} {lb : Array Value} (hg : Says g lb (outP s) W) : Calls Tryd.prog 20 #[.pointer (some ⟨P, 0, none⟩), .func (.func g) #[] lb] W fun e w' =>
    ∃ x b, e = .returned (.string x) ∧ Went W w' P t b ∧ rest t b = (rest t a).dropWhile (notIn q) ∧ x.toList.isEmpty = decide (¬ ((rest t a).dropWhile (notIn q)).length < (rest t a).length) := by
  have hb := outP_bytes hs h.2.1
  rw [show (rest t a).dropWhile (fun c => !s.data.toList.contains c) = (rest t a).dropWhile (notIn q) by rw [hq]; rfl] at hb
  refine (take_to h hg hb rfl).mono ?_
  rintro e w' ⟨rfl, hw⟩
  have hl := dropWhile_le (q := notIn q) (rest t a)
  have hr := rest_length t a
  refine ⟨_, _, rfl, hw, rest_back hb.1, ?_⟩
  generalize (rest t a).dropWhile (notIn q) = D at *
  have ha := h.2.1
  rw [ByteArray.toList_eq]
  have hsz : (t.extract a (t.size - D.length)).data.toList.length = t.size - D.length - a := by
    rw [Lib.extract_data]; simp; omega
  generalize (t.extract a (t.size - D.length)).data.toList = l at hsz
  cases l with
  | nil => simp at hsz ⊢; omega
  | cons c l => simp at hsz ⊢; omega
set_option maxRecDepth 100000 in
set_option maxHeartbeats 4000000 in
theorem textRun {W : World} {P Q1 Q2 a : Nat} {t : ByteArray} {d : Int} {b : List UInt8 → Left} (h : Scn W P t a) (hc : Caught W P Q1 Q2 d) (h1 : Lib.hasPrefix (rest t a) [92] = false) (h2 : Lib.hasPrefix (rest t a) [36, 123] = false) (h3 : Lib.hasPrefix (rest t a) [36] = false) :
    Calls Tryd.prog 47 #[.pointer (some ⟨Q1, 0, none⟩), .pointer (some ⟨Q2, 0, none⟩)] W (REnds W P t (textPart b (rest t a))) := by
  have e0 : textPart b (rest t a) = runL [34, 92, 36, 10] (rest t a) := by unfold textPart; rw [if_neg (by rw [h1]; decide), if_neg (by rw [h2]; decide), if_neg (by rw [h3]; decide)]
  rw [e0]
  have HA := Lib.hid (fun (w : World) (hs : Scn w P t a) => has_any hs ⟨#[92]⟩)
  have HB := Lib.hid (fun (w : World) (hs : Scn w P t a) => has_any hs ⟨#[36, 123]⟩)
  simp only [h1] at HA
  simp only [h2] at HB
  have HK := Lib.hid (fun (w : World) (hs : Scn w P t a) => skip_no hs ⟨#[36]⟩ h3)
  have HN := Lib.hid (fun w => noneOf_any asc4 (by decide) w)
  have HT := Lib.hid (fun (w : World) (hs : Scn w P t a) (g : Nat) (lb : Array Value) (hg : Says g lb (outP ⟨#[34, 92, 36, 10]⟩) w) => takeRun (q := [34, 92, 36, 10]) rfl asc4 hs hg)
  have HS := Lib.hid h
  have HC := Lib.hid hc
  have k0 := hc.one.cell 0
  clear h hc h1 h2 h3 e0
  go_enter Tryd.func47, Tryd.ntmps47
  go_wp2_with fail
  go_at_call 25; refine (HA.out _ HS.out).mono ?_; rintro e w1 ⟨rfl, hb1⟩
  have HS1 := Lib.hid (HS.out.below hb1)
  have HW1 := Lib.hid (HS.out.stays hb1)
  have k1 := (HC.out.aside HW1.out.1).one.cell 0
  clear hb1 k0 HA
  go_wp2_with fail
  go_at_call 25; refine (HB.out _ HS1.out).mono ?_; rintro e w2 ⟨rfl, hb2⟩
  have HS2 := Lib.hid (HS1.out.below hb2)
  have HW2 := Lib.hid (HW1.out.trans (HS1.out.stays hb2))
  have k2 := (HC.out.aside HW2.out.1).one.cell 0
  clear hb2 k1 HB
  go_wp2_with fail
  go_at_call 37; refine (HK.out _ HS2.out).mono ?_; rintro e w3 ⟨rfl, hb3⟩
  have HS3 := Lib.hid (HS2.out.below hb3)
  have HW3 := Lib.hid (HW2.out.trans (HS2.out.stays hb3))
  have k3 := (HC.out.aside HW3.out.1).one.cell 0
  clear hb3 k2 HK
  by_cases hlt : ((rest t a).dropWhile (notIn [34, 92, 36, 10])).length < (rest t a).length
  all_goals
    have HL := Lib.hid hlt
    first | (have hdl : decide (¬ ((rest t a).dropWhile (notIn [34, 92, 36, 10])).length < (rest t a).length) = false := decide_eq_false (fun h => h hlt)) | (have hdl : decide (¬ ((rest t a).dropWhile (notIn [34, 92, 36, 10])).length < (rest t a).length) = true := decide_eq_true hlt)
    rw [hdl] at HT
    clear hlt hdl
    go_wp2_with fail
    go_region_law (first
      | (go_simp; go_at_call 35; refine (HN.out _).mono ?_; rintro e w4 ⟨⟨lb, rfl, hsay⟩, hb4⟩; have HS4 := Lib.hid ((HS3.out.below (Below.refl _ w3).drew).below hb4); have k4 := cells_keep hb4 k3)
      | (go_simp; go_at_call 20; refine (HT.out _ HS4.out _ _ hsay).mono ?_; rintro e w5 ⟨x, b5, rfl, hw5, hr5, hx5⟩; have k5 := ((HC.out.aside HW3.out.1).aside (HS3.out.stays (((Below.refl _ w3).drew).trans hb4)).1 |>.aside hw5.1).one.cell 0; have HW5 := Lib.hid ((HW3.out.trans (HS3.out.stays (((Below.refl _ w3).drew).trans hb4))).trans hw5); have HR5 := Lib.hid hr5; clear hr5))
    all_goals
      clear hsay hb4 hw5
      go_wp2
      go_ret
      first
        | exact ⟨b5, HW5.out, .inl ⟨_, runL_ok HL.out, rfl, HR5.out⟩⟩
        | exact ⟨b5, HW5.out, .inr ⟨40, runL_err HL.out, rfl⟩⟩
/-- A text's part. -/
theorem text_part {W : World} {P Q1 Q2 a : Nat} {t : ByteArray} {d : Int} {b : List UInt8 → Left} (h : Scn W P t a) (hc : Caught W P Q1 Q2 d) (hd : 0 ≤ d ∧ d ≤ 24)
    (hb : ∀ W c, Scn W P t c → Lib.hasPrefix (rest t c) [123] = true → Calls Tryd.prog 49 #[.pointer (some ⟨P, 0, none⟩), .int .i64 (d + 1)] W (REnds W P t (b (rest t c)))) :
    Calls Tryd.prog 47 #[.pointer (some ⟨Q1, 0, none⟩), .pointer (some ⟨Q2, 0, none⟩)] W (REnds W P t (textPart b (rest t a))) := by
  cases h1 : Lib.hasPrefix (rest t a) [92]
  · cases h2 : Lib.hasPrefix (rest t a) [36, 123]
    · cases h3 : Lib.hasPrefix (rest t a) [36]
      · exact textRun h hc h1 h2 h3
      · exact textDol h hc h1 h2 h3
    · exact textIns h hc h1 h2 hd hb
  · exact textEsc h hc h1
end Go.Proofs.YtpdepdigacpfiaaDoor
