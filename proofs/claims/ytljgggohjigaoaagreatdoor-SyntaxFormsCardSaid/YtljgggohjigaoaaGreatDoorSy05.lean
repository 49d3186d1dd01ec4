/- A text's parts · Texts and braces read · skipBraces and quoted, whole -/
import Derived.Test.YtljgggohjigaoaaGreatDoorSy04
namespace Go.Proofs.YtljgggohjigaoaaGreatDoor
open Go.RowKit Go.Shelf
set_option linter.unusedVariables false

/-- What a closure of a text or of braces has captured. -/
structure Caught (W : World) (P Q1 Q2 : Nat) (d : Int) : Prop where
  one : Blk W Q1 #[.pointer (some ⟨P, 0, none⟩)] 122
  two : Blk W Q2 #[.int .i64 d] 3
  ne : Q1 ≠ P ∧ Q2 ≠ P
theorem Caught.aside {W W' : World} {P Q1 Q2 : Nat} {d : Int} (h : Caught W P Q1 Q2 d) (ha : Aside P W W') : Caught W' P Q1 Q2 d := ⟨h.one.aside ha h.ne.1, h.two.aside ha h.ne.2, h.ne⟩
theorem asc4 : AllAscii ⟨#[34, 92, 36, 10]⟩ := ascii_of (l := [34, 92, 36, 10]) (by decide)
theorem asc5 : AllAscii ⟨#[123, 125, 34, 10]⟩ := ascii_of (l := [123, 125, 34, 10]) (by decide)
theorem runL_ok {q R : List UInt8} (h : (R.dropWhile (notIn q)).length < R.length) : runL q R = .ok (R.dropWhile (notIn q)) := by unfold runL; rw [if_pos h]
theorem runL_err {q R : List UInt8} (h : ¬ (R.dropWhile (notIn q)).length < R.length) : runL q R = .error 40 := by unfold runL; rw [if_neg h]

set_option maxRecDepth 100000 in
set_option maxHeartbeats 4000000 in
theorem textEsc {W : World} {P Q1 Q2 a : Nat} {t : ByteArray} {d : Int} {b : List UInt8 → Left} (h : Scn W P t a) (hc : Caught W P Q1 Q2 d) (h1 : Lib.hasPrefix (rest t a) [92] = true) : Calls Tryz.prog 126 #[.pointer (some ⟨Q1, 0, none⟩), .pointer (some ⟨Q2, 0, none⟩)] W (REnds W P t (textPart b (rest t a))) := by
  have e0 : textPart b (rest t a) = escL (rest t a) := by unfold textPart; rw [if_pos h1]
  rw [e0]
  have HA := Lib.hid (has_any h ⟨#[92]⟩)
  simp only [h1] at HA
  have HS := Lib.hid h
  have HC := Lib.hid hc
  have HE := Lib.hid (fun (w : World) (hs : Scn w P t a) => escape_any hs)
  have k0 := hc.one.cell 0
  clear h hc h1 e0
  go_enter Tryz.func126, Tryz.ntmps126
  go_wp2_with fail
  go_at_call 89; refine HA.out.mono ?_; rintro e w1 ⟨rfl, hb1⟩
  have HS1 := Lib.hid (HS.out.below hb1)
  have HW1 := Lib.hid (HS.out.stays hb1)
  have k1 := (HC.out.aside HW1.out.1).one.cell 0
  clear hb1 k0 HA
  go_wp2_with fail
  go_at_call 127; refine (HE.out _ HS1.out).mono ?_; rintro e w2 ⟨b2, hw2, hx⟩
  have HW2 := Lib.hid (HW1.out.trans hw2)
  clear hw2
  rcases hx with ⟨R', he, rfl, hr⟩ | ⟨c, he, rfl⟩
  · have HX := Lib.hid he
    have HY := Lib.hid hr
    clear he hr
    go_wp2
    go_ret
    exact ⟨b2, HW2.out, .inl ⟨R', HX.out, rfl, HY.out⟩⟩
  · have HX := Lib.hid he
    clear he
    go_wp2
    go_ret
    exact ⟨b2, HW2.out, .inr ⟨c, HX.out, rfl⟩⟩
set_option maxRecDepth 100000 in
set_option maxHeartbeats 4000000 in
theorem textIns {W : World} {P Q1 Q2 a : Nat} {t : ByteArray} {d : Int} {b : List UInt8 → Left} (h : Scn W P t a) (hc : Caught W P Q1 Q2 d) (h1 : Lib.hasPrefix (rest t a) [92] = false) (h2 : Lib.hasPrefix (rest t a) [36, 123] = true) (hd : 0 ≤ d ∧ d ≤ 24)
    (hb : ∀ W c, Scn W P t c → Lib.hasPrefix (rest t c) [123] = true → Calls Tryz.prog 128 #[.pointer (some ⟨P, 0, none⟩), .int .i64 (d + 1)] W (REnds W P t (b (rest t c)))) :
    Calls Tryz.prog 126 #[.pointer (some ⟨Q1, 0, none⟩), .pointer (some ⟨Q2, 0, none⟩)] W (REnds W P t (textPart b (rest t a))) := by
  have e0 : textPart b (rest t a) = b (rest t (a + 1)) := by unfold textPart; rw [if_neg (by rw [h1]; decide), if_pos h2, rest_add]
  rw [e0]
  have hp := pre2 h2
  have h3 : Lib.hasPrefix (rest t a) [36] = true := by rw [hp]; simp [Lib.hasPrefix, List.isPrefixOf]
  have h4 : Lib.hasPrefix (rest t (a + 1)) [123] = true := by rw [← rest_add, hp]; simp [Lib.hasPrefix, List.isPrefixOf]
  have HA := Lib.hid (fun (w : World) (hs : Scn w P t a) => has_any hs ⟨#[92]⟩)
  have HB := Lib.hid (fun (w : World) (hs : Scn w P t a) => has_any hs ⟨#[36, 123]⟩)
  simp only [h1] at HA
  simp only [h2] at HB
  have HK := Lib.hid (fun (w : World) (hs : Scn w P t a) => skip_yes hs ⟨#[36]⟩ h3)
  have HBR := Lib.hid (fun (w : World) (hs : Scn w P t (a + 1)) => hb w (a + 1) hs h4)
  have HS := Lib.hid h
  have HC := Lib.hid hc
  have k0 := hc.one.cell 0
  obtain ⟨d0, d1⟩ := hd
  clear h hc h1 h2 h3 h4 hp hb e0
  go_enter Tryz.func126, Tryz.ntmps126
  go_wp2_with fail
  go_at_call 89; refine (HA.out _ HS.out).mono ?_; rintro e w1 ⟨rfl, hb1⟩
  have HS1 := Lib.hid (HS.out.below hb1)
  have HW1 := Lib.hid (HS.out.stays hb1)
  have k1 := (HC.out.aside HW1.out.1).one.cell 0
  clear hb1 k0 HA
  go_wp2_with fail
  go_at_call 89; refine (HB.out _ HS1.out).mono ?_; rintro e w2 ⟨rfl, hb2⟩
  have HS2 := Lib.hid (HS1.out.below hb2)
  have HW2 := Lib.hid (HW1.out.trans (HS1.out.stays hb2))
  have k2 := (HC.out.aside HW2.out.1).one.cell 0
  clear hb2 k1 HB
  go_wp2_with fail
  go_at_call 112; refine (HK.out _ HS2.out).mono ?_; rintro e w3 ⟨rfl, hw3⟩
  have HS3 := Lib.hid hw3.2
  have HW3 := Lib.hid (HW2.out.trans hw3)
  have k3 := (HC.out.aside HW3.out.1).one.cell 0
  have k4 := (HC.out.aside HW3.out.1).two.cell 0
  clear hw3 k2 HK
  go_wp2_with fail
  go_at_call 128; refine (HBR.out _ HS3.out).mono ?_; rintro e w4 ⟨b2, hw4, hx⟩
  have HW4 := Lib.hid (HW3.out.trans hw4)
  clear hw4
  rcases hx with ⟨R', he, rfl, hr⟩ | ⟨c, he, rfl⟩
  · have HX := Lib.hid he
    have HY := Lib.hid hr
    clear he hr
    go_wp2
    go_ret
    exact ⟨b2, HW4.out, .inl ⟨R', HX.out, rfl, HY.out⟩⟩
  · have HX := Lib.hid he
    clear he
    go_wp2
    go_ret
    exact ⟨b2, HW4.out, .inr ⟨c, HX.out, rfl⟩⟩
set_option maxRecDepth 100000 in
set_option maxHeartbeats 4000000 in
theorem textDol {W : World} {P Q1 Q2 a : Nat} {t : ByteArray} {d : Int} {b : List UInt8 → Left} (h : Scn W P t a) (hc : Caught W P Q1 Q2 d) (h1 : Lib.hasPrefix (rest t a) [92] = false) (h2 : Lib.hasPrefix (rest t a) [36, 123] = false) (h3 : Lib.hasPrefix (rest t a) [36] = true) :
    Calls Tryz.prog 126 #[.pointer (some ⟨Q1, 0, none⟩), .pointer (some ⟨Q2, 0, none⟩)] W (REnds W P t (textPart b (rest t a))) := by
  have e0 : textPart b (rest t a) = .ok (rest t (a + 1)) := by unfold textPart; rw [if_neg (by rw [h1]; decide), if_neg (by rw [h2]; decide), if_pos h3, rest_add]
  rw [e0]
  have HA := Lib.hid (fun (w : World) (hs : Scn w P t a) => has_any hs ⟨#[92]⟩)
  have HB := Lib.hid (fun (w : World) (hs : Scn w P t a) => has_any hs ⟨#[36, 123]⟩)
  simp only [h1] at HA
  simp only [h2] at HB
  have HK := Lib.hid (fun (w : World) (hs : Scn w P t a) => skip_yes hs ⟨#[36]⟩ h3)
  have HS := Lib.hid h
  have HC := Lib.hid hc
  have k0 := hc.one.cell 0
  clear h hc h1 h2 h3 e0
  go_enter Tryz.func126, Tryz.ntmps126
  go_wp2_with fail
  go_at_call 89; refine (HA.out _ HS.out).mono ?_; rintro e w1 ⟨rfl, hb1⟩
  have HS1 := Lib.hid (HS.out.below hb1)
  have HW1 := Lib.hid (HS.out.stays hb1)
  have k1 := (HC.out.aside HW1.out.1).one.cell 0
  clear hb1 k0 HA
  go_wp2_with fail
  go_at_call 89; refine (HB.out _ HS1.out).mono ?_; rintro e w2 ⟨rfl, hb2⟩
  have HS2 := Lib.hid (HS1.out.below hb2)
  have HW2 := Lib.hid (HW1.out.trans (HS1.out.stays hb2))
  have k2 := (HC.out.aside HW2.out.1).one.cell 0
  clear hb2 k1 HB
  go_wp2_with fail
  go_at_call 112; refine (HK.out _ HS2.out).mono ?_; rintro e w3 ⟨rfl, hw3⟩
  go_wp2
  go_ret
  exact ⟨a + 1, HW2.out.trans hw3, .inl ⟨_, rfl, rfl, rfl⟩⟩
/-- What no sign of some takes. -/
theorem takeRun {s : ByteArray} {q : List UInt8} (hq : s.data.toList = q) (hs : AllAscii s) {W : World} {P a : Nat} {t : ByteArray} (h : Scn W P t a) {g : Nat} {lb : Array Value} (hg : Says g lb (outP s) W) : Calls Tryz.prog 84 #[.pointer (some ⟨P, 0, none⟩), .func (.func g) #[] lb] W fun e w' =>
    ∃ x b, e = .returned (.string x) ∧ Went W w' P t b ∧ rest t b = (rest t a).dropWhile (notIn q) ∧ x.toList.isEmpty = decide (¬ ((rest t a).dropWhile (notIn q)).length < (rest t a).length) := by
  have hb := outP_bytes hs h.2.1
  rw [show (rest t a).dropWhile (fun c => !s.data.toList.contains c) = (rest t a).dropWhile (notIn q) by rw [hq]; rfl] at hb
  refine (take_to h hg hb rfl).mono ?_
  rintro e w' ⟨rfl, hw⟩
  have hl := dropWhile_le (q := notIn q) (rest t a)
  have hr := rest_length t a
  refine ⟨_, _, rfl, hw, rest_back hb.1, ?_⟩
  generalize (rest t a).dropWhile (notIn q) = D at *
  have ha := h.2.1
  rw [ByteArray.toList_eq]
  have hsz : (t.extract a (t.size - D.length)).data.toList.length = t.size - D.length - a := by
    rw [Lib.extract_data]; simp; omega
  generalize (t.extract a (t.size - D.length)).data.toList = l at hsz
  cases l with
  | nil => simp at hsz ⊢; omega
  | cons c l => simp at hsz ⊢; omega
set_option maxRecDepth 100000 in
set_option maxHeartbeats 4000000 in
theorem textRun {W : World} {P Q1 Q2 a : Nat} {t : ByteArray} {d : Int} {b : List UInt8 → Left} (h : Scn W P t a) (hc : Caught W P Q1 Q2 d) (h1 : Lib.hasPrefix (rest t a) [92] = false) (h2 : Lib.hasPrefix (rest t a) [36, 123] = false) (h3 : Lib.hasPrefix (rest t a) [36] = false) :
    Calls Tryz.prog 126 #[.pointer (some ⟨Q1, 0, none⟩), .pointer (some ⟨Q2, 0, none⟩)] W (REnds W P t (textPart b (rest t a))) := by
  have e0 : textPart b (rest t a) = runL [34, 92, 36, 10] (rest t a) := by unfold textPart; rw [if_neg (by rw [h1]; decide), if_neg (by rw [h2]; decide), if_neg (by rw [h3]; decide)]
  rw [e0]
  have HA := Lib.hid (fun (w : World) (hs : Scn w P t a) => has_any hs ⟨#[92]⟩)
  have HB := Lib.hid (fun (w : World) (hs : Scn w P t a) => has_any hs ⟨#[36, 123]⟩)
  simp only [h1] at HA
  simp only [h2] at HB
  have HK := Lib.hid (fun (w : World) (hs : Scn w P t a) => skip_no hs ⟨#[36]⟩ h3)
  have HN := Lib.hid (fun w => noneOf_any asc4 (by decide) w)
  have HT := Lib.hid (fun (w : World) (hs : Scn w P t a) (g : Nat) (lb : Array Value) (hg : Says g lb (outP ⟨#[34, 92, 36, 10]⟩) w) => takeRun (q := [34, 92, 36, 10]) rfl asc4 hs hg)
  have HS := Lib.hid h
  have HC := Lib.hid hc
  have k0 := hc.one.cell 0
  clear h hc h1 h2 h3 e0
  go_enter Tryz.func126, Tryz.ntmps126
  go_wp2_with fail
  go_at_call 89; refine (HA.out _ HS.out).mono ?_; rintro e w1 ⟨rfl, hb1⟩
  have HS1 := Lib.hid (HS.out.below hb1)
  have HW1 := Lib.hid (HS.out.stays hb1)
  have k1 := (HC.out.aside HW1.out.1).one.cell 0
  clear hb1 k0 HA
  go_wp2_with fail
  go_at_call 89; refine (HB.out _ HS1.out).mono ?_; rintro e w2 ⟨rfl, hb2⟩
  have HS2 := Lib.hid (HS1.out.below hb2)
  have HW2 := Lib.hid (HW1.out.trans (HS1.out.stays hb2))
  have k2 := (HC.out.aside HW2.out.1).one.cell 0
  clear hb2 k1 HB
  go_wp2_with fail
  go_at_call 112; refine (HK.out _ HS2.out).mono ?_; rintro e w3 ⟨rfl, hb3⟩
  have HS3 := Lib.hid (HS2.out.below hb3)
  have HW3 := Lib.hid (HW2.out.trans (HS2.out.stays hb3))
  have k3 := (HC.out.aside HW3.out.1).one.cell 0
  clear hb3 k2 HK
  by_cases hlt : ((rest t a).dropWhile (notIn [34, 92, 36, 10])).length < (rest t a).length
  all_goals
    have HL := Lib.hid hlt
    first | (have hdl : decide (¬ ((rest t a).dropWhile (notIn [34, 92, 36, 10])).length < (rest t a).length) = false := decide_eq_false (fun h => h hlt)) | (have hdl : decide (¬ ((rest t a).dropWhile (notIn [34, 92, 36, 10])).length < (rest t a).length) = true := decide_eq_true hlt)
    rw [hdl] at HT
    clear hlt hdl
    go_wp2_with fail
    go_region_law (first
      | (go_simp; go_at_call 110; refine (HN.out _).mono ?_; rintro e w4 ⟨⟨lb, rfl, hsay⟩, hb4⟩; have HS4 := Lib.hid ((HS3.out.below (Below.refl _ w3).drew).below hb4); have k4 := cells_keep hb4 k3)
      | (go_simp; go_at_call 84; refine (HT.out _ HS4.out _ _ hsay).mono ?_; rintro e w5 ⟨x, b5, rfl, hw5, hr5, hx5⟩; have k5 := ((HC.out.aside HW3.out.1).aside (HS3.out.stays (((Below.refl _ w3).drew).trans hb4)).1 |>.aside hw5.1).one.cell 0; have HW5 := Lib.hid ((HW3.out.trans (HS3.out.stays (((Below.refl _ w3).drew).trans hb4))).trans hw5); have HR5 := Lib.hid hr5; clear hr5))
    all_goals
      clear hsay hb4 hw5
      go_wp2
      go_ret
      first
        | exact ⟨b5, HW5.out, .inl ⟨_, runL_ok HL.out, rfl, HR5.out⟩⟩
        | exact ⟨b5, HW5.out, .inr ⟨40, runL_err HL.out, rfl⟩⟩
/-- A text's part. -/
theorem text_part {W : World} {P Q1 Q2 a : Nat} {t : ByteArray} {d : Int} {b : List UInt8 → Left} (h : Scn W P t a) (hc : Caught W P Q1 Q2 d) (hd : 0 ≤ d ∧ d ≤ 24)
    (hb : ∀ W c, Scn W P t c → Lib.hasPrefix (rest t c) [123] = true → Calls Tryz.prog 128 #[.pointer (some ⟨P, 0, none⟩), .int .i64 (d + 1)] W (REnds W P t (b (rest t c)))) :
    Calls Tryz.prog 126 #[.pointer (some ⟨Q1, 0, none⟩), .pointer (some ⟨Q2, 0, none⟩)] W (REnds W P t (textPart b (rest t a))) := by
  cases h1 : Lib.hasPrefix (rest t a) [92]
  · cases h2 : Lib.hasPrefix (rest t a) [36, 123]
    · cases h3 : Lib.hasPrefix (rest t a) [36]
      · exact textRun h hc h1 h2 h3
      · exact textDol h hc h1 h2 h3
    · exact textIns h hc h1 h2 hd hb
  · exact textEsc h hc h1
end Go.Proofs.YtljgggohjigaoaaGreatDoor
namespace Go.Proofs.YtljgggohjigaoaaGreatDoor
open Go.RowKit Go.Shelf
set_option linter.unusedVariables false

set_option maxRecDepth 100000 in
set_option maxHeartbeats 4000000 in
theorem braceRun {W : World} {P Q1 Q2 a : Nat} {t : ByteArray} {d : Int} {b tx : List UInt8 → Left} (h : Scn W P t a) (hc : Caught W P Q1 Q2 d) (h1 : Lib.hasPrefix (rest t a) [123] = false) (h2 : Lib.hasPrefix (rest t a) [34] = false) :
    Calls Tryz.prog 144 #[.pointer (some ⟨Q1, 0, none⟩), .pointer (some ⟨Q2, 0, none⟩)] W (REnds W P t (bracePart b tx (rest t a))) := by
  have e0 : bracePart b tx (rest t a) = runL [123, 125, 34, 10] (rest t a) := by unfold bracePart; rw [if_neg (by rw [h1]; decide), if_neg (by rw [h2]; decide)]
  rw [e0]
  have HA := Lib.hid (fun (w : World) (hs : Scn w P t a) => has_any hs ⟨#[123]⟩)
  have HB := Lib.hid (fun (w : World) (hs : Scn w P t a) => has_any hs ⟨#[34]⟩)
  simp only [h1] at HA
  simp only [h2] at HB
  have HN := Lib.hid (fun w => noneOf_any asc5 (by decide) w)
  have HT := Lib.hid (fun (w : World) (hs : Scn w P t a) (g : Nat) (lb : Array Value) (hg : Says g lb (outP ⟨#[123, 125, 34, 10]⟩) w) => takeRun (q := [123, 125, 34, 10]) rfl asc5 hs hg)
  have HS := Lib.hid h
  have HC := Lib.hid hc
  have k0 := hc.one.cell 0
  clear h hc h1 h2 e0
  go_enter Tryz.func144, Tryz.ntmps144
  go_wp2_with fail
  go_at_call 89; refine (HA.out _ HS.out).mono ?_; rintro e w1 ⟨rfl, hb1⟩
  have HS1 := Lib.hid (HS.out.below hb1)
  have HW1 := Lib.hid (HS.out.stays hb1)
  have k1 := (HC.out.aside HW1.out.1).one.cell 0
  clear hb1 k0 HA
  go_wp2_with fail
  go_at_call 89; refine (HB.out _ HS1.out).mono ?_; rintro e w2 ⟨rfl, hb2⟩
  have HS2 := Lib.hid (HS1.out.below hb2)
  have HW2 := Lib.hid (HW1.out.trans (HS1.out.stays hb2))
  have k2 := (HC.out.aside HW2.out.1).one.cell 0
  clear hb2 k1 HB
  by_cases hlt : ((rest t a).dropWhile (notIn [123, 125, 34, 10])).length < (rest t a).length
  all_goals
    have HL := Lib.hid hlt
    first | (have hdl : decide (¬ ((rest t a).dropWhile (notIn [123, 125, 34, 10])).length < (rest t a).length) = false := decide_eq_false (fun h => h hlt)) | (have hdl : decide (¬ ((rest t a).dropWhile (notIn [123, 125, 34, 10])).length < (rest t a).length) = true := decide_eq_true hlt)
    rw [hdl] at HT
    clear hlt hdl
    go_wp2_with fail
    go_region_law (first
      | (go_simp; go_at_call 110; refine (HN.out _).mono ?_; rintro e w4 ⟨⟨lb, rfl, hsay⟩, hb4⟩; have HS4 := Lib.hid ((HS2.out.below (Below.refl _ w2).drew).below hb4); have k4 := cells_keep hb4 k2)
      | (go_simp; go_at_call 84; refine (HT.out _ HS4.out _ _ hsay).mono ?_; rintro e w5 ⟨x, b5, rfl, hw5, hr5, hx5⟩; have k5 := ((HC.out.aside HW2.out.1).aside (HS2.out.stays (((Below.refl _ w2).drew).trans hb4)).1 |>.aside hw5.1).one.cell 0; have HW5 := Lib.hid ((HW2.out.trans (HS2.out.stays (((Below.refl _ w2).drew).trans hb4))).trans hw5); have HR5 := Lib.hid hr5; clear hr5))
    all_goals
      clear hsay hb4 hw5
      go_wp2
      go_ret
      first
        | exact ⟨b5, HW5.out, .inl ⟨_, runL_ok HL.out, rfl, HR5.out⟩⟩
        | exact ⟨b5, HW5.out, .inr ⟨40, runL_err HL.out, rfl⟩⟩

set_option maxRecDepth 100000 in
set_option maxHeartbeats 4000000 in
theorem braceIn {W : World} {P Q1 Q2 a : Nat} {t : ByteArray} {d : Int} {b tx : List UInt8 → Left} (h : Scn W P t a) (hc : Caught W P Q1 Q2 d) (h1 : Lib.hasPrefix (rest t a) [123] = true) (hd : 0 ≤ d ∧ d ≤ 24)
    (hb : ∀ W c, Scn W P t c → Lib.hasPrefix (rest t c) [123] = true → Calls Tryz.prog 128 #[.pointer (some ⟨P, 0, none⟩), .int .i64 (d + 1)] W (REnds W P t (b (rest t c)))) :
    Calls Tryz.prog 144 #[.pointer (some ⟨Q1, 0, none⟩), .pointer (some ⟨Q2, 0, none⟩)] W (REnds W P t (bracePart b tx (rest t a))) := by
  have e0 : bracePart b tx (rest t a) = b (rest t a) := by unfold bracePart; rw [if_pos h1]
  rw [e0]
  have HA := Lib.hid (fun (w : World) (hs : Scn w P t a) => has_any hs ⟨#[123]⟩)
  simp only [h1] at HA
  have HBR := Lib.hid (fun (w : World) (hs : Scn w P t a) => hb w a hs h1)
  have HS := Lib.hid h
  have HC := Lib.hid hc
  have k0 := hc.one.cell 0
  obtain ⟨d0, d1⟩ := hd
  clear h hc h1 hb e0
  go_enter Tryz.func144, Tryz.ntmps144
  go_wp2_with fail
  go_at_call 89; refine (HA.out _ HS.out).mono ?_; rintro e w1 ⟨rfl, hb1⟩
  have HS1 := Lib.hid (HS.out.below hb1)
  have HW1 := Lib.hid (HS.out.stays hb1)
  have k1 := (HC.out.aside HW1.out.1).one.cell 0
  have k2 := (HC.out.aside HW1.out.1).two.cell 0
  clear hb1 k0 HA
  go_wp2_with fail
  go_at_call 128; refine (HBR.out _ HS1.out).mono ?_; rintro e w4 ⟨b2, hw4, hx⟩
  have HW4 := Lib.hid (HW1.out.trans hw4)
  clear hw4
  rcases hx with ⟨R', he, rfl, hr⟩ | ⟨c, he, rfl⟩
  · have HX := Lib.hid he
    have HY := Lib.hid hr
    clear he hr
    go_wp2
    go_ret
    exact ⟨b2, HW4.out, .inl ⟨R', HX.out, rfl, HY.out⟩⟩
  · have HX := Lib.hid he
    clear he
    go_wp2
    go_ret
    exact ⟨b2, HW4.out, .inr ⟨c, HX.out, rfl⟩⟩
set_option maxRecDepth 100000 in
set_option maxHeartbeats 4000000 in
theorem braceText {W : World} {P Q1 Q2 a : Nat} {t : ByteArray} {d : Int} {b tx : List UInt8 → Left} (h : Scn W P t a) (hc : Caught W P Q1 Q2 d) (h1 : Lib.hasPrefix (rest t a) [123] = false) (h2 : Lib.hasPrefix (rest t a) [34] = true)
    (ht : ∀ W c, Scn W P t c → Lib.hasPrefix (rest t c) [34] = true → Calls Tryz.prog 113 #[.pointer (some ⟨P, 0, none⟩), .int .i64 d] W (REnds W P t (tx (rest t c)))) :
    Calls Tryz.prog 144 #[.pointer (some ⟨Q1, 0, none⟩), .pointer (some ⟨Q2, 0, none⟩)] W (REnds W P t (bracePart b tx (rest t a))) := by
  have e0 : bracePart b tx (rest t a) = tx (rest t a) := by unfold bracePart; rw [if_neg (by rw [h1]; decide), if_pos h2]
  rw [e0]
  have HA := Lib.hid (fun (w : World) (hs : Scn w P t a) => has_any hs ⟨#[123]⟩)
  have HB := Lib.hid (fun (w : World) (hs : Scn w P t a) => has_any hs ⟨#[34]⟩)
  simp only [h1] at HA
  simp only [h2] at HB
  have HBR := Lib.hid (fun (w : World) (hs : Scn w P t a) => ht w a hs h2)
  have HS := Lib.hid h
  have HC := Lib.hid hc
  have k0 := hc.one.cell 0
  clear h hc h1 h2 ht e0
  go_enter Tryz.func144, Tryz.ntmps144
  go_wp2_with fail
  go_at_call 89; refine (HA.out _ HS.out).mono ?_; rintro e w1 ⟨rfl, hb1⟩
  have HS1 := Lib.hid (HS.out.below hb1)
  have HW1 := Lib.hid (HS.out.stays hb1)
  have k1 := (HC.out.aside HW1.out.1).one.cell 0
  clear hb1 k0 HA
  go_wp2_with fail
  go_at_call 89; refine (HB.out _ HS1.out).mono ?_; rintro e w2 ⟨rfl, hb2⟩
  have HS2 := Lib.hid (HS1.out.below hb2)
  have HW2 := Lib.hid (HW1.out.trans (HS1.out.stays hb2))
  have k2 := (HC.out.aside HW2.out.1).one.cell 0
  have k3 := (HC.out.aside HW2.out.1).two.cell 0
  clear hb2 k1 HB
  go_wp2_with fail
  go_at_call 113; refine (HBR.out _ HS2.out).mono ?_; rintro e w4 ⟨b2, hw4, hx⟩
  have HW4 := Lib.hid (HW2.out.trans hw4)
  clear hw4
  rcases hx with ⟨R', he, rfl, hr⟩ | ⟨c, he, rfl⟩
  · have HX := Lib.hid he
    have HY := Lib.hid hr
    clear he hr
    go_wp2
    go_ret
    exact ⟨b2, HW4.out, .inl ⟨R', HX.out, rfl, HY.out⟩⟩
  · have HX := Lib.hid he
    clear he
    go_wp2
    go_ret
    exact ⟨b2, HW4.out, .inr ⟨c, HX.out, rfl⟩⟩
theorem brace_part {W : World} {P Q1 Q2 a : Nat} {t : ByteArray} {d : Int} {b tx : List UInt8 → Left} (h : Scn W P t a) (hc : Caught W P Q1 Q2 d) (hd : 0 ≤ d ∧ d ≤ 24)
    (hb : ∀ W c, Scn W P t c → Lib.hasPrefix (rest t c) [123] = true → Calls Tryz.prog 128 #[.pointer (some ⟨P, 0, none⟩), .int .i64 (d + 1)] W (REnds W P t (b (rest t c))))
    (ht : ∀ W c, Scn W P t c → Lib.hasPrefix (rest t c) [34] = true → Calls Tryz.prog 113 #[.pointer (some ⟨P, 0, none⟩), .int .i64 d] W (REnds W P t (tx (rest t c)))) :
    Calls Tryz.prog 144 #[.pointer (some ⟨Q1, 0, none⟩), .pointer (some ⟨Q2, 0, none⟩)] W (REnds W P t (bracePart b tx (rest t a))) := by
  cases h1 : Lib.hasPrefix (rest t a) [123]
  · cases h2 : Lib.hasPrefix (rest t a) [34]
    · exact braceRun h hc h1 h2
    · exact braceText h hc h1 h2 ht
  · exact braceIn h hc h1 hd hb

theorem caught_new {W : World} {P a : Nat} {t : ByteArray} (h : Scn W P t a) (d : Int) : Below W.heap.size W ((W.alloc (.cells #[.pointer (some ⟨P, 0, none⟩)] 122)).alloc (.cells #[.int .i64 d] 3)) ∧ Caught ((W.alloc (.cells #[.pointer (some ⟨P, 0, none⟩)] 122)).alloc (.cells #[.int .i64 d] 3)) P W.heap.size (W.heap.size + 1) d := by
  have hP := h.1.lt
  refine ⟨(below_new W _).alloc (by simp) _, ⟨(Blk.new W _ _).alloc _, ?_, by omega, by omega⟩⟩
  have := Blk.new (W.alloc (.cells #[.pointer (some ⟨P, 0, none⟩)] 122)) #[.int .i64 d] 3
  simpa using this
set_option maxRecDepth 100000 in
set_option maxHeartbeats 4000000 in
theorem text_read {W : World} {P a : Nat} {t : ByteArray} {d : Int} {b : List UInt8 → Left} (h : Scn W P t a) (h1 : Lib.hasPrefix (rest t a) [34] = true) (hd : 0 ≤ d ∧ d ≤ 24) (hg : GoesOn b)
    (hb : ∀ W c, Scn W P t c → Lib.hasPrefix (rest t c) [123] = true → Calls Tryz.prog 128 #[.pointer (some ⟨P, 0, none⟩), .int .i64 (d + 1)] W (REnds W P t (b (rest t c)))) :
    Calls Tryz.prog 113 #[.pointer (some ⟨P, 0, none⟩), .int .i64 d] W (REnds W P t (textL b (rest t a))) := by
  have hmf := hmf
  obtain ⟨hb0, hc0⟩ := caught_new h d
  have HB0 := Lib.hid hb0
  have HC0 := Lib.hid hc0
  have HK := Lib.hid (fun (w : World) (hs : Scn w P t a) => skip_yes hs ⟨#[34]⟩ h1)
  have HT := Lib.hid (fun (w : World) (hs : Scn w P t (a + 1)) (hc : Caught w P W.heap.size (W.heap.size + 1) d) => skipTo_any (lb := #[.pointer (some ⟨W.heap.size, 0, none⟩), .pointer (some ⟨W.heap.size + 1, 0, none⟩)]) hs ⟨enters_of Tryz.func126 (by kernel_rfl) rfl, fun w' c ha hs' => text_part hs' (hc.aside ha) hd hb⟩ (textPart_on hg) 34)
  have e0 : textL b (rest t a) = toEndA (textPart b) 34 (rest t (a + 1)) := by unfold textL; rw [rest_add]
  rw [e0]
  have HS := Lib.hid (h.below hb0)
  have HS0 := Lib.hid (h.stays hb0)
  have k0 := hc0.one.cell 0
  clear h h1 hb hb0 hc0 e0 hg
  go_enter Tryz.func113, Tryz.ntmps113
  go_wp2_with fail
  go_at_call 112; refine (HK.out _ HS.out).mono ?_; rintro e w1 ⟨rfl, hw1⟩
  have HW1 := Lib.hid (HS0.out.trans hw1)
  have HC1 := Lib.hid (HC0.out.aside hw1.1)
  have k1 := HC1.out.one.cell 0
  clear hw1 k0 HK
  go_wp2_with fail
  go_at_call 125; refine (HT.out _ HW1.out.2 HC1.out).mono ?_; rintro e w4 ⟨b2, hw4, hx⟩
  have HW4 := Lib.hid (HW1.out.trans hw4)
  clear hw4
  rcases hx with ⟨R', he, rfl, hr⟩ | ⟨c, he, rfl⟩
  · have HX := Lib.hid he
    have HY := Lib.hid hr
    clear he hr
    go_wp2
    go_ret
    exact ⟨b2, HW4.out, .inl ⟨R', HX.out, rfl, HY.out⟩⟩
  · have HX := Lib.hid he
    clear he
    go_wp2
    go_ret
    exact ⟨b2, HW4.out, .inr ⟨c, HX.out, rfl⟩⟩
end Go.Proofs.YtljgggohjigaoaaGreatDoor
namespace Go.Proofs.YtljgggohjigaoaaGreatDoor
open Go.RowKit Go.Shelf
set_option linter.unusedVariables false

set_option maxRecDepth 100000 in
set_option maxHeartbeats 4000000 in
theorem brace_deep {W : World} {P a : Nat} {t : ByteArray} (h : Scn W P t a) : Calls Tryz.prog 128 #[.pointer (some ⟨P, 0, none⟩), .int .i64 25] W (REnds W P t (braceL 0 (rest t a))) := by
  have HS0 := Lib.hid (h.stays (caught_new h 25).1)
  go_enter Tryz.func128, Tryz.ntmps128
  go_wp2
  go_ret
  exact ⟨a, HS0.out, .inr ⟨7, rfl, rfl⟩⟩
set_option maxRecDepth 100000 in
set_option maxHeartbeats 4000000 in
theorem brace_step {W : World} {P a n : Nat} {t : ByteArray} {d : Int} (h : Scn W P t a) (h1 : Lib.hasPrefix (rest t a) [123] = true) (hd : 0 ≤ d ∧ d ≤ 24)
    (hb : ∀ W c, Scn W P t c → Lib.hasPrefix (rest t c) [123] = true → Calls Tryz.prog 128 #[.pointer (some ⟨P, 0, none⟩), .int .i64 (d + 1)] W (REnds W P t (braceL n (rest t c)))) :
    Calls Tryz.prog 128 #[.pointer (some ⟨P, 0, none⟩), .int .i64 d] W (REnds W P t (braceL (n + 1) (rest t a))) := by
  have hmf := hmf
  obtain ⟨hb0, hc0⟩ := caught_new h d
  have HB0 := Lib.hid hb0
  have HC0 := Lib.hid hc0
  have HK := Lib.hid (fun (w : World) (hs : Scn w P t a) => skip_yes hs ⟨#[123]⟩ h1)
  have hon := braceL_on n
  have HT := Lib.hid (fun (w : World) (hs : Scn w P t (a + 1)) (hc : Caught w P W.heap.size (W.heap.size + 1) d) => skipTo_any (lb := #[.pointer (some ⟨W.heap.size, 0, none⟩), .pointer (some ⟨W.heap.size + 1, 0, none⟩)]) (part := bracePart (braceL n) (textL (braceL n))) hs ⟨enters_of Tryz.func144 (by kernel_rfl) rfl, fun w' c ha hs' => brace_part hs' (hc.aside ha) hd hb (fun w2 c2 hs2 h2 => text_read hs2 h2 hd hon hb)⟩ (bracePart_on hon (textL_on hon)) 125)
  have e0 : braceL (n + 1) (rest t a) = toEndA (bracePart (braceL n) (textL (braceL n))) 125 (rest t (a + 1)) := by rw [← rest_add]; rfl
  rw [e0]
  have HS := Lib.hid (h.below hb0)
  have HS0 := Lib.hid (h.stays hb0)
  have k0 := hc0.one.cell 0
  have k9 := hc0.two.cell 0
  obtain ⟨d0, d1⟩ := hd
  have d2 : ¬ 24 < d := by omega
  clear h h1 hb hb0 hc0 e0 hon
  go_enter Tryz.func128, Tryz.ntmps128
  go_wp2_with fail
  go_at_call 112; refine (HK.out _ HS.out).mono ?_; rintro e w1 ⟨rfl, hw1⟩
  have HW1 := Lib.hid (HS0.out.trans hw1)
  have HC1 := Lib.hid (HC0.out.aside hw1.1)
  have k1 := HC1.out.one.cell 0
  clear hw1 k0 k9 HK
  go_wp2_with fail
  go_at_call 125; refine (HT.out _ HW1.out.2 HC1.out).mono ?_; rintro e w4 ⟨b2, hw4, hx⟩
  have HW4 := Lib.hid (HW1.out.trans hw4)
  clear hw4
  rcases hx with ⟨R', he, rfl, hr⟩ | ⟨c, he, rfl⟩
  · have HX := Lib.hid he
    have HY := Lib.hid hr
    clear he hr
    go_wp2
    go_ret
    exact ⟨b2, HW4.out, .inl ⟨R', HX.out, rfl, HY.out⟩⟩
  · have HX := Lib.hid he
    clear he
    go_wp2
    go_ret
    exact ⟨b2, HW4.out, .inr ⟨c, HX.out, rfl⟩⟩
theorem brace_read {P : Nat} {t : ByteArray} : ∀ (n : Nat) (d : Int), d + (n : Int) = 25 → 0 ≤ d → ∀ W a, Scn W P t a → Lib.hasPrefix (rest t a) [123] = true → Calls Tryz.prog 128 #[.pointer (some ⟨P, 0, none⟩), .int .i64 d] W (REnds W P t (braceL n (rest t a)))
  | 0, d, hd, h0, W, a, hs, h1 => by
    obtain rfl : d = 25 := by omega
    exact brace_deep hs
  | n + 1, d, hd, h0, W, a, hs, h1 => brace_step hs h1 ⟨h0, by omega⟩ (brace_read n (d + 1) (by omega) (by omega))

/-- A text in quotes: what stands between, and what is left. -/
def quotedL (R : List UInt8) : Except Int (List UInt8 × List UInt8) := match textL (braceL 24) R with
  | .ok R' => .ok ((R.drop 1).take (R.length - R'.length - 2), R')
  | .error c => .error c
/-- How a token's reader ends. -/
def TEnds (W : World) (P : Nat) (t : ByteArray) (r : Except Int (List UInt8 × List UInt8)) (e : Ending) (w' : World) : Prop :=
  ∃ b, Went W w' P t b ∧ ((∃ x R' s, r = .ok (x, R') ∧ e = .returned (.tuple #[.string s, .int .i64 0]) ∧ s.data.toList = x ∧ rest t b = R') ∨ (∃ c, r = .error c ∧ e = .returned (.tuple #[.string ⟨#[]⟩, .int .i64 c])))
set_option maxRecDepth 100000 in
set_option maxHeartbeats 4000000 in
theorem quoted_any {W : World} {P a : Nat} {t : ByteArray} (h : Scn W P t a) (h1 : Lib.hasPrefix (rest t a) [34] = true) : Calls Tryz.prog 88 #[.pointer (some ⟨P, 0, none⟩)] W (TEnds W P t (quotedL (rest t a))) := by
  have hon := braceL_on 24
  have HT := Lib.hid (text_read (d := 0) h h1 (by decide) hon (fun w c hs hp => brace_read 24 1 (by decide) (by decide) w c hs hp))
  have HS := Lib.hid h
  have hsz := h.2
  have hle := prefix_drop h1
  rw [rest_length] at hle
  simp only [List.length_cons, List.length_nil] at hle
  have hlo := textL_on hon (rest t a)
  unfold quotedL
  have c1 := h.1.cell 1
  cases hr : textL (braceL 24) (rest t a) with
  | error c =>
    have hc := hlo.2 c hr
    rw [hr] at HT
    have hc0 : (c == 0) = false := beq_eq_false_iff_ne.2 (by omega)
    have hc1 : (c != 0) = true := by simp only [bne, hc0]; rfl
    clear hr h hlo h1 hon
    replace HT := Lib.hid (HT.out.mono fun _ _ h => h.isErr)
    go_enter Tryz.func88, Tryz.ntmps88
    go_wp2_with (go_at_call 113; refine HT.out.mono ?_; rintro e w1 ⟨rfl, b, hw1⟩)
    go_ret2
    exact ⟨b, hw1, .inr ⟨c, rfl, rfl⟩⟩
  | ok R' =>
    have hless := (toEnd_on (textPart_on hon) (q := 34) (((rest t a).drop 1).length + 1) ((rest t a).drop 1)).1 R' hr
    rw [hr] at HT
    rw [List.length_drop, rest_length] at hless
    clear hr h hlo h1 hon
    replace HT := Lib.hid (HT.out.mono fun _ _ h => h.isOk)
    go_enter Tryz.func88, Tryz.ntmps88
    go_wp2_with fail
    go_at_call 113; refine HT.out.mono ?_; rintro e w1 ⟨rfl, b, hw1, hrb⟩
    have HS1 := Lib.hid hw1.2
    have HW1 := Lib.hid hw1
    have hbl : t.size - b = R'.length := by rw [← hrb, rest_length]
    have hbs := hw1.2.2.1
    have HRB := Lib.hid hrb
    have hab : a + 2 ≤ b := by omega
    have HBL := Lib.hid hbl
    clear hw1 hrb c1 HT hless hle hbl
    have c0 := HS1.out.1.cell 0
    have c1 := HS1.out.1.cell 1
    have i0 : IntKind.i64.wrap ((a : Int) + 1) = (a : Int) + 1 := IntWalk.i64_in _ (by omega)
    have i1 : IntKind.i64.wrap ((b : Int) - 1) = (b : Int) - 1 := IntWalk.i64_in _ (by omega)
    have i2 : (0 : Int) ≤ (a : Int) + 1 := by omega
    have i3 : (a : Int) + 1 ≤ (b : Int) - 1 := by omega
    have i4 : (b : Int) - 1 ≤ (t.size : Int) := by omega
    have i5 : ((a : Int) + 1).toNat = a + 1 := by omega
    have i6 : ((b : Int) - 1).toNat = b - 1 := by omega
    have i7 : (1 : Int) ≤ (b : Int) := by omega
    go_wp2_with fail
    go_quiet (fail)
    clear i0 i1 i2 i3 i4 i5 i6 i7
    go_wp2
    go_ret2
    refine ⟨b, HW1.out.trans (HS1.out.stays (below_drewN _ _)), .inl ⟨_, R', _, rfl, rfl, ?_, HRB.out⟩⟩
    rw [Lib.extract_data]
    have h2 : ∀ n, (t.data.toList.drop (a + 1)).take n = ((rest t a).drop 1).take n := fun n => by rw [rest_add]; rfl
    rw [h2, rest_length]
    congr 1
    have := HBL.out
    omega
end Go.Proofs.YtljgggohjigaoaaGreatDoor
