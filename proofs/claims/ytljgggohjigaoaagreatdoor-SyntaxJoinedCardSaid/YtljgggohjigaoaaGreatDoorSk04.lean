/- skipEscape, skipTo, skipText, skipBraces · A text's parts · Texts and braces read -/
import Derived.Deep.RegionLaw
import Derived.Test.YtljgggohjigaoaaGreatDoorSk03
namespace Go.Proofs.YtljgggohjigaoaaGreatDoor
open Go.RowKit Go.Shelf
set_option linter.unusedVariables false

/-- How a reader ends: behind what it read, or with what is wrong. -/
def REnds (W : World) (P : Nat) (t : ByteArray) (r : Left) (e : Ending) (w' : World) : Prop :=
 ∃ b, Went W w' P t b ∧ ((∃ R', r = .ok R' ∧ e = .returned (.int .i64 0) ∧ rest t b = R') ∨ (∃ c, r = .error c ∧ e = .returned (.int .i64 c)))
theorem REnds.isErr {W w' : World} {P : Nat} {t : ByteArray} {d : Int} {e : Ending} (h : REnds W P t (.error d) e w') : e = .returned (.int .i64 d) ∧ ∃ b, Went W w' P t b := by
 obtain ⟨b, h1, ⟨R', h2, -⟩ | ⟨c, h2, h3⟩⟩ := h
 ·cases h2
 ·cases h2; exact ⟨h3, b, h1⟩
theorem REnds.isOk {W w' : World} {P : Nat} {t : ByteArray} {R : List UInt8} {e : Ending} (h : REnds W P t (.ok R) e w') : e = .returned (.int .i64 0) ∧ ∃ b, Went W w' P t b ∧ rest t b = R := by
 obtain ⟨b, h1, ⟨R', h2, h3, h4⟩ | ⟨c, h2, -⟩⟩ := h
 ·cases h2; exact ⟨h3, b, h1, h4⟩
 ·cases h2

/-! ### skipEscape -/
theorem pre2 {R : List UInt8} {p q : UInt8} (h : Lib.hasPrefix R [p, q] = true) : R = p :: q :: R.drop 2 := by
 match R, h with
 | [], h => simp [Lib.hasPrefix] at h
 | [a], h => simp [Lib.hasPrefix, List.isPrefixOf] at h
 | a :: b :: r, h =>
  simp [Lib.hasPrefix, List.isPrefixOf] at h
  simp [h]
theorem escL_hit {R : List UInt8} {q : UInt8} (hq : [34, 92, 110, 116, 114, 36].contains q = true) (h : Lib.hasPrefix R [92, q] = true) : escL R = .ok (R.drop 2) := by
 obtain ⟨r, hr⟩ : ∃ r, R.drop 2 = r := ⟨_, rfl⟩
 have e := pre2 h
 rw [hr] at e ⊢
 rw [e]
 show (if [34, 92, 110, 116, 114, 36].contains q then Except.ok r else Except.error 40) = Except.ok r
 rw [if_pos hq]
theorem escL_miss {R : List UInt8} (h : ∀ q ∈ [34, 92, 110, 116, 114, 36], Lib.hasPrefix R [92, q] = false) : escL R = .error 40 := by
 unfold escL
 split
 ·rename_i c r
  split
  ·rename_i hc
   have := h c (List.contains_iff_mem.1 hc)
   simp [Lib.hasPrefix, List.isPrefixOf] at this
  ·rfl
 ·rfl
set_option maxRecDepth 100000 in
set_option maxHeartbeats 4000000 in
theorem escape_any {W : World} {P a : Nat} {t : ByteArray} (h : Scn W P t a) : Calls Tryz.prog 127 #[.pointer (some ⟨P, 0, none⟩)] W (REnds W P t (escL (rest t a))) := by
 have HS := Lib.hid h
 have hsz := h.2
 have hPlt := h.1.lt
 obtain ⟨s, hs⟩ : ∃ s : ByteArray, (⟨#[34, 92, 110, 116, 114, 36]⟩ : ByteArray) = s := ⟨_, rfl⟩
 have hs6 : s.size = 6 := by rw [← hs]; rfl
 have hsl : ∀ (i : Nat) (h : i < s.size), [34, 92, 110, 116, 114, 36].contains (s[i]'h) = true := by
  subst hs
  intro i h
  have h6 : i < 6 := h
  rcases (show i = 0 ∨ i = 1 ∨ i = 2 ∨ i = 3 ∨ i = 4 ∨ i = 5 by omega) with rfl | rfl | rfl | rfl | rfl | rfl <;> rfl
 have hall : ∀ q ∈ [34, 92, 110, 116, 114, 36], ∃ (i : Nat) (h : i < s.size), (s[i]'h) = q := by
  subst hs
  intro q hq
  simp only [List.mem_cons, List.mem_nil_iff, or_false] at hq
  rcases hq with rfl | rfl | rfl | rfl | rfl | rfl
  ·exact ⟨0, by decide, rfl⟩
  ·exact ⟨1, by decide, rfl⟩
  ·exact ⟨2, by decide, rfl⟩
  ·exact ⟨3, by decide, rfl⟩
  ·exact ⟨4, by decide, rfl⟩
  ·exact ⟨5, by decide, rfl⟩
 have HSL := Lib.hid hsl
 have HALL := Lib.hid hall
 have HS6 := Lib.hid hs6
 have HSE := Lib.hid hs
 clear h hsl hall hs6 hs
 go_enter Tryz.func127, Tryz.ntmps127
 go_wp2_with fail
 rw [HSE.out]
 go_loopg [] 6 (fun gf wx => ∃ pos : Nat, wx.heap[W.heap.size]? = some (.stringIter s pos) ∧ Hid (Below W.heap.size W wx) ∧ Hid (∀ i (h : i < s.size), i < pos → Lib.hasPrefix (rest t a) [92, s[i]'h] = false) ∧ 6 ≤ pos + gf)
 case atStart => exact ⟨0, World.iter_heap W s 0, Lib.hid ((Below.refl _ W).alloc (Nat.le_refl _) _), Lib.hid (fun i h h' => absurd h' (by omega)), by omega⟩
 case round =>
  obtain ⟨pos, hit, HB, HN, hfu⟩ := hrel
  by_cases hps : pos < s.size
  ·obtain ⟨g', rfl⟩ : ∃ g', gk = g' + 1 := ⟨gk - 1, by have := HS6.out; omega⟩
   have hin := HSL.out pos hps
   have ha : (s[pos]'hps).toNat < 128 := by
    have h1 := List.contains_iff_mem.1 hin
    simp only [List.mem_cons, List.mem_nil_iff, or_false] at h1
    rcases h1 with h | h | h | h | h | h <;> rw [h] <;> decide
   have hnx : ∀ ty, (Instr.next (.pointer (some ⟨W.heap.size, 0, none⟩)) true ty).run Tryz.prog wr = _ := fun ty => Lib.run_next_ascii_at wr W.heap.size s pos ty hit hps ha
   have hit2 := Lib.iterAt_heap wr W.heap.size s pos (pos + 1) hit
   have hbw2 := Lib.below_iterAt HB.out (k := W.heap.size) (Nat.le_refl _) s (pos + 1)
   have HNX : ∀ v, Lib.hasPrefix (rest t a) [92, s[pos]'hps] = v → v = false → ∀ i (h : i < s.size), i < pos + 1 → Lib.hasPrefix (rest t a) [92, s[i]'h] = false := fun v hv hf i h hi => by
    rcases Nat.lt_or_ge i pos with h1 | h1
    ·exact HN.out i h h1
    ·obtain rfl : i = pos := by omega
     rw [hv]; exact hf
   obtain ⟨c, hc⟩ : ∃ c, s[pos]'hps = c := ⟨_, rfl⟩
   rw [hc] at hnx ha hin HNX
   obtain ⟨X, hWd⟩ : ∃ X, wr.iterAt W.heap.size s (pos + 1) = X := ⟨_, rfl⟩
   rw [hWd] at hnx hit2 hbw2
   have hltX : W.heap.size < X.heap.size := (Array.getElem?_eq_some_iff.1 hit2).1
   have he : Utf8.encode ((c.toNat : Nat) : Int) = ⟨#[c]⟩ := by
    have hv : Utf8.valid ((c.toNat : Nat) : Int) = true := by unfold Utf8.valid; simp; omega
    unfold Utf8.encode
    simp only [hv, if_true, Int.toNat_natCast]
    rw [if_pos (by omega)]
    simp
   have hcat : (⟨#[92]⟩ : ByteArray) ++ ⟨#[c]⟩ = ⟨#[92, c]⟩ := by
    apply ByteArray.ext
    simp
   have HSX := Lib.hid (HS.out.below hbw2)
   have HBX := Lib.hid hbw2
   have HIN := Lib.hid hin
   have HNN := Lib.hid HNX
   clear hbw2 hc hWd hin HNX
   cases hv : Lib.hasPrefix (rest t a) [92, c]
   ·have HK := Lib.hid (skip_no HSX.out ⟨#[92, c]⟩ hv)
    have HV := Lib.hid hv
    clear hv
    go_wp2_with (go_at_call 112; refine HK.out.mono ?_; rintro e w2 ⟨rfl, hb2⟩)
    go_roundg g'
    case measure => omega
    case rel => exact ⟨pos + 1, (hb2.block _ hltX).trans hit2, Lib.hid (HBX.out.trans (hb2.mono HBX.out.size)), Lib.hid (HNN.out _ HV.out rfl), by omega⟩
   ·have HK := Lib.hid (skip_yes HSX.out ⟨#[92, c]⟩ hv)
    have HV := Lib.hid hv
    clear hv
    go_wp2_with (go_at_call 112; refine HK.out.mono ?_; rintro e w2 ⟨rfl, hw2⟩)
    go_ret
    exact ⟨a + 2, (HS.out.stays HBX.out).trans hw2, .inl ⟨_, escL_hit HIN.out HV.out, rfl, (rest_add t a 2).symm⟩⟩
  ·have hnx : ∀ ty, (Instr.next (.pointer (some ⟨W.heap.size, 0, none⟩)) true ty).run Tryz.prog wr = _ := fun ty => Lib.run_next_end_at wr W.heap.size s pos ty hit hps
   go_wp2
   go_ret
   refine ⟨a, HS.out.stays HB.out, .inr ⟨40, escL_miss (fun q hq => ?_), rfl⟩⟩
   obtain ⟨i, hi, hq'⟩ := HALL.out q hq
   rw [← hq']
   exact HN.out i hi (by omega)

/-! ### skipTo -/
/-- A function value that reads a part, wherever the scanner alone has gone on. -/
structure Reads (g : Nat) (lb : Array Value) (part : List UInt8 → Left) (W0 : World) (P : Nat) (t : ByteArray) : Prop where
 enters : ∀ args w, (callFunc g args).run Tryz.prog w = .ok (.enter g args) w
 reads : ∀ W c, Aside P W0 W → Scn W P t c → Calls Tryz.prog g lb W (REnds W P t (part (rest t c)))
set_option maxRecDepth 100000 in
set_option maxHeartbeats 4000000 in
theorem skipTo_any {W : World} {P a : Nat} {t : ByteArray} (h : Scn W P t a) {g : Nat} {lb : Array Value} {part : List UInt8 → Left} (hr : Reads g lb part W P t) (hp : GoesOn part) (q : UInt8) : Calls Tryz.prog 125 #[.pointer (some ⟨P, 0, none⟩), .string ⟨#[q]⟩, .func (.func g) #[] lb] W (REnds W P t (toEndA part q (rest t a))) := by
 have HS := Lib.hid h
 have eg := hr.enters
 have HR := Lib.hid hr.reads
 have HP := Lib.hid hp
 have hsz := h.2
 clear h hr hp
 go_enter Tryz.func125, Tryz.ntmps125
 go_wp2_with fail
 go_loopg [] t.size (fun gf wx => ∃ c : Nat, Hid (Went W wx P t c) ∧ Hid (toEndA part q (rest t c) = toEndA part q (rest t a)) ∧ t.size - c ≤ gf)
 case atStart => exact ⟨a, Lib.hid ⟨Aside.refl P W, HS.out⟩, Lib.hid rfl, by omega⟩
 case round =>
  obtain ⟨c, HW, HE, hc⟩ := hrel
  have hcs := HW.out.2.2
  cases hv : Lib.hasPrefix (rest t c) [q]
  ·have HK := Lib.hid (skip_no HW.out.2 ⟨#[q]⟩ hv)
   have HV := Lib.hid hv
   clear hv
   go_wp2_with fail
   go_at_call 112; refine HK.out.mono ?_; rintro e w1 ⟨rfl, hb1⟩
   have HW1 := Lib.hid (HW.out.trans (HW.out.2.stays hb1))
   have hcon := HR.out w1 c HW1.out.1 HW1.out.2
   clear hb1 HK
   cases hpr : part (rest t c) with
   | ok R' =>
    have hless := (HP.out (rest t c)).1 R' hpr
    rw [rest_length] at hless
    obtain ⟨g', rfl⟩ : ∃ g', gk = g' + 1 := ⟨gk - 1, by omega⟩
    rw [hpr] at hcon
    have HPR := Lib.hid hpr
    clear hpr
    replace hcon := hcon.mono fun _ _ h => h.isOk
    go_wp2_with (go_at_fn g; refine hcon.mono ?_; rintro e w2 ⟨rfl, b, hw2, hrb⟩)
    have hbl : t.size - b = R'.length := by rw [← hrb, rest_length]
    have HRB := Lib.hid hrb
    have HW2 := Lib.hid (HW1.out.trans hw2)
    clear hrb hw2
    go_roundg g'
    case measure => omega
    case rel => exact ⟨b, HW2, Lib.hid (by rw [HRB.out, ← HE.out, toEndA_part HP.out HV.out HPR.out]), by omega⟩
   | error d =>
    have hd := (HP.out (rest t c)).2 d hpr
    rw [hpr] at hcon
    have HPR := Lib.hid hpr
    have hd0 : (d == 0) = false := beq_eq_false_iff_ne.2 (by omega)
    have hd1 : (d != 0) = true := by simp only [bne, hd0]; rfl
    clear hpr
    replace hcon := hcon.mono fun _ _ h => h.isErr
    go_wp2_with (go_at_fn g; refine hcon.mono ?_; rintro e w2 ⟨rfl, b, hw2⟩)
    go_ret
    exact ⟨b, HW1.out.trans hw2, .inr ⟨d, by rw [← HE.out, toEndA_err HV.out HPR.out], rfl⟩⟩
  ·have HK := Lib.hid (skip_yes HW.out.2 ⟨#[q]⟩ hv)
   have HV := Lib.hid hv
   clear hv
   go_wp2_with fail
   go_at_call 112; refine HK.out.mono ?_; rintro e w1 ⟨rfl, hw1⟩
   go_wp2
   go_ret
   exact ⟨c + 1, HW.out.trans hw1, .inl ⟨_, by rw [← HE.out, toEndA_end HV.out], rfl, (rest_add t c 1).symm⟩⟩
end Go.Proofs.YtljgggohjigaoaaGreatDoor
namespace Go.Proofs.YtljgggohjigaoaaGreatDoor
open Go.RowKit Go.Shelf
set_option linter.unusedVariables false

/-- What a closure of a text or of braces has captured. -/
structure Caught (W : World) (P Q1 Q2 : Nat) (d : Int) : Prop where
 one : Blk W Q1 #[.pointer (some ⟨P, 0, none⟩)] 122
 two : Blk W Q2 #[.int .i64 d] 3
 ne : Q1 ≠ P ∧ Q2 ≠ P
theorem Caught.aside {W W' : World} {P Q1 Q2 : Nat} {d : Int} (h : Caught W P Q1 Q2 d) (ha : Aside P W W') : Caught W' P Q1 Q2 d := ⟨h.one.aside ha h.ne.1, h.two.aside ha h.ne.2, h.ne⟩
theorem asc4 : AllAscii ⟨#[34, 92, 36, 10]⟩ := ascii_of (l := [34, 92, 36, 10]) (by decide)
theorem asc5 : AllAscii ⟨#[123, 125, 34, 10]⟩ := ascii_of (l := [123, 125, 34, 10]) (by decide)
theorem runL_ok {q R : List UInt8} (h : (R.dropWhile (notIn q)).length < R.length) : runL q R = .ok (R.dropWhile (notIn q)) := by unfold runL; rw [if_pos h]
theorem runL_err {q R : List UInt8} (h : ¬ (R.dropWhile (notIn q)).length < R.length) : runL q R = .error 40 := by unfold runL; rw [if_neg h]

set_option maxRecDepth 100000 in
set_option maxHeartbeats 4000000 in
theorem textEsc {W : World} {P Q1 Q2 a : Nat} {t : ByteArray} {d : Int} {b : List UInt8 → Left} (h : Scn W P t a) (hc : Caught W P Q1 Q2 d) (h1 : Lib.hasPrefix (rest t a) [92] = true) : Calls Tryz.prog 126 #[.pointer (some ⟨Q1, 0, none⟩), .pointer (some ⟨Q2, 0, none⟩)] W (REnds W P t (textPart b (rest t a))) := by
 have e0 : textPart b (rest t a) = escL (rest t a) := by unfold textPart; rw [if_pos h1]
 rw [e0]
 have HA := Lib.hid (has_any h ⟨#[92]⟩)
 simp only [h1] at HA
 have HS := Lib.hid h
 have HC := Lib.hid hc
 have HE := Lib.hid (fun (w : World) (hs : Scn w P t a) => escape_any hs)
 have k0 := hc.one.cell 0
 clear h hc h1 e0
 go_enter Tryz.func126, Tryz.ntmps126
 go_wp2_with fail
 go_at_call 89; refine HA.out.mono ?_; rintro e w1 ⟨rfl, hb1⟩
 have HS1 := Lib.hid (HS.out.below hb1)
 have HW1 := Lib.hid (HS.out.stays hb1)
 have k1 := (HC.out.aside HW1.out.1).one.cell 0
 clear hb1 k0 HA
 go_wp2_with fail
 go_at_call 127; refine (HE.out _ HS1.out).mono ?_; rintro e w2 ⟨b2, hw2, hx⟩
 have HW2 := Lib.hid (HW1.out.trans hw2)
 clear hw2
 rcases hx with ⟨R', he, rfl, hr⟩ | ⟨c, he, rfl⟩
 ·have HX := Lib.hid he
  have HY := Lib.hid hr
  clear he hr
  go_wp2
  go_ret
  exact ⟨b2, HW2.out, .inl ⟨R', HX.out, rfl, HY.out⟩⟩
 ·have HX := Lib.hid he
  clear he
  go_wp2
  go_ret
  exact ⟨b2, HW2.out, .inr ⟨c, HX.out, rfl⟩⟩
set_option maxRecDepth 100000 in
set_option maxHeartbeats 4000000 in
theorem textIns {W : World} {P Q1 Q2 a : Nat} {t : ByteArray} {d : Int} {b : List UInt8 → Left} (h : Scn W P t a) (hc : Caught W P Q1 Q2 d) (h1 : Lib.hasPrefix (rest t a) [92] = false) (h2 : Lib.hasPrefix (rest t a) [36, 123] = true) (hd : 0 ≤ d ∧ d ≤ 24)
  (hb : ∀ W c, Scn W P t c → Lib.hasPrefix (rest t c) [123] = true → Calls Tryz.prog 128 #[.pointer (some ⟨P, 0, none⟩), .int .i64 (d + 1)] W (REnds W P t (b (rest t c)))) :
  Calls Tryz.prog 126 #[.pointer (some ⟨Q1, 0, none⟩), .pointer (some ⟨Q2, 0, none⟩)] W (REnds W P t (textPart b (rest t a))) := by
 have e0 : textPart b (rest t a) = b (rest t (a + 1)) := by unfold textPart; rw [if_neg (by rw [h1]; decide), if_pos h2, rest_add]
 rw [e0]
 have hp := pre2 h2
 have h3 : Lib.hasPrefix (rest t a) [36] = true := by rw [hp]; simp [Lib.hasPrefix, List.isPrefixOf]
 have h4 : Lib.hasPrefix (rest t (a + 1)) [123] = true := by rw [← rest_add, hp]; simp [Lib.hasPrefix, List.isPrefixOf]
 have HA := Lib.hid (fun (w : World) (hs : Scn w P t a) => has_any hs ⟨#[92]⟩)
 have HB := Lib.hid (fun (w : World) (hs : Scn w P t a) => has_any hs ⟨#[36, 123]⟩)
 simp only [h1] at HA
 simp only [h2] at HB
 have HK := Lib.hid (fun (w : World) (hs : Scn w P t a) => skip_yes hs ⟨#[36]⟩ h3)
 have HBR := Lib.hid (fun (w : World) (hs : Scn w P t (a + 1)) => hb w (a + 1) hs h4)
 have HS := Lib.hid h
 have HC := Lib.hid hc
 have k0 := hc.one.cell 0
 obtain ⟨d0, d1⟩ := hd
 clear h hc h1 h2 h3 h4 hp hb e0
 go_enter Tryz.func126, Tryz.ntmps126
 go_wp2_with fail
 go_at_call 89; refine (HA.out _ HS.out).mono ?_; rintro e w1 ⟨rfl, hb1⟩
 have HS1 := Lib.hid (HS.out.below hb1)
 have HW1 := Lib.hid (HS.out.stays hb1)
 have k1 := (HC.out.aside HW1.out.1).one.cell 0
 clear hb1 k0 HA
 go_wp2_with fail
 go_at_call 89; refine (HB.out _ HS1.out).mono ?_; rintro e w2 ⟨rfl, hb2⟩
 have HS2 := Lib.hid (HS1.out.below hb2)
 have HW2 := Lib.hid (HW1.out.trans (HS1.out.stays hb2))
 have k2 := (HC.out.aside HW2.out.1).one.cell 0
 clear hb2 k1 HB
 go_wp2_with fail
 go_at_call 112; refine (HK.out _ HS2.out).mono ?_; rintro e w3 ⟨rfl, hw3⟩
 have HS3 := Lib.hid hw3.2
 have HW3 := Lib.hid (HW2.out.trans hw3)
 have k3 := (HC.out.aside HW3.out.1).one.cell 0
 have k4 := (HC.out.aside HW3.out.1).two.cell 0
 clear hw3 k2 HK
 go_wp2_with fail
 go_at_call 128; refine (HBR.out _ HS3.out).mono ?_; rintro e w4 ⟨b2, hw4, hx⟩
 have HW4 := Lib.hid (HW3.out.trans hw4)
 clear hw4
 rcases hx with ⟨R', he, rfl, hr⟩ | ⟨c, he, rfl⟩
 ·have HX := Lib.hid he
  have HY := Lib.hid hr
  clear he hr
  go_wp2
  go_ret
  exact ⟨b2, HW4.out, .inl ⟨R', HX.out, rfl, HY.out⟩⟩
 ·have HX := Lib.hid he
  clear he
  go_wp2
  go_ret
  exact ⟨b2, HW4.out, .inr ⟨c, HX.out, rfl⟩⟩
set_option maxRecDepth 100000 in
set_option maxHeartbeats 4000000 in
theorem textDol {W : World} {P Q1 Q2 a : Nat} {t : ByteArray} {d : Int} {b : List UInt8 → Left} (h : Scn W P t a) (hc : Caught W P Q1 Q2 d) (h1 : Lib.hasPrefix (rest t a) [92] = false) (h2 : Lib.hasPrefix (rest t a) [36, 123] = false) (h3 : Lib.hasPrefix (rest t a) [36] = true) :
  Calls Tryz.prog 126 #[.pointer (some ⟨Q1, 0, none⟩), .pointer (some ⟨Q2, 0, none⟩)] W (REnds W P t (textPart b (rest t a))) := by
 have e0 : textPart b (rest t a) = .ok (rest t (a + 1)) := by unfold textPart; rw [if_neg (by rw [h1]; decide), if_neg (by rw [h2]; decide), if_pos h3, rest_add]
 rw [e0]
 have HA := Lib.hid (fun (w : World) (hs : Scn w P t a) => has_any hs ⟨#[92]⟩)
 have HB := Lib.hid (fun (w : World) (hs : Scn w P t a) => has_any hs ⟨#[36, 123]⟩)
 simp only [h1] at HA
 simp only [h2] at HB
 have HK := Lib.hid (fun (w : World) (hs : Scn w P t a) => skip_yes hs ⟨#[36]⟩ h3)
 have HS := Lib.hid h
 have HC := Lib.hid hc
 have k0 := hc.one.cell 0
 clear h hc h1 h2 h3 e0
 go_enter Tryz.func126, Tryz.ntmps126
 go_wp2_with fail
 go_at_call 89; refine (HA.out _ HS.out).mono ?_; rintro e w1 ⟨rfl, hb1⟩
 have HS1 := Lib.hid (HS.out.below hb1)
 have HW1 := Lib.hid (HS.out.stays hb1)
 have k1 := (HC.out.aside HW1.out.1).one.cell 0
 clear hb1 k0 HA
 go_wp2_with fail
 go_at_call 89; refine (HB.out _ HS1.out).mono ?_; rintro e w2 ⟨rfl, hb2⟩
 have HS2 := Lib.hid (HS1.out.below hb2)
 have HW2 := Lib.hid (HW1.out.trans (HS1.out.stays hb2))
 have k2 := (HC.out.aside HW2.out.1).one.cell 0
 clear hb2 k1 HB
 go_wp2_with fail
 go_at_call 112; refine (HK.out _ HS2.out).mono ?_; rintro e w3 ⟨rfl, hw3⟩
 go_wp2
 go_ret
 exact ⟨a + 1, HW2.out.trans hw3, .inl ⟨_, rfl, rfl, rfl⟩⟩
/-- What no sign of some takes. -/
theorem takeRun {s : ByteArray} {q : List UInt8} (hq : s.data.toList = q) (hs : AllAscii s) {W : World} {P a : Nat} {t : ByteArray} (h : Scn W P t a) {g : Nat} {lb : Array Value} (hg : Says g lb (outP s) W) : Calls Tryz.prog 84 #[.pointer (some ⟨P, 0, none⟩), .func (.func g) #[] lb] W fun e w' =>
  ∃ x b, e = .returned (.string x) ∧ Went W w' P t b ∧ rest t b = (rest t a).dropWhile (notIn q) ∧ x.toList.isEmpty = decide (¬ ((rest t a).dropWhile (notIn q)).length < (rest t a).length) := by
 have hb := outP_bytes hs h.2.1
 rw [show (rest t a).dropWhile (fun c => !s.data.toList.contains c) = (rest t a).dropWhile (notIn q) by rw [hq]; rfl] at hb
 refine (take_to h hg hb rfl).mono ?_
 rintro e w' ⟨rfl, hw⟩
 have hl := dropWhile_le (q := notIn q) (rest t a)
 have hr := rest_length t a
 refine ⟨_, _, rfl, hw, rest_back hb.1, ?_⟩
 generalize (rest t a).dropWhile (notIn q) = D at *
 have ha := h.2.1
 rw [ByteArray.toList_eq]
 have hsz : (t.extract a (t.size - D.length)).data.toList.length = t.size - D.length - a := by
  rw [Lib.extract_data]; simp; omega
 generalize (t.extract a (t.size - D.length)).data.toList = l at hsz
 cases l with
 | nil => simp at hsz ⊢; omega
 | cons c l => simp at hsz ⊢; omega
set_option maxRecDepth 100000 in
set_option maxHeartbeats 4000000 in
theorem textRun {W : World} {P Q1 Q2 a : Nat} {t : ByteArray} {d : Int} {b : List UInt8 → Left} (h : Scn W P t a) (hc : Caught W P Q1 Q2 d) (h1 : Lib.hasPrefix (rest t a) [92] = false) (h2 : Lib.hasPrefix (rest t a) [36, 123] = false) (h3 : Lib.hasPrefix (rest t a) [36] = false) :
  Calls Tryz.prog 126 #[.pointer (some ⟨Q1, 0, none⟩), .pointer (some ⟨Q2, 0, none⟩)] W (REnds W P t (textPart b (rest t a))) := by
 have e0 : textPart b (rest t a) = runL [34, 92, 36, 10] (rest t a) := by unfold textPart; rw [if_neg (by rw [h1]; decide), if_neg (by rw [h2]; decide), if_neg (by rw [h3]; decide)]
 rw [e0]
 have HA := Lib.hid (fun (w : World) (hs : Scn w P t a) => has_any hs ⟨#[92]⟩)
 have HB := Lib.hid (fun (w : World) (hs : Scn w P t a) => has_any hs ⟨#[36, 123]⟩)
 simp only [h1] at HA
 simp only [h2] at HB
 have HK := Lib.hid (fun (w : World) (hs : Scn w P t a) => skip_no hs ⟨#[36]⟩ h3)
 have HN := Lib.hid (fun w => noneOf_any asc4 (by decide) w)
 have HT := Lib.hid (fun (w : World) (hs : Scn w P t a) (g : Nat) (lb : Array Value) (hg : Says g lb (outP ⟨#[34, 92, 36, 10]⟩) w) => takeRun (q := [34, 92, 36, 10]) rfl asc4 hs hg)
 have HS := Lib.hid h
 have HC := Lib.hid hc
 have k0 := hc.one.cell 0
 clear h hc h1 h2 h3 e0
 go_enter Tryz.func126, Tryz.ntmps126
 go_wp2_with fail
 go_at_call 89; refine (HA.out _ HS.out).mono ?_; rintro e w1 ⟨rfl, hb1⟩
 have HS1 := Lib.hid (HS.out.below hb1)
 have HW1 := Lib.hid (HS.out.stays hb1)
 have k1 := (HC.out.aside HW1.out.1).one.cell 0
 clear hb1 k0 HA
 go_wp2_with fail
 go_at_call 89; refine (HB.out _ HS1.out).mono ?_; rintro e w2 ⟨rfl, hb2⟩
 have HS2 := Lib.hid (HS1.out.below hb2)
 have HW2 := Lib.hid (HW1.out.trans (HS1.out.stays hb2))
 have k2 := (HC.out.aside HW2.out.1).one.cell 0
 clear hb2 k1 HB
 go_wp2_with fail
 go_at_call 112; refine (HK.out _ HS2.out).mono ?_; rintro e w3 ⟨rfl, hb3⟩
 have HS3 := Lib.hid (HS2.out.below hb3)
 have HW3 := Lib.hid (HW2.out.trans (HS2.out.stays hb3))
 have k3 := (HC.out.aside HW3.out.1).one.cell 0
 clear hb3 k2 HK
 by_cases hlt : ((rest t a).dropWhile (notIn [34, 92, 36, 10])).length < (rest t a).length
 all_goals
  have HL := Lib.hid hlt
  first | (have hdl : decide (¬ ((rest t a).dropWhile (notIn [34, 92, 36, 10])).length < (rest t a).length) = false := decide_eq_false (fun h => h hlt)) | (have hdl : decide (¬ ((rest t a).dropWhile (notIn [34, 92, 36, 10])).length < (rest t a).length) = true := decide_eq_true hlt)
  rw [hdl] at HT
  clear hlt hdl
  go_wp2_with fail
  go_region_law (first
   | (go_simp; go_at_call 110; refine (HN.out _).mono ?_; rintro e w4 ⟨⟨lb, rfl, hsay⟩, hb4⟩; have HS4 := Lib.hid ((HS3.out.below (Below.refl _ w3).drew).below hb4); have k4 := cells_keep hb4 k3)
   | (go_simp; go_at_call 84; refine (HT.out _ HS4.out _ _ hsay).mono ?_; rintro e w5 ⟨x, b5, rfl, hw5, hr5, hx5⟩; have k5 := ((HC.out.aside HW3.out.1).aside (HS3.out.stays (((Below.refl _ w3).drew).trans hb4)).1 |>.aside hw5.1).one.cell 0; have HW5 := Lib.hid ((HW3.out.trans (HS3.out.stays (((Below.refl _ w3).drew).trans hb4))).trans hw5); have HR5 := Lib.hid hr5; clear hr5))
  all_goals
   clear hsay hb4 hw5
   go_wp2
   go_ret
   first
    | exact ⟨b5, HW5.out, .inl ⟨_, runL_ok HL.out, rfl, HR5.out⟩⟩
    | exact ⟨b5, HW5.out, .inr ⟨40, runL_err HL.out, rfl⟩⟩
/-- A text's part. -/
theorem text_part {W : World} {P Q1 Q2 a : Nat} {t : ByteArray} {d : Int} {b : List UInt8 → Left} (h : Scn W P t a) (hc : Caught W P Q1 Q2 d) (hd : 0 ≤ d ∧ d ≤ 24)
  (hb : ∀ W c, Scn W P t c → Lib.hasPrefix (rest t c) [123] = true → Calls Tryz.prog 128 #[.pointer (some ⟨P, 0, none⟩), .int .i64 (d + 1)] W (REnds W P t (b (rest t c)))) :
  Calls Tryz.prog 126 #[.pointer (some ⟨Q1, 0, none⟩), .pointer (some ⟨Q2, 0, none⟩)] W (REnds W P t (textPart b (rest t a))) := by
 cases h1 : Lib.hasPrefix (rest t a) [92]
 ·cases h2 : Lib.hasPrefix (rest t a) [36, 123]
  ·cases h3 : Lib.hasPrefix (rest t a) [36]
   ·exact textRun h hc h1 h2 h3
   ·exact textDol h hc h1 h2 h3
  ·exact textIns h hc h1 h2 hd hb
 ·exact textEsc h hc h1
end Go.Proofs.YtljgggohjigaoaaGreatDoor
namespace Go.Proofs.YtljgggohjigaoaaGreatDoor
open Go.RowKit Go.Shelf
set_option linter.unusedVariables false

set_option maxRecDepth 100000 in
set_option maxHeartbeats 4000000 in
theorem braceRun {W : World} {P Q1 Q2 a : Nat} {t : ByteArray} {d : Int} {b tx : List UInt8 → Left} (h : Scn W P t a) (hc : Caught W P Q1 Q2 d) (h1 : Lib.hasPrefix (rest t a) [123] = false) (h2 : Lib.hasPrefix (rest t a) [34] = false) :
  Calls Tryz.prog 144 #[.pointer (some ⟨Q1, 0, none⟩), .pointer (some ⟨Q2, 0, none⟩)] W (REnds W P t (bracePart b tx (rest t a))) := by
 have e0 : bracePart b tx (rest t a) = runL [123, 125, 34, 10] (rest t a) := by unfold bracePart; rw [if_neg (by rw [h1]; decide), if_neg (by rw [h2]; decide)]
 rw [e0]
 have HA := Lib.hid (fun (w : World) (hs : Scn w P t a) => has_any hs ⟨#[123]⟩)
 have HB := Lib.hid (fun (w : World) (hs : Scn w P t a) => has_any hs ⟨#[34]⟩)
 simp only [h1] at HA
 simp only [h2] at HB
 have HN := Lib.hid (fun w => noneOf_any asc5 (by decide) w)
 have HT := Lib.hid (fun (w : World) (hs : Scn w P t a) (g : Nat) (lb : Array Value) (hg : Says g lb (outP ⟨#[123, 125, 34, 10]⟩) w) => takeRun (q := [123, 125, 34, 10]) rfl asc5 hs hg)
 have HS := Lib.hid h
 have HC := Lib.hid hc
 have k0 := hc.one.cell 0
 clear h hc h1 h2 e0
 go_enter Tryz.func144, Tryz.ntmps144
 go_wp2_with fail
 go_at_call 89; refine (HA.out _ HS.out).mono ?_; rintro e w1 ⟨rfl, hb1⟩
 have HS1 := Lib.hid (HS.out.below hb1)
 have HW1 := Lib.hid (HS.out.stays hb1)
 have k1 := (HC.out.aside HW1.out.1).one.cell 0
 clear hb1 k0 HA
 go_wp2_with fail
 go_at_call 89; refine (HB.out _ HS1.out).mono ?_; rintro e w2 ⟨rfl, hb2⟩
 have HS2 := Lib.hid (HS1.out.below hb2)
 have HW2 := Lib.hid (HW1.out.trans (HS1.out.stays hb2))
 have k2 := (HC.out.aside HW2.out.1).one.cell 0
 clear hb2 k1 HB
 by_cases hlt : ((rest t a).dropWhile (notIn [123, 125, 34, 10])).length < (rest t a).length
 all_goals
  have HL := Lib.hid hlt
  first | (have hdl : decide (¬ ((rest t a).dropWhile (notIn [123, 125, 34, 10])).length < (rest t a).length) = false := decide_eq_false (fun h => h hlt)) | (have hdl : decide (¬ ((rest t a).dropWhile (notIn [123, 125, 34, 10])).length < (rest t a).length) = true := decide_eq_true hlt)
  rw [hdl] at HT
  clear hlt hdl
  go_wp2_with fail
  go_region_law (first
   | (go_simp; go_at_call 110; refine (HN.out _).mono ?_; rintro e w4 ⟨⟨lb, rfl, hsay⟩, hb4⟩; have HS4 := Lib.hid ((HS2.out.below (Below.refl _ w2).drew).below hb4); have k4 := cells_keep hb4 k2)
   | (go_simp; go_at_call 84; refine (HT.out _ HS4.out _ _ hsay).mono ?_; rintro e w5 ⟨x, b5, rfl, hw5, hr5, hx5⟩; have k5 := ((HC.out.aside HW2.out.1).aside (HS2.out.stays (((Below.refl _ w2).drew).trans hb4)).1 |>.aside hw5.1).one.cell 0; have HW5 := Lib.hid ((HW2.out.trans (HS2.out.stays (((Below.refl _ w2).drew).trans hb4))).trans hw5); have HR5 := Lib.hid hr5; clear hr5))
  all_goals
   clear hsay hb4 hw5
   go_wp2
   go_ret
   first
    | exact ⟨b5, HW5.out, .inl ⟨_, runL_ok HL.out, rfl, HR5.out⟩⟩
    | exact ⟨b5, HW5.out, .inr ⟨40, runL_err HL.out, rfl⟩⟩

set_option maxRecDepth 100000 in
set_option maxHeartbeats 4000000 in
theorem braceIn {W : World} {P Q1 Q2 a : Nat} {t : ByteArray} {d : Int} {b tx : List UInt8 → Left} (h : Scn W P t a) (hc : Caught W P Q1 Q2 d) (h1 : Lib.hasPrefix (rest t a) [123] = true) (hd : 0 ≤ d ∧ d ≤ 24)
  (hb : ∀ W c, Scn W P t c → Lib.hasPrefix (rest t c) [123] = true → Calls Tryz.prog 128 #[.pointer (some ⟨P, 0, none⟩), .int .i64 (d + 1)] W (REnds W P t (b (rest t c)))) :
  Calls Tryz.prog 144 #[.pointer (some ⟨Q1, 0, none⟩), .pointer (some ⟨Q2, 0, none⟩)] W (REnds W P t (bracePart b tx (rest t a))) := by
 have e0 : bracePart b tx (rest t a) = b (rest t a) := by unfold bracePart; rw [if_pos h1]
 rw [e0]
 have HA := Lib.hid (fun (w : World) (hs : Scn w P t a) => has_any hs ⟨#[123]⟩)
 simp only [h1] at HA
 have HBR := Lib.hid (fun (w : World) (hs : Scn w P t a) => hb w a hs h1)
 have HS := Lib.hid h
 have HC := Lib.hid hc
 have k0 := hc.one.cell 0
 obtain ⟨d0, d1⟩ := hd
 clear h hc h1 hb e0
 go_enter Tryz.func144, Tryz.ntmps144
 go_wp2_with fail
 go_at_call 89; refine (HA.out _ HS.out).mono ?_; rintro e w1 ⟨rfl, hb1⟩
 have HS1 := Lib.hid (HS.out.below hb1)
 have HW1 := Lib.hid (HS.out.stays hb1)
 have k1 := (HC.out.aside HW1.out.1).one.cell 0
 have k2 := (HC.out.aside HW1.out.1).two.cell 0
 clear hb1 k0 HA
 go_wp2_with fail
 go_at_call 128; refine (HBR.out _ HS1.out).mono ?_; rintro e w4 ⟨b2, hw4, hx⟩
 have HW4 := Lib.hid (HW1.out.trans hw4)
 clear hw4
 rcases hx with ⟨R', he, rfl, hr⟩ | ⟨c, he, rfl⟩
 ·have HX := Lib.hid he
  have HY := Lib.hid hr
  clear he hr
  go_wp2
  go_ret
  exact ⟨b2, HW4.out, .inl ⟨R', HX.out, rfl, HY.out⟩⟩
 ·have HX := Lib.hid he
  clear he
  go_wp2
  go_ret
  exact ⟨b2, HW4.out, .inr ⟨c, HX.out, rfl⟩⟩
set_option maxRecDepth 100000 in
set_option maxHeartbeats 4000000 in
theorem braceText {W : World} {P Q1 Q2 a : Nat} {t : ByteArray} {d : Int} {b tx : List UInt8 → Left} (h : Scn W P t a) (hc : Caught W P Q1 Q2 d) (h1 : Lib.hasPrefix (rest t a) [123] = false) (h2 : Lib.hasPrefix (rest t a) [34] = true)
  (ht : ∀ W c, Scn W P t c → Lib.hasPrefix (rest t c) [34] = true → Calls Tryz.prog 113 #[.pointer (some ⟨P, 0, none⟩), .int .i64 d] W (REnds W P t (tx (rest t c)))) :
  Calls Tryz.prog 144 #[.pointer (some ⟨Q1, 0, none⟩), .pointer (some ⟨Q2, 0, none⟩)] W (REnds W P t (bracePart b tx (rest t a))) := by
 have e0 : bracePart b tx (rest t a) = tx (rest t a) := by unfold bracePart; rw [if_neg (by rw [h1]; decide), if_pos h2]
 rw [e0]
 have HA := Lib.hid (fun (w : World) (hs : Scn w P t a) => has_any hs ⟨#[123]⟩)
 have HB := Lib.hid (fun (w : World) (hs : Scn w P t a) => has_any hs ⟨#[34]⟩)
 simp only [h1] at HA
 simp only [h2] at HB
 have HBR := Lib.hid (fun (w : World) (hs : Scn w P t a) => ht w a hs h2)
 have HS := Lib.hid h
 have HC := Lib.hid hc
 have k0 := hc.one.cell 0
 clear h hc h1 h2 ht e0
 go_enter Tryz.func144, Tryz.ntmps144
 go_wp2_with fail
 go_at_call 89; refine (HA.out _ HS.out).mono ?_; rintro e w1 ⟨rfl, hb1⟩
 have HS1 := Lib.hid (HS.out.below hb1)
 have HW1 := Lib.hid (HS.out.stays hb1)
 have k1 := (HC.out.aside HW1.out.1).one.cell 0
 clear hb1 k0 HA
 go_wp2_with fail
 go_at_call 89; refine (HB.out _ HS1.out).mono ?_; rintro e w2 ⟨rfl, hb2⟩
 have HS2 := Lib.hid (HS1.out.below hb2)
 have HW2 := Lib.hid (HW1.out.trans (HS1.out.stays hb2))
 have k2 := (HC.out.aside HW2.out.1).one.cell 0
 have k3 := (HC.out.aside HW2.out.1).two.cell 0
 clear hb2 k1 HB
 go_wp2_with fail
 go_at_call 113; refine (HBR.out _ HS2.out).mono ?_; rintro e w4 ⟨b2, hw4, hx⟩
 have HW4 := Lib.hid (HW2.out.trans hw4)
 clear hw4
 rcases hx with ⟨R', he, rfl, hr⟩ | ⟨c, he, rfl⟩
 ·have HX := Lib.hid he
  have HY := Lib.hid hr
  clear he hr
  go_wp2
  go_ret
  exact ⟨b2, HW4.out, .inl ⟨R', HX.out, rfl, HY.out⟩⟩
 ·have HX := Lib.hid he
  clear he
  go_wp2
  go_ret
  exact ⟨b2, HW4.out, .inr ⟨c, HX.out, rfl⟩⟩
theorem brace_part {W : World} {P Q1 Q2 a : Nat} {t : ByteArray} {d : Int} {b tx : List UInt8 → Left} (h : Scn W P t a) (hc : Caught W P Q1 Q2 d) (hd : 0 ≤ d ∧ d ≤ 24)
  (hb : ∀ W c, Scn W P t c → Lib.hasPrefix (rest t c) [123] = true → Calls Tryz.prog 128 #[.pointer (some ⟨P, 0, none⟩), .int .i64 (d + 1)] W (REnds W P t (b (rest t c))))
  (ht : ∀ W c, Scn W P t c → Lib.hasPrefix (rest t c) [34] = true → Calls Tryz.prog 113 #[.pointer (some ⟨P, 0, none⟩), .int .i64 d] W (REnds W P t (tx (rest t c)))) :
  Calls Tryz.prog 144 #[.pointer (some ⟨Q1, 0, none⟩), .pointer (some ⟨Q2, 0, none⟩)] W (REnds W P t (bracePart b tx (rest t a))) := by
 cases h1 : Lib.hasPrefix (rest t a) [123]
 ·cases h2 : Lib.hasPrefix (rest t a) [34]
  ·exact braceRun h hc h1 h2
  ·exact braceText h hc h1 h2 ht
 ·exact braceIn h hc h1 hd hb

theorem caught_new {W : World} {P a : Nat} {t : ByteArray} (h : Scn W P t a) (d : Int) : Below W.heap.size W ((W.alloc (.cells #[.pointer (some ⟨P, 0, none⟩)] 122)).alloc (.cells #[.int .i64 d] 3)) ∧ Caught ((W.alloc (.cells #[.pointer (some ⟨P, 0, none⟩)] 122)).alloc (.cells #[.int .i64 d] 3)) P W.heap.size (W.heap.size + 1) d := by
 have hP := h.1.lt
 refine ⟨(below_new W _).alloc (by simp) _, ⟨(Blk.new W _ _).alloc _, ?_, by omega, by omega⟩⟩
 have := Blk.new (W.alloc (.cells #[.pointer (some ⟨P, 0, none⟩)] 122)) #[.int .i64 d] 3
 simpa using this
set_option maxRecDepth 100000 in
set_option maxHeartbeats 4000000 in
theorem text_read {W : World} {P a : Nat} {t : ByteArray} {d : Int} {b : List UInt8 → Left} (h : Scn W P t a) (h1 : Lib.hasPrefix (rest t a) [34] = true) (hd : 0 ≤ d ∧ d ≤ 24) (hg : GoesOn b)
  (hb : ∀ W c, Scn W P t c → Lib.hasPrefix (rest t c) [123] = true → Calls Tryz.prog 128 #[.pointer (some ⟨P, 0, none⟩), .int .i64 (d + 1)] W (REnds W P t (b (rest t c)))) :
  Calls Tryz.prog 113 #[.pointer (some ⟨P, 0, none⟩), .int .i64 d] W (REnds W P t (textL b (rest t a))) := by
 have hmf := hmf
 obtain ⟨hb0, hc0⟩ := caught_new h d
 have HB0 := Lib.hid hb0
 have HC0 := Lib.hid hc0
 have HK := Lib.hid (fun (w : World) (hs : Scn w P t a) => skip_yes hs ⟨#[34]⟩ h1)
 have HT := Lib.hid (fun (w : World) (hs : Scn w P t (a + 1)) (hc : Caught w P W.heap.size (W.heap.size + 1) d) => skipTo_any (lb := #[.pointer (some ⟨W.heap.size, 0, none⟩), .pointer (some ⟨W.heap.size + 1, 0, none⟩)]) hs ⟨enters_of Tryz.func126 (by kernel_rfl) rfl, fun w' c ha hs' => text_part hs' (hc.aside ha) hd hb⟩ (textPart_on hg) 34)
 have e0 : textL b (rest t a) = toEndA (textPart b) 34 (rest t (a + 1)) := by unfold textL; rw [rest_add]
 rw [e0]
 have HS := Lib.hid (h.below hb0)
 have HS0 := Lib.hid (h.stays hb0)
 have k0 := hc0.one.cell 0
 clear h h1 hb hb0 hc0 e0 hg
 go_enter Tryz.func113, Tryz.ntmps113
 go_wp2_with fail
 go_at_call 112; refine (HK.out _ HS.out).mono ?_; rintro e w1 ⟨rfl, hw1⟩
 have HW1 := Lib.hid (HS0.out.trans hw1)
 have HC1 := Lib.hid (HC0.out.aside hw1.1)
 have k1 := HC1.out.one.cell 0
 clear hw1 k0 HK
 go_wp2_with fail
 go_at_call 125; refine (HT.out _ HW1.out.2 HC1.out).mono ?_; rintro e w4 ⟨b2, hw4, hx⟩
 have HW4 := Lib.hid (HW1.out.trans hw4)
 clear hw4
 rcases hx with ⟨R', he, rfl, hr⟩ | ⟨c, he, rfl⟩
 ·have HX := Lib.hid he
  have HY := Lib.hid hr
  clear he hr
  go_wp2
  go_ret
  exact ⟨b2, HW4.out, .inl ⟨R', HX.out, rfl, HY.out⟩⟩
 ·have HX := Lib.hid he
  clear he
  go_wp2
  go_ret
  exact ⟨b2, HW4.out, .inr ⟨c, HX.out, rfl⟩⟩
end Go.Proofs.YtljgggohjigaoaaGreatDoor
