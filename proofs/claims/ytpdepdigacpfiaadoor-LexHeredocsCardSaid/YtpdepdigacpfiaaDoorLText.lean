/- skipEscape, skipTo, skipText, skipBraces. -/
import Derived.Test.YtpdepdigacpfiaaDoorLSpec2
import Derived.Test.YtpdepdigacpfiaaDoorLRemark
import Derived.Deep.RegionLaw
namespace Go.Proofs.YtpdepdigacpfiaaDoor
open Go.RowKit Go.Shelf
set_option linter.unusedVariables false

/-- How a reader ends: behind what it read, or with what is wrong. -/
def REnds (W : World) (P : Nat) (t : ByteArray) (r : Left) (e : Ending) (w' : World) : Prop :=
  ∃ b, Went W w' P t b ∧ ((∃ R', r = .ok R' ∧ e = .returned (.int .i64 0) ∧ rest t b = R') ∨ (∃ c, r = .error c ∧ e = .returned (.int .i64 c)))
theorem REnds.after {W W1 w' : World} {P b : Nat} {t : ByteArray} {r : Left} {e : Ending} (hw : Went W W1 P t b) (h : REnds W1 P t r e w') : REnds W P t r e w' := by
  obtain ⟨c, h1, h2⟩ := h
  exact ⟨c, hw.trans h1, h2⟩
theorem REnds.isErr {W w' : World} {P : Nat} {t : ByteArray} {d : Int} {e : Ending} (h : REnds W P t (.error d) e w') : e = .returned (.int .i64 d) ∧ ∃ b, Went W w' P t b := by
  obtain ⟨b, h1, ⟨R', h2, -⟩ | ⟨c, h2, h3⟩⟩ := h
  · cases h2
  · cases h2; exact ⟨h3, b, h1⟩
theorem REnds.isOk {W w' : World} {P : Nat} {t : ByteArray} {R : List UInt8} {e : Ending} (h : REnds W P t (.ok R) e w') : e = .returned (.int .i64 0) ∧ ∃ b, Went W w' P t b ∧ rest t b = R := by
  obtain ⟨b, h1, ⟨R', h2, h3, h4⟩ | ⟨c, h2, -⟩⟩ := h
  · cases h2; exact ⟨h3, b, h1, h4⟩
  · cases h2

/-! ### skipEscape -/
theorem pre2 {R : List UInt8} {p q : UInt8} (h : Lib.hasPrefix R [p, q] = true) : R = p :: q :: R.drop 2 := by
  match R, h with
  | [], h => simp [Lib.hasPrefix] at h
  | [a], h => simp [Lib.hasPrefix, List.isPrefixOf] at h
  | a :: b :: r, h =>
    simp [Lib.hasPrefix, List.isPrefixOf] at h
    simp [h]
theorem escL_hit {R : List UInt8} {q : UInt8} (hq : [34, 92, 110, 116, 114, 36].contains q = true) (h : Lib.hasPrefix R [92, q] = true) : escL R = .ok (R.drop 2) := by
  obtain ⟨r, hr⟩ : ∃ r, R.drop 2 = r := ⟨_, rfl⟩
  have e := pre2 h
  rw [hr] at e ⊢
  rw [e]
  show (if [34, 92, 110, 116, 114, 36].contains q then Except.ok r else Except.error 40) = Except.ok r
  rw [if_pos hq]
theorem escL_miss {R : List UInt8} (h : ∀ q ∈ [34, 92, 110, 116, 114, 36], Lib.hasPrefix R [92, q] = false) : escL R = .error 40 := by
  unfold escL
  split
  · rename_i c r
    split
    · rename_i hc
      have := h c (List.contains_iff_mem.1 hc)
      simp [Lib.hasPrefix, List.isPrefixOf] at this
    · rfl
  · rfl
set_option maxRecDepth 100000 in
set_option maxHeartbeats 4000000 in
theorem escape_any {W : World} {P a : Nat} {t : ByteArray} (h : Scn W P t a) : Calls Tryd.prog 48 #[.pointer (some ⟨P, 0, none⟩)] W (REnds W P t (escL (rest t a))) := by
  have HS := Lib.hid h
  have hsz := h.2
  have hPlt := h.1.lt
  obtain ⟨s, hs⟩ : ∃ s : ByteArray, (⟨#[34, 92, 110, 116, 114, 36]⟩ : ByteArray) = s := ⟨_, rfl⟩
  have hs6 : s.size = 6 := by rw [← hs]; rfl
  have hsl : ∀ (i : Nat) (h : i < s.size), [34, 92, 110, 116, 114, 36].contains (s[i]'h) = true := by
    subst hs
    intro i h
    have h6 : i < 6 := h
    rcases (show i = 0 ∨ i = 1 ∨ i = 2 ∨ i = 3 ∨ i = 4 ∨ i = 5 by omega) with rfl | rfl | rfl | rfl | rfl | rfl <;> rfl
  have hall : ∀ q ∈ [34, 92, 110, 116, 114, 36], ∃ (i : Nat) (h : i < s.size), (s[i]'h) = q := by
    subst hs
    intro q hq
    simp only [List.mem_cons, List.mem_nil_iff, or_false] at hq
    rcases hq with rfl | rfl | rfl | rfl | rfl | rfl
    · exact ⟨0, by decide, rfl⟩
    · exact ⟨1, by decide, rfl⟩
    · exact ⟨2, by decide, rfl⟩
    · exact ⟨3, by decide, rfl⟩
    · exact ⟨4, by decide, rfl⟩
    · exact ⟨5, by decide, rfl⟩
  have HSL := Lib.hid hsl
  have HALL := Lib.hid hall
  have HS6 := Lib.hid hs6
  have HSE := Lib.hid hs
  clear h hsl hall hs6 hs
  go_enter Tryd.func48, Tryd.ntmps48
  go_wp2_with fail
  rw [HSE.out]
  go_loopg [] 6 (fun gf wx => ∃ pos : Nat, wx.heap[W.heap.size]? = some (.stringIter s pos) ∧ Hid (Below W.heap.size W wx) ∧ Hid (∀ i (h : i < s.size), i < pos → Lib.hasPrefix (rest t a) [92, s[i]'h] = false) ∧ 6 ≤ pos + gf)
  case atStart => exact ⟨0, World.iter_heap W s 0, Lib.hid ((Below.refl _ W).alloc (Nat.le_refl _) _), Lib.hid (fun i h h' => absurd h' (by omega)), by omega⟩
  case round =>
    obtain ⟨pos, hit, HB, HN, hfu⟩ := hrel
    by_cases hps : pos < s.size
    · obtain ⟨g', rfl⟩ : ∃ g', gk = g' + 1 := ⟨gk - 1, by have := HS6.out; omega⟩
      have hin := HSL.out pos hps
      have ha : (s[pos]'hps).toNat < 128 := by
        have h1 := List.contains_iff_mem.1 hin
        simp only [List.mem_cons, List.mem_nil_iff, or_false] at h1
        rcases h1 with h | h | h | h | h | h <;> rw [h] <;> decide
      have hnx : ∀ ty, (Instr.next (.pointer (some ⟨W.heap.size, 0, none⟩)) true ty).run Tryd.prog wr = _ := fun ty => Lib.run_next_ascii_at wr W.heap.size s pos ty hit hps ha
      have hit2 := Lib.iterAt_heap wr W.heap.size s pos (pos + 1) hit
      have hbw2 := Lib.below_iterAt HB.out (k := W.heap.size) (Nat.le_refl _) s (pos + 1)
      have HNX : ∀ v, Lib.hasPrefix (rest t a) [92, s[pos]'hps] = v → v = false → ∀ i (h : i < s.size), i < pos + 1 → Lib.hasPrefix (rest t a) [92, s[i]'h] = false := fun v hv hf i h hi => by
        rcases Nat.lt_or_ge i pos with h1 | h1
        · exact HN.out i h h1
        · obtain rfl : i = pos := by omega
          rw [hv]; exact hf
      obtain ⟨c, hc⟩ : ∃ c, s[pos]'hps = c := ⟨_, rfl⟩
      rw [hc] at hnx ha hin HNX
      obtain ⟨X, hWd⟩ : ∃ X, wr.iterAt W.heap.size s (pos + 1) = X := ⟨_, rfl⟩
      rw [hWd] at hnx hit2 hbw2
      have hltX : W.heap.size < X.heap.size := (Array.getElem?_eq_some_iff.1 hit2).1
      have he : Utf8.encode ((c.toNat : Nat) : Int) = ⟨#[c]⟩ := by
        have hv : Utf8.valid ((c.toNat : Nat) : Int) = true := by unfold Utf8.valid; simp; omega
        unfold Utf8.encode
        simp only [hv, if_true, Int.toNat_natCast]
        rw [if_pos (by omega)]
        simp
      have hcat : (⟨#[92]⟩ : ByteArray) ++ ⟨#[c]⟩ = ⟨#[92, c]⟩ := by
        apply ByteArray.ext
        simp
      have HSX := Lib.hid (HS.out.below hbw2)
      have HBX := Lib.hid hbw2
      have HIN := Lib.hid hin
      have HNN := Lib.hid HNX
      clear hbw2 hc hWd hin HNX
      cases hv : Lib.hasPrefix (rest t a) [92, c]
      · have HK := Lib.hid (skip_no HSX.out ⟨#[92, c]⟩ hv)
        have HV := Lib.hid hv
        clear hv
        go_wp2_with (go_at_call 37; refine HK.out.mono ?_; rintro e w2 ⟨rfl, hb2⟩)
        go_roundg g'
        case measure => omega
        case rel => exact ⟨pos + 1, (hb2.block _ hltX).trans hit2, Lib.hid (HBX.out.trans (hb2.mono HBX.out.size)), Lib.hid (HNN.out _ HV.out rfl), by omega⟩
      · have HK := Lib.hid (skip_yes HSX.out ⟨#[92, c]⟩ hv)
        have HV := Lib.hid hv
        clear hv
        go_wp2_with (go_at_call 37; refine HK.out.mono ?_; rintro e w2 ⟨rfl, hw2⟩)
        go_ret
        exact ⟨a + 2, (HS.out.stays HBX.out).trans hw2, .inl ⟨_, escL_hit HIN.out HV.out, rfl, (rest_add t a 2).symm⟩⟩
    · have hnx : ∀ ty, (Instr.next (.pointer (some ⟨W.heap.size, 0, none⟩)) true ty).run Tryd.prog wr = _ := fun ty => Lib.run_next_end_at wr W.heap.size s pos ty hit hps
      go_wp2
      go_ret
      refine ⟨a, HS.out.stays HB.out, .inr ⟨40, escL_miss (fun q hq => ?_), rfl⟩⟩
      obtain ⟨i, hi, hq'⟩ := HALL.out q hq
      rw [← hq']
      exact HN.out i hi (by omega)

/-! ### skipTo -/
/-- A function value that reads a part, wherever the scanner alone has gone on. -/
structure Reads (g : Nat) (lb : Array Value) (part : List UInt8 → Left) (W0 : World) (P : Nat) (t : ByteArray) : Prop where
  enters : ∀ args w, (callFunc g args).run Tryd.prog w = .ok (.enter g args) w
  reads : ∀ W c, Aside P W0 W → Scn W P t c → Calls Tryd.prog g lb W (REnds W P t (part (rest t c)))
set_option maxRecDepth 100000 in
set_option maxHeartbeats 4000000 in
theorem skipTo_any {W : World} {P a : Nat} {t : ByteArray} (h : Scn W P t a) {g : Nat} {lb : Array Value} {part : List UInt8 → Left} (hr : Reads g lb part W P t) (hp : GoesOn part) (q : UInt8) : Calls Tryd.prog 46 #[.pointer (some ⟨P, 0, none⟩), .string ⟨#[q]⟩, .func (.func g) #[] lb] W (REnds W P t (toEndA part q (rest t a))) := by
  have HS := Lib.hid h
  have eg := hr.enters
  have HR := Lib.hid hr.reads
  have HP := Lib.hid hp
  have hsz := h.2
  clear h hr hp
  go_enter Tryd.func46, Tryd.ntmps46
  go_wp2_with fail
  go_loopg [] t.size (fun gf wx => ∃ c : Nat, Hid (Went W wx P t c) ∧ Hid (toEndA part q (rest t c) = toEndA part q (rest t a)) ∧ t.size - c ≤ gf)
  case atStart => exact ⟨a, Lib.hid ⟨Aside.refl P W, HS.out⟩, Lib.hid rfl, by omega⟩
  case round =>
    obtain ⟨c, HW, HE, hc⟩ := hrel
    have hcs := HW.out.2.2
    cases hv : Lib.hasPrefix (rest t c) [q]
    · have HK := Lib.hid (skip_no HW.out.2 ⟨#[q]⟩ hv)
      have HV := Lib.hid hv
      clear hv
      go_wp2_with fail
      go_at_call 37; refine HK.out.mono ?_; rintro e w1 ⟨rfl, hb1⟩
      have HW1 := Lib.hid (HW.out.trans (HW.out.2.stays hb1))
      have hcon := HR.out w1 c HW1.out.1 HW1.out.2
      clear hb1 HK
      cases hpr : part (rest t c) with
      | ok R' =>
        have hless := (HP.out (rest t c)).1 R' hpr
        rw [rest_length] at hless
        obtain ⟨g', rfl⟩ : ∃ g', gk = g' + 1 := ⟨gk - 1, by omega⟩
        rw [hpr] at hcon
        have HPR := Lib.hid hpr
        clear hpr
        replace hcon := hcon.mono fun _ _ h => h.isOk
        go_wp2_with (go_at_fn g; refine hcon.mono ?_; rintro e w2 ⟨rfl, b, hw2, hrb⟩)
        have hbl : t.size - b = R'.length := by rw [← hrb, rest_length]
        have HRB := Lib.hid hrb
        have HW2 := Lib.hid (HW1.out.trans hw2)
        clear hrb hw2
        go_roundg g'
        case measure => omega
        case rel => exact ⟨b, HW2, Lib.hid (by rw [HRB.out, ← HE.out, toEndA_part HP.out HV.out HPR.out]), by omega⟩
      | error d =>
        have hd := (HP.out (rest t c)).2 d hpr
        rw [hpr] at hcon
        have HPR := Lib.hid hpr
        have hd0 : (d == 0) = false := beq_eq_false_iff_ne.2 (by omega)
        have hd1 : (d != 0) = true := by simp only [bne, hd0]; rfl
        clear hpr
        replace hcon := hcon.mono fun _ _ h => h.isErr
        go_wp2_with (go_at_fn g; refine hcon.mono ?_; rintro e w2 ⟨rfl, b, hw2⟩)
        go_ret
        exact ⟨b, HW1.out.trans hw2, .inr ⟨d, by rw [← HE.out, toEndA_err HV.out HPR.out], rfl⟩⟩
    · have HK := Lib.hid (skip_yes HW.out.2 ⟨#[q]⟩ hv)
      have HV := Lib.hid hv
      clear hv
      go_wp2_with fail
      go_at_call 37; refine HK.out.mono ?_; rintro e w1 ⟨rfl, hw1⟩
      go_wp2
      go_ret
      exact ⟨c + 1, HW.out.trans hw1, .inl ⟨_, by rw [← HE.out, toEndA_end HV.out], rfl, (rest_add t c 1).symm⟩⟩
end Go.Proofs.YtpdepdigacpfiaaDoor
