/- strings.IndexRune in the bytes that stand behind a backslash · strings.IndexRune of U+FFFD; of any rune · escape: the letters one by one · What the lexer says of bytes: plain functions · quotedRune -/
import Derived.Lib.OthersKept
import Derived.Deep.LoopGhost
import Derived.Laws.Runes
import Derived.WalkMore
import Derived.Lib.QuoteLoop
import Derived.Laws.RangeAny
import Derived.Lib.Strings
import Derived.Lib.IndexBytes
import Derived.StillTailTactics
import Derived.Deep.RegionHeld3
import Derived.Lib.TrimU
import Derived.Test.YtnmfoedfllmclaaGreatDoorJr14
namespace Go.Proofs.YtnmfoedfllmclaaGreatDoor
open Go.RowKit Go.Shelf
set_option linter.unusedVariables false

/-- Where a rune stands in them, or -1. -/
def placeQ (r : Int) : Int := if r = 34 then 0 else if r = 92 then 1 else if r = 8 then 2 else if r = 12 then 3 else if r = 10 then 4 else if r = 13 then 5 else if r = 9 then 6 else -1
abbrev escB : ByteArray := ⟨#[34, 92, 8, 12, 10, 13, 9]⟩
set_option maxRecDepth 100000 in
theorem place_low : ∀ c : Fin 128, Lib.indexByte escB.data.toList ((c.val : Nat) : Int).toNat.toUInt8 = placeQ ((c.val : Nat) : Int) := by decide
theorem place_far {r : Int} (h : 128 ≤ r) : placeQ r = -1 := by
  unfold placeQ
  repeat (rw [if_neg (by omega)])
theorem index_low {r : Int} (h0 : 0 ≤ r) (h1 : r < 128) (w : World) : Calls Tryz.prog 71 #[.string escB, .int .i32 r] w fun e w' => e = .returned (.int .i64 (placeQ r)) ∧ Below w.heap.size w w' := by
  refine (Tryz.strings_IndexRune_ascii escB r w h0 h1).mono ?_
  rintro e w' ⟨rfl, rfl⟩
  have := place_low ⟨r.toNat, by omega⟩
  have hr : ((r.toNat : Nat) : Int) = r := by omega
  simp only [hr] at this
  rw [this]
  exact ⟨rfl, Below.refl _ _⟩
theorem far_none : ∀ (l : List UInt8) (c : UInt8), (∀ x ∈ l, x ≠ c) → Lib.indexByte l c = -1
  | [], c, _ => rfl
  | b :: l, c, h => by
    have hb : (b == c) = false := beq_eq_false_iff_ne.2 (h b (by simp))
    have := far_none l c (fun x hx => h x (by simp [hx]))
    unfold Lib.indexByte
    rw [hb, this]
    rfl
set_option maxRecDepth 100000 in
set_option maxHeartbeats 4000000 in
theorem index_high {r : Int} (h0 : 128 ≤ r) (h1 : r ≤ 1114111) (hv : Utf8.valid r = true) (he : ¬ r = 65533) (w : World) : Calls Tryz.prog 71 #[.string escB, .int .i32 r] w fun e w' => e = .returned (.int .i64 (placeQ r)) ∧ Below w.heap.size w w' := by
  rw [place_far h0]
  obtain ⟨f1, f2, f3⟩ := encode_facts r hv h0
  obtain ⟨s, hs⟩ : ∃ s, Utf8.encode r = s := ⟨_, rfl⟩
  rw [hs] at f1 f2 f3
  have hlast := f3 (by omega)
  obtain ⟨c, hc⟩ : ∃ c : UInt8, s[s.size - 1]'(by omega) = c := ⟨_, rfl⟩
  rw [hc] at hlast
  have hcv : ∀ w : World, (convert 21 9 (.int .i32 r)).run Tryz.prog w = .ok (.string s) w := fun w => by
    rw [← hs]
    exact run_convert_int_string w 21 9 .i32 r (by rw [Tryz.underlying21]; rfl) Tryz.underlying9
  have hix : ∀ W : World, (Instr.index 9 (.string s) (.int .i64 ((s.size : Int) - 1))).run Tryz.prog W = .ok (.int .u8 (c.toNat : Int)) W := fun W => by
    have hu := Tryz.underlying9
    have e1 : (0 : Int) ≤ (s.size : Int) - 1 := by omega
    have e2 : ((s.size : Int) - 1).toNat = s.size - 1 := by omega
    have e3 : s.size - 1 < s.size := by omega
    have e4 : (1 : Int) ≤ (s.size : Int) := by omega
    simp [Instr.index, run_underlying hu, asIntOf, go_sem, e2, getElem?_pos, e3, e4, hc]
  have HV := Lib.hid (fun w => Tryz.utf8_ValidRune r w)
  rw [show Lib.validRune r = true from (valid_lib r).symm.trans hv] at HV
  have HB : Hid (∀ (t : ByteArray) (w : World), (∀ x ∈ t.data.toList, x.toNat < 128) → Calls Tryz.prog 92 #[.string t, .int .u8 (c.toNat : Int)] w fun e w' => e = .returned (.int .i64 (-1)) ∧ w' = w) := Lib.hid (fun t w ht => by
    refine (Tryz.strings_IndexByte t (c.toNat : Int) w).mono ?_
    rintro e w' ⟨rfl, rfl⟩
    rw [far_none _ _ (fun x hx e => by
      have h2 : ((c.toNat : Int)).toNat.toUInt8 = c := by simp
      rw [h2] at e
      have := ht x hx
      rw [e] at this
      omega)]
    exact ⟨rfl, rfl⟩)
  have i0 : (0 : Int) ≤ r := by omega
  have i1 : ¬ r < 128 := by omega
  have i2 : (r == 65533) = false := beq_eq_false_iff_ne.2 he
  have hw : IntKind.i64.wrap ((s.size : Int) - 1) = (s.size : Int) - 1 := IntWalk.i64_in _ (by omega)
  clear hs hc f3
  rcases (show s.size = 2 ∨ s.size = 3 ∨ s.size = 4 by omega) with h | h | h
  · rw [h] at hix hw
    have e1 : ((2 : Nat) : Int) - 1 = 1 := rfl
    have hw2 : IntKind.i64.wrap 2 = 2 := by decide
    have hxs : ∀ W : World, (Instr.index 9 (.string escB) (.int .i64 1)).run Tryz.prog W = .ok (.int .u8 92) W := fun W => by kernel_rfl
    have hsl : ∀ W : World, (Instr.sliceAt 9 (.string escB) (some (.int .i64 2)) none none).run Tryz.prog W = .ok (.string ⟨#[8, 12, 10, 13, 9]⟩) W := fun W => by kernel_rfl
    rw [e1] at hix hw
    have k1 : ((92 : Int) == (c.toNat : Int)) = false := beq_eq_false_iff_ne.2 (by omega)
    have k2 : ((92 : Int) != (c.toNat : Int)) = true := by simp only [bne, k1]; rfl
    go_enter Tryz.func71, Tryz.ntmps71
    go_wp2_with (go_at_call 93; refine (HV.out _).mono ?_; rintro e w2 ⟨rfl, rfl⟩)
    go_step3
    go_wp2_with fail
    refine wp_loop_rounds 1 ?_
    rw [rounds_succ]
    go_wp2_with fail
    go_step3
    go_wp2_with fail
    go_quiet (fail)
    have hb3 := below_drewN w2 nq
    generalize w2.drewN nq = w3 at *
    go_wp2_with fail
    go_quiet ((go_at_call 92; refine Calls.quiet_of_same (HB.out _ _ ?_); decide))
    go_wp2_with fail
    rw [Exit.noGoto_ret]
    simp only [Exit.inBlock, Exit.then, Exit.noGoto_ret]
    go_ret
    exact ⟨rfl, hb3.trans ((below_drewN w3 _).mono hb3.size)⟩
  · rw [h] at hix hw
    have e1 : ((3 : Nat) : Int) - 1 = 2 := rfl
    have hw2 : IntKind.i64.wrap 3 = 3 := by decide
    have hxs : ∀ W : World, (Instr.index 9 (.string escB) (.int .i64 2)).run Tryz.prog W = .ok (.int .u8 8) W := fun W => by kernel_rfl
    have hsl : ∀ W : World, (Instr.sliceAt 9 (.string escB) (some (.int .i64 3)) none none).run Tryz.prog W = .ok (.string ⟨#[12, 10, 13, 9]⟩) W := fun W => by kernel_rfl
    rw [e1] at hix hw
    have k1 : ((8 : Int) == (c.toNat : Int)) = false := beq_eq_false_iff_ne.2 (by omega)
    have k2 : ((8 : Int) != (c.toNat : Int)) = true := by simp only [bne, k1]; rfl
    go_enter Tryz.func71, Tryz.ntmps71
    go_wp2_with (go_at_call 93; refine (HV.out _).mono ?_; rintro e w2 ⟨rfl, rfl⟩)
    go_step3
    go_wp2_with fail
    refine wp_loop_rounds 1 ?_
    rw [rounds_succ]
    go_wp2_with fail
    go_step3
    go_wp2_with fail
    go_quiet (fail)
    have hb3 := below_drewN w2 nq
    generalize w2.drewN nq = w3 at *
    go_wp2_with fail
    go_quiet ((go_at_call 92; refine Calls.quiet_of_same (HB.out _ _ ?_); decide))
    go_wp2_with fail
    rw [Exit.noGoto_ret]
    simp only [Exit.inBlock, Exit.then, Exit.noGoto_ret]
    go_ret
    exact ⟨rfl, hb3.trans ((below_drewN w3 _).mono hb3.size)⟩
  · rw [h] at hix hw
    have e1 : ((4 : Nat) : Int) - 1 = 3 := rfl
    have hw2 : IntKind.i64.wrap 4 = 4 := by decide
    have hxs : ∀ W : World, (Instr.index 9 (.string escB) (.int .i64 3)).run Tryz.prog W = .ok (.int .u8 12) W := fun W => by kernel_rfl
    have hsl : ∀ W : World, (Instr.sliceAt 9 (.string escB) (some (.int .i64 4)) none none).run Tryz.prog W = .ok (.string ⟨#[10, 13, 9]⟩) W := fun W => by kernel_rfl
    rw [e1] at hix hw
    have k1 : ((12 : Int) == (c.toNat : Int)) = false := beq_eq_false_iff_ne.2 (by omega)
    have k2 : ((12 : Int) != (c.toNat : Int)) = true := by simp only [bne, k1]; rfl
    go_enter Tryz.func71, Tryz.ntmps71
    go_wp2_with (go_at_call 93; refine (HV.out _).mono ?_; rintro e w2 ⟨rfl, rfl⟩)
    go_step3
    go_wp2_with fail
    refine wp_loop_rounds 1 ?_
    rw [rounds_succ]
    go_wp2_with fail
    go_step3
    go_wp2_with fail
    go_quiet (fail)
    have hb3 := below_drewN w2 nq
    generalize w2.drewN nq = w3 at *
    go_wp2_with fail
    go_quiet ((go_at_call 92; refine Calls.quiet_of_same (HB.out _ _ ?_); decide))
    go_wp2_with fail
    rw [Exit.noGoto_ret]
    simp only [Exit.inBlock, Exit.then, Exit.noGoto_ret]
    go_ret
    exact ⟨rfl, hb3.trans ((below_drewN w3 _).mono hb3.size)⟩
end Go.Proofs.YtnmfoedfllmclaaGreatDoor
namespace Go.Proofs.YtnmfoedfllmclaaGreatDoor
open Go.RowKit Go.Shelf
set_option linter.unusedVariables false

theorem below_iterAt {B : Nat} {w W : World} (h : Below B w W) {k : Nat} (hk : B ≤ k) (s : ByteArray) (p : Nat) : Below B w (W.iterAt k s p) := by
  refine ⟨h.os, h.tape, h.output, ?_, fun j hj => ?_⟩
  · simpa [World.iterAt] using h.size
  · rw [← h.block j hj]
    simp only [World.iterAt]
    rw [Array.getElem?_setIfInBounds_ne (by omega)]
theorem esc_low : ∀ p : Fin 7, (escB[p.val]'p.isLt).toNat < 128 := by decide
set_option maxRecDepth 100000 in
set_option maxHeartbeats 4000000 in
theorem index_err (w : World) : Calls Tryz.prog 71 #[.string escB, .int .i32 65533] w fun e w' => e = .returned (.int .i64 (placeQ 65533)) ∧ Below w.heap.size w w' := by
  have hp : placeQ 65533 = -1 := rfl
  rw [hp]
  clear hp
  go_enter Tryz.func71, Tryz.ntmps71
  go_wp2_with fail
  go_loopg [] 8 (fun gf wx => ∃ pos, Hid (wx.heap[w.heap.size]? = some (.stringIter escB pos)) ∧ Hid (Below w.heap.size w wx) ∧ 7 - pos < gf)
  case atStart => exact ⟨0, Lib.hid (World.iter_heap _ _ _), Lib.hid (below_new0 _ _), by omega⟩
  case round =>
    obtain ⟨pos, HI, HB, hf⟩ := hrel
    by_cases hlt : pos < 7
    · have hnx := fun ty => Lib.run_next_ascii_at (P := Tryz.prog) wr w.heap.size escB pos ty HI.out hlt (esc_low ⟨pos, hlt⟩)
      have hlow := esc_low ⟨pos, hlt⟩
      obtain ⟨c, hc⟩ : ∃ c, (escB[pos]'hlt).toNat = c := ⟨_, rfl⟩
      have hlow' : c < 128 := by rw [← hc]; exact hlow
      rw [hc] at hnx
      have k1 : ((c : Int) == 65533) = false := beq_eq_false_iff_ne.2 (by omega)
      obtain ⟨g', rfl⟩ : ∃ g', gk = g' + 1 := ⟨gk - 1, by omega⟩
      have HI2 := Lib.hid (Lib.iterAt_heap wr w.heap.size escB pos (pos + 1) HI.out)
      have HB2 := Lib.hid (below_iterAt HB.out (Nat.le_refl _) escB (pos + 1))
      clear hlow hc
      go_wp2_with fail
      go_roundg g'
      case measure => omega
      case rel => exact ⟨pos + 1, HI2, HB2, by omega⟩
    · have hnx := fun ty => Lib.run_next_end_at (P := Tryz.prog) wr w.heap.size escB pos ty HI.out hlt
      go_wp2_with fail
      go_ret
      exact ⟨rfl, HB.out⟩
/-- At every rune that a text may have. -/
theorem index_any {r : Int} (h0 : 0 ≤ r) (h1 : r ≤ 1114111) (hv : Utf8.valid r = true) (w : World) : Calls Tryz.prog 71 #[.string escB, .int .i32 r] w fun e w' => e = .returned (.int .i64 (placeQ r)) ∧ Below w.heap.size w w' := by
  by_cases h : r < 128
  · exact index_low h0 h w
  · by_cases he : r = 65533
    · subst he; exact index_err w
    · exact index_high (by omega) h1 hv he w
end Go.Proofs.YtnmfoedfllmclaaGreatDoor
namespace Go.Proofs.YtnmfoedfllmclaaGreatDoor
open Go.RowKit Go.Shelf
set_option linter.unusedVariables false

def lettersB : ByteArray := ⟨#[34, 92, 98, 102, 110, 114, 116]⟩
def escapedB : ByteArray := ⟨#[34, 92, 8, 12, 10, 13, 9]⟩
theorem letter_at : ∀ i : Fin 7, letterJ (lettersB.data.toList.getD i.val 0) = some ((escapedB.data.toList.getD i.val 0).toNat : Int) ∧ lettersB.data.toList.getD i.val 0 ≠ 47 ∧ (lettersB.data.toList.getD i.val 0).toNat < 128 := by decide
set_option maxRecDepth 100000 in
set_option maxHeartbeats 4000000 in
theorem escape_any {W : World} {P a n : Nat} {t : ByteArray} (h : Rdr W P t a n) (hR : ReadyJ W) (hP7 : 7 ≤ P) : Calls Tryz.prog 97 #[.pointer (some ⟨P, 0, none⟩)] W (REnds W P t a n (escJ (rest t a))) := by
  have HS := Lib.hid h
  have HR := Lib.hid hR
  have hsz := h.2
  have hPlt := h.1.lt
  cases h47 : Lib.hasPrefix (rest t a) [92, 47]
  · have HK0 := Lib.hid (skip_b h ⟨#[92, 47]⟩ h47)
    have H47 := Lib.hid h47
    obtain ⟨s, hs⟩ : ∃ s : ByteArray, (⟨#[34, 92, 98, 102, 110, 114, 116]⟩ : ByteArray) = s := ⟨_, rfl⟩
    have hs7 : s.size = 7 := by rw [← hs]; rfl
    have hsl : ∀ (i : Nat) (h : i < s.size), ∃ x : UInt8, letterJ (s[i]'h) = some (x.toNat : Int) ∧ s[i]'h ≠ 47 ∧ (s[i]'h).toNat < 128 ∧ ∀ W, (Instr.index 9 (.string ⟨#[34, 92, 8, 12, 10, 13, 9]⟩) (.int .i64 (i : Int))).run Tryz.prog W = .ok (.int .u8 (x.toNat : Int)) W := by
      subst hs
      intro i h
      have h7 : i < 7 := h
      have hg : (⟨#[34, 92, 98, 102, 110, 114, 116]⟩ : ByteArray)[i]'h = lettersB.data.toList.getD i 0 := by
        show (#[34, 92, 98, 102, 110, 114, 116] : Array UInt8)[i]'h = _
        simp [lettersB, List.getD, h7]
      have := letter_at ⟨i, h7⟩
      rw [hg]
      refine ⟨escapedB.data.toList.getD i 0, this.1, this.2.1, this.2.2, fun W => ?_⟩
      have hb := byte_run (t := ⟨#[34, 92, 8, 12, 10, 13, 9]⟩) (a := i) h7 W
      rw [hb]
      have hg2 : (⟨#[34, 92, 8, 12, 10, 13, 9]⟩ : ByteArray)[i]'h7 = escapedB.data.toList.getD i 0 := by
        show (#[34, 92, 8, 12, 10, 13, 9] : Array UInt8)[i]'h7 = _
        simp [escapedB, List.getD, h7]
      rw [hg2]
    have hall : ∀ q ∈ [34, 92, 98, 102, 110, 114, 116], ∃ (i : Nat) (h : i < s.size), (s[i]'h) = q := by
      subst hs
      intro q hq
      simp only [List.mem_cons, List.mem_nil_iff, or_false] at hq
      rcases hq with rfl | rfl | rfl | rfl | rfl | rfl | rfl
      · exact ⟨0, by decide, rfl⟩
      · exact ⟨1, by decide, rfl⟩
      · exact ⟨2, by decide, rfl⟩
      · exact ⟨3, by decide, rfl⟩
      · exact ⟨4, by decide, rfl⟩
      · exact ⟨5, by decide, rfl⟩
      · exact ⟨6, by decide, rfl⟩
    have HSL := Lib.hid hsl
    have HALL := Lib.hid hall
    have HS7 := Lib.hid hs7
    have HSE := Lib.hid hs
    clear h hsl hall hs7 hs h47 hR
    go_enter Tryz.func97, Tryz.ntmps97
    go_wp2_with fail
    go_at_call 65; refine HK0.out.mono ?_; rintro e w1 ⟨rfl, hw1⟩
    have HW1 := Lib.hid (show Went W w1 P t a n from hw1)
    have HR1 := Lib.hid (HR.out.aside hw1.1 hP7)
    clear hw1
    go_wp2_with fail
    rw [HSE.out]
    obtain ⟨W0, hW0⟩ : ∃ W0, w1 = W0 := ⟨_, rfl⟩
    subst hW0
    go_loopg [] 7 (fun gf wx => ∃ pos : Nat, wx.heap[w1.heap.size]? = some (.stringIter s pos) ∧ Hid (Below w1.heap.size w1 wx) ∧ Hid (∀ i (h : i < s.size), i < pos → Lib.hasPrefix (rest t a) [92, s[i]'h] = false) ∧ 7 ≤ pos + gf)
    case atStart => exact ⟨0, World.iter_heap w1 s 0, Lib.hid ((Below.refl _ w1).alloc (Nat.le_refl _) _), Lib.hid (fun i h h' => absurd h' (by omega)), by omega⟩
    case round =>
      obtain ⟨pos, hit, HB, HN, hfu⟩ := hrel
      by_cases hps : pos < s.size
      · obtain ⟨g', rfl⟩ : ∃ g', gk = g' + 1 := ⟨gk - 1, by have := HS7.out; omega⟩
        obtain ⟨x, hlx, hn47, ha, hix⟩ := HSL.out pos hps
        have hx255 := x.toNat_lt
        have hnx : ∀ ty, (Instr.next (.pointer (some ⟨w1.heap.size, 0, none⟩)) true ty).run Tryz.prog wr = _ := fun ty => Lib.run_next_ascii_at wr w1.heap.size s pos ty hit hps ha
        have hit2 := Lib.iterAt_heap wr w1.heap.size s pos (pos + 1) hit
        have hbw2 := Lib.below_iterAt HB.out (k := w1.heap.size) (Nat.le_refl _) s (pos + 1)
        have HNX : ∀ v, Lib.hasPrefix (rest t a) [92, s[pos]'hps] = v → v = false → ∀ i (h : i < s.size), i < pos + 1 → Lib.hasPrefix (rest t a) [92, s[i]'h] = false := fun v hv hf i h hi => by
          rcases Nat.lt_or_ge i pos with h1 | h1
          · exact HN.out i h h1
          · obtain rfl : i = pos := by omega
            rw [hv]; exact hf
        obtain ⟨c, hc⟩ : ∃ c, s[pos]'hps = c := ⟨_, rfl⟩
        rw [hc] at hnx ha HNX hlx hn47
        obtain ⟨X, hWd⟩ : ∃ X, wr.iterAt w1.heap.size s (pos + 1) = X := ⟨_, rfl⟩
        rw [hWd] at hnx hit2 hbw2
        have hltX : w1.heap.size < X.heap.size := (Array.getElem?_eq_some_iff.1 hit2).1
        have he : Utf8.encode ((c.toNat : Nat) : Int) = ⟨#[c]⟩ := by
          have hv : Utf8.valid ((c.toNat : Nat) : Int) = true := by unfold Utf8.valid; simp; omega
          unfold Utf8.encode
          simp only [hv, if_true, Int.toNat_natCast]
          rw [if_pos (by omega)]
          simp
        have hcat : (⟨#[92]⟩ : ByteArray) ++ ⟨#[c]⟩ = ⟨#[92, c]⟩ := by
          apply ByteArray.ext
          simp
        have HSX := Lib.hid (HW1.out.2.below hbw2)
        have HBX := Lib.hid hbw2
        have HLX := Lib.hid hlx
        have H47' := Lib.hid hn47
        have HNN := Lib.hid HNX
        clear hbw2 hc hWd HNX hlx hn47
        cases hv : Lib.hasPrefix (rest t a) [92, c]
        · have HK := Lib.hid (skip_no HSX.out ⟨#[92, c]⟩ hv)
          have HV := Lib.hid hv
          clear hv
          go_wp2_with (go_at_call 65; refine HK.out.mono ?_; rintro e w2 ⟨rfl, hb2⟩)
          go_roundg g'
          case measure => omega
          case rel => exact ⟨pos + 1, (hb2.block _ hltX).trans hit2, Lib.hid (HBX.out.trans (hb2.mono HBX.out.size)), Lib.hid (HNN.out _ HV.out rfl), by omega⟩
        · have HK := Lib.hid (skip_b HSX.out ⟨#[92, c]⟩ hv)
          have HV := Lib.hid hv
          clear hv
          go_wp2_with (go_at_call 65; refine HK.out.mono ?_; rintro e w2 ⟨rfl, hw2⟩)
          go_ret
          rw [escJ_hit HLX.out H47'.out HV.out]
          exact ⟨rfl, a + 2, (HW1.out.trans (HW1.out.2.stays HBX.out)).trans hw2, (rest_add t a 2)⟩
      · have hnx : ∀ ty, (Instr.next (.pointer (some ⟨w1.heap.size, 0, none⟩)) true ty).run Tryz.prog wr = _ := fun ty => Lib.run_next_end_at wr w1.heap.size s pos ty hit hps
        have HX := Lib.hid (escJ_miss H47.out (fun q hq => by
          obtain ⟨i, hi, hq'⟩ := HALL.out q hq
          rw [← hq']
          exact HN.out i hi (by omega)))
        have HE := Lib.hid (escapedRune_any (HW1.out.2.below HB.out) (HR1.out.below HB.out))
        have HWB := Lib.hid (HW1.out.trans (HW1.out.2.stays HB.out))
        cases hpr : pairL (rest t a) with
        | ok y =>
          obtain ⟨x, R'⟩ := y
          rw [hpr] at HE HX
          clear hpr
          go_wp2_with (go_at_call 107; refine HE.out.mono ?_; rintro e w2 ⟨rfl, a', hw2, hr2⟩)
          go_ret
          rw [HX.out]
          exact ⟨rfl, a', HWB.out.trans hw2, hr2⟩
        | error c =>
          rw [hpr] at HE HX
          clear hpr
          go_wp2_with (go_at_call 107; refine HE.out.mono ?_; rintro e w2 ⟨D, rfl, h1, h2, h3⟩)
          refine ⟨rfl, ?_⟩
          rw [HX.out]
          exact Thrown.after ⟨D, rfl, h1, h2, h3⟩ HWB.out.1
  · have HK0 := Lib.hid (skip_b h ⟨#[92, 47]⟩ h47)
    have HX := Lib.hid (escJ_slash h47)
    clear h h47 hR
    go_enter Tryz.func97, Tryz.ntmps97
    go_wp2_with (go_at_call 65; refine HK0.out.mono ?_; rintro e w1 ⟨rfl, hw1⟩)
    go_ret
    rw [HX.out]
    exact ⟨rfl, a + 2, hw1, rest_add t a 2⟩
end Go.Proofs.YtnmfoedfllmclaaGreatDoor
namespace Go.Proofs.YtnmfoedfllmclaaGreatDoor
set_option linter.unusedVariables false

/-- All bytes of a rune that is no ASCII are none. -/
theorem decode_wide (s : ByteArray) (pos : Nat) (h : pos < s.size) (ha : 128 ≤ (s[pos]'h).toNat) : pos + (Utf8.decode s pos).2 ≤ s.size ∧ ∀ i, pos ≤ i → i < pos + (Utf8.decode s pos).2 → 128 ≤ (s.get! i).toNat := by
  have hn : ¬ (s[pos]'h).toNat < 128 := by omega
  have g0 : (s.get! (pos + 0)).toNat = (s[pos]'h).toNat := by rw [get_at s pos h]
  have key : ∀ k, k ≤ 4 → 1 ≤ k → (∀ j, 1 ≤ j → j < k → pos + j < s.size ∧ 128 ≤ (s.get! (pos + j)).toNat) → pos + k ≤ s.size ∧ ∀ i, pos ≤ i → i < pos + k → 128 ≤ (s.get! i).toNat := by
    intro k hk hk1 hj
    refine ⟨?_, fun i h1 h2 => ?_⟩
    · rcases Nat.lt_or_ge 1 k with h1 | h1
      · have := (hj (k - 1) (by omega) (by omega)).1; omega
      · omega
    · rcases Nat.eq_or_lt_of_le h1 with h3 | h3
      · subst h3; rw [Nat.add_zero] at g0; omega
      · have := (hj (i - pos) (by omega) (by omega)).2
        rwa [show pos + (i - pos) = i by omega] at this
  have hc : ∀ k, (decide (pos + k < s.size) && ((s.get! (pos + k)).toNat / 64 == 2)) = true → pos + k < s.size ∧ 128 ≤ (s.get! (pos + k)).toNat := by
    intro k hk
    simp only [Bool.and_eq_true, decide_eq_true_eq, beq_iff_eq] at hk
    exact ⟨hk.1, by omega⟩
  simp only [Utf8.decode, get_at s pos h, hn, if_false]
  split
  · rename_i h1
    have h2 := (Bool.and_eq_true_iff.1 h1).2
    split
    · exact key 2 (by omega) (by omega) (fun j a b => by obtain rfl : j = 1 := by omega
                                                         exact hc 1 h2)
    · exact key 1 (by omega) (by omega) (fun j a b => by omega)
  · split
    · rename_i h1
      obtain ⟨h2, h4⟩ := Bool.and_eq_true_iff.1 h1
      have h3 := (Bool.and_eq_true_iff.1 h2).2
      split
      · exact key 3 (by omega) (by omega) (fun j a b => by
          rcases (show j = 1 ∨ j = 2 by omega) with rfl | rfl
          · exact hc 1 h3
          · exact hc 2 h4)
      · exact key 1 (by omega) (by omega) (fun j a b => by omega)
    · split
      · rename_i h1
        obtain ⟨h2, h5⟩ := Bool.and_eq_true_iff.1 h1
        obtain ⟨h3, h4⟩ := Bool.and_eq_true_iff.1 h2
        have h6 := (Bool.and_eq_true_iff.1 h3).2
        split
        · exact key 4 (by omega) (by omega) (fun j a b => by
            rcases (show j = 1 ∨ j = 2 ∨ j = 3 by omega) with rfl | rfl | rfl
            · exact hc 1 h6
            · exact hc 2 h4
            · exact hc 3 h5)
        · exact key 1 (by omega) (by omega) (fun j a b => by omega)
      · exact key 1 (by omega) (by omega) (fun j a b => by omega)

end Go.Proofs.YtnmfoedfllmclaaGreatDoor
namespace Go.Proofs.YtnmfoedfllmclaaGreatDoor
open Go.RowKit Go.Shelf
set_option linter.unusedVariables false

theorem keep2 {w4 w1 w2 : World} {a0 a1 : Addr} {v0 v1 : Value} (h : Hid (Below w4.heap.size w4 w1) ∧ w1.cell? a0 = some v0 ∧ w1.cell? a1 = some v1) (hb : Below w1.heap.size w1 w2) : Hid (Below w4.heap.size w4 w2) ∧ w2.cell? a0 = some v0 ∧ w2.cell? a1 = some v1 :=
  ⟨Lib.hid (h.1.out.trans (hb.mono h.1.out.size)), cells_keep hb h.2.1, cells_keep hb h.2.2⟩
theorem width_in (s : ByteArray) (h : 0 < s.size) : (Utf8.decode s 0).2 ≤ s.size := by
  by_cases ha : (s[0]'h).toNat < 128
  · rw [decode_ascii s 0 h ha]; exact h
  · have := (decode_wide s 0 h (by omega)).1
    omega
theorem runeJ_low {R : List UInt8} (h : headN R < 32) : runeJ R = .error 30 := by
  cases R with
  | nil => rfl
  | cons c r =>
    unfold runeJ
    simp only
    rw [if_pos (by rw [UInt8.lt_iff_toNat_lt]; exact h)]
theorem runeJ_back {R : List UInt8} (h : headN R = 92) : runeJ R = escJ R := by
  cases R with
  | nil => cases h
  | cons c r =>
    obtain rfl : c = 92 := UInt8.toNat_inj.1 h
    rfl
theorem runeJ_more {R : List UInt8} (h1 : ¬ headN R < 32) (h2 : headN R ≠ 92) : runeJ R = if (Utf8.decode ⟨R.toArray⟩ 0).1 = 65533 ∧ (Utf8.decode ⟨R.toArray⟩ 0).2 = 1 then .error 31 else .ok (((Utf8.decode ⟨R.toArray⟩ 0).1 : Int), R.drop (Utf8.decode ⟨R.toArray⟩ 0).2) := by
  cases R with
  | nil => exact absurd (by show (0 : Nat) < 32; omega) h1
  | cons c r =>
    conv => lhs; unfold runeJ
    simp only
    rw [if_neg (by rw [UInt8.lt_iff_toNat_lt]; exact h1), if_neg (by rintro rfl; exact h2 rfl)]
set_option maxRecDepth 100000 in
set_option maxHeartbeats 4000000 in
theorem quotedRune_any {W : World} {P a n : Nat} {t : ByteArray} (h : Rdr W P t a n) (hR : ReadyJ W) (hP7 : 7 ≤ P) : Calls Tryz.prog 75 #[.pointer (some ⟨P, 0, none⟩)] W (REnds W P t a n (runeJ (rest t a))) := by
  have HS := Lib.hid h
  have HR := Lib.hid hR
  have HP := Lib.hid (peek_any h)
  have hat := h.2.1
  have hsz := h.2.2.1
  obtain ⟨x, hx⟩ : ∃ x, headN (rest t a) = x := ⟨_, rfl⟩
  rw [hx] at HP
  have i0 : (0 : Int) ≤ (x : Int) := by omega
  clear h hR
  by_cases h1 : x < 32
  · have HX := Lib.hid (runeJ_low (by rw [hx]; exact h1))
    have i1 : (x : Int) < 32 := by omega
    clear hx h1
    go_enter Tryz.func75, Tryz.ntmps75
    go_wp2_with fail
    go_at_call 57; refine HP.out.mono ?_; rintro e w1 ⟨rfl, hb1⟩
    have HW1 := Lib.hid (HS.out.stays hb1)
    clear hb1
    have k1 := HW1.out.2.1.cell 1
    go_wp2_with (go_at_call 40; refine (diag_any _ _ _).mono ?_; rintro e w4 ⟨rfl, rfl⟩)
    refine ⟨rfl, ?_⟩
    rw [HX.out]
    exact thrown_new (c := 30) HW1.out (l := (rest t a).length) (rest_back hat)
  · have i1 : ¬ (x : Int) < 32 := by omega
    by_cases h2 : x = 92
    · have HX := Lib.hid (runeJ_back (by rw [hx]; exact h2))
      have q2 : ((x : Int) == 92) = true := by rw [h2]; rfl
      clear hx h1 h2
      go_enter Tryz.func75, Tryz.ntmps75
      go_wp2_with fail
      go_at_call 57; refine HP.out.mono ?_; rintro e w1 ⟨rfl, hb1⟩
      have HW1 := Lib.hid (HS.out.stays hb1)
      have HE := Lib.hid (escape_any HW1.out.2 (HR.out.below hb1) hP7)
      clear hb1
      go_wp2_with fail
      cases hpr : escJ (rest t a) with
      | ok y =>
        obtain ⟨x, R'⟩ := y
        rw [hpr] at HE HX
        clear hpr
        go_wp2_with (go_at_call 97; refine HE.out.mono ?_; rintro e w2 ⟨rfl, a', hw2, hr2⟩)
        go_ret
        rw [HX.out]
        exact ⟨rfl, a', HW1.out.trans hw2, hr2⟩
      | error c =>
        rw [hpr] at HE HX
        clear hpr
        go_wp2_with (go_at_call 97; refine HE.out.mono ?_; rintro e w2 ⟨D, rfl, h1, h2, h3⟩)
        refine ⟨rfl, ?_⟩
        rw [HX.out]
        exact Thrown.after ⟨D, rfl, h1, h2, h3⟩ HW1.out.1
    · have q2 : ((x : Int) == 92) = false := beq_eq_false_iff_ne.2 (by omega)
      have hX := runeJ_more (R := rest t a) (by rw [hx]; exact h1) (by rw [hx]; exact h2)
      have hal : a < t.size := by
        rcases Nat.lt_or_ge a t.size with h | h
        · exact h
        · rw [rest_nil h] at hx
          exact absurd (show x < 32 by rw [← hx]; show (0 : Nat) < 32; omega) h1
      obtain ⟨s, hs⟩ : ∃ s, t.extract a t.size = s := ⟨_, rfl⟩
      have hse : (⟨(rest t a).toArray⟩ : ByteArray) = s := by rw [← hs]; exact (str_eq (rest_extract t a)).symm
      rw [hse] at hX
      have hss : s.size = t.size - a := by rw [← hs]; simp
      have hw0 := Lib.width_pos s 0
      have hwi := width_in s (by omega)
      have hrl := Lib.rune_le s 0
      have hdg : Lib.decodeGo s = Utf8.decode s 0 := by unfold Lib.decodeGo; rw [if_neg (by omega)]
      have hcon := fun (w : World) (hT : Lib.Utf8Tabs 0 1 w) => Tryz.utf8_DecodeRuneInString s w hT
      rw [hdg] at hcon
      obtain ⟨p, hp⟩ : ∃ p, (Utf8.decode s 0).1 = p := ⟨_, rfl⟩
      obtain ⟨q, hq⟩ : ∃ q, (Utf8.decode s 0).2 = q := ⟨_, rfl⟩
      rw [hp, hq] at hX
      simp only [hp, hq] at hcon
      rw [hp] at hrl
      rw [hq] at hw0 hwi
      have HCON := Lib.hid hcon
      have HSS := Lib.hid hs
      have j0 : (0 : Int) ≤ (a : Int) := by omega
      have j1 : (a : Int) ≤ (t.size : Int) := by omega
      have j2 : (0 : Int) ≤ (q : Int) := by omega
      have j3 : (a : Int) + (q : Int) ≤ (t.size : Int) := by omega
      clear hx h1 h2 hs hse hdg hcon hp
      by_cases hbad : p = 65533 ∧ q = 1
      · rw [if_pos hbad] at hX
        have HX := Lib.hid hX
        obtain ⟨rfl, rfl⟩ := hbad
        clear hX hq
        go_enter Tryz.func75, Tryz.ntmps75
        go_wp2_with fail
        go_at_call 57; refine HP.out.mono ?_; rintro e w1 ⟨rfl, hb1⟩
        have HW1 := Lib.hid (HS.out.stays hb1)
        have HR1 := Lib.hid (HR.out.below hb1)
        clear hb1
        have k0 := HW1.out.2.1.cell 0
        have k1 := HW1.out.2.1.cell 1
        go_wp2_with fail
        have HS9 : Hid (Below w1.heap.size w1 w1.drew) ∧ w1.drew.cell? ⟨P, 0, none⟩ = some (.string t) ∧ w1.drew.cell? ⟨P, 1, none⟩ = some (.int .i64 (a : Int)) := ⟨Lib.hid (below_drew w1), k0, k1⟩
        go_region_held3 (fun w' => Hid (Below w1.heap.size w1 w') ∧ w'.cell? ⟨P, 0, none⟩ = some (.string t) ∧ w'.cell? ⟨P, 1, none⟩ = some (.int .i64 (a : Int)))
          (first | with_reducible exact HS9 | (with_reducible exact keep2 (by assumption) (by assumption)))
          (first | (go_at_call 98; rw [HSS.out]; (with_reducible refine (HCON.out _ ?_).mono ?_); (have hbS := ‹Hid (Below w1.heap.size w1 _) ∧ _›.1.out; exact (HR1.out.below hbS).tabs); rintro e w3 ⟨rfl, hb3⟩; have HB3 := Lib.hid ((‹Hid (Below w1.heap.size w1 _) ∧ _›.1.out).trans (hb3.mono (‹Hid (Below w1.heap.size w1 _) ∧ _›.1.out).size))))
        have HW3 := Lib.hid (HW1.out.trans (HW1.out.2.stays HB3.out))
        clear hb3 k0 k1
        have k1 := HW3.out.2.1.cell 1
        go_wp2_with (go_at_call 40; refine (diag_any _ _ _).mono ?_; rintro e w4 ⟨rfl, rfl⟩)
        refine ⟨rfl, ?_⟩
        rw [HX.out]
        exact thrown_new (c := 31) HW3.out (l := (rest t a).length) (rest_back hat)
      · rw [if_neg hbad] at hX
        have HX := Lib.hid hX
        clear hX hq
        have hbb : ((p : Int) == 65533) = false ∨ (((p : Int) == 65533) = true ∧ ((q : Int) == 1) = false) := by
          by_cases hp : p = 65533
          · right
            refine ⟨beq_iff_eq.2 (by omega), beq_eq_false_iff_ne.2 (fun e => hbad ⟨hp, by omega⟩)⟩
          · left
            exact beq_eq_false_iff_ne.2 (by omega)
        clear hbad
        rcases hbb with hb1 | ⟨hb1, hb2⟩
        all_goals
          go_enter Tryz.func75, Tryz.ntmps75
          go_wp2_with fail
          go_at_call 57; refine HP.out.mono ?_; rintro e w1 ⟨rfl, hb1⟩
          have HW1 := Lib.hid (HS.out.stays hb1)
          have HR1 := Lib.hid (HR.out.below hb1)
          clear hb1
          have k0 := HW1.out.2.1.cell 0
          have k1 := HW1.out.2.1.cell 1
          go_wp2_with fail
          have HS9 : Hid (Below w1.heap.size w1 w1.drew) ∧ w1.drew.cell? ⟨P, 0, none⟩ = some (.string t) ∧ w1.drew.cell? ⟨P, 1, none⟩ = some (.int .i64 (a : Int)) := ⟨Lib.hid (below_drew w1), k0, k1⟩
          go_region_held3 (fun w' => Hid (Below w1.heap.size w1 w') ∧ w'.cell? ⟨P, 0, none⟩ = some (.string t) ∧ w'.cell? ⟨P, 1, none⟩ = some (.int .i64 (a : Int)))
            (first | with_reducible exact HS9 | (with_reducible exact keep2 (by assumption) (by assumption)))
            (first | (go_at_call 98; rw [HSS.out]; (with_reducible refine (HCON.out _ ?_).mono ?_); (have hbS := ‹Hid (Below w1.heap.size w1 _) ∧ _›.1.out; exact (HR1.out.below hbS).tabs); rintro e w3 ⟨rfl, hb3⟩; have HB3 := Lib.hid ((‹Hid (Below w1.heap.size w1 _) ∧ _›.1.out).trans (hb3.mono (‹Hid (Below w1.heap.size w1 _) ∧ _›.1.out).size))))
          have HW3 := Lib.hid (HW1.out.trans (HW1.out.2.stays HB3.out))
          clear hb3 k0 k1
          have k1 := HW3.out.2.1.cell 1
          have f1 := HW3.out.2.1.frozen 1
          go_wp2
          go_ret
          rw [HX.out]
          refine ⟨rfl, a + q, ?_, by rw [rest_add]⟩
          have := HW3.out.trans (HW3.out.2.moves (b := a + q) (by omega))
          simpa using this
end Go.Proofs.YtnmfoedfllmclaaGreatDoor
