/- strings.IndexRune in the bytes that stand behind a backslash · strings.IndexRune of U+FFFD; of any rune · escape: the letters one by one · What the lexer says of bytes: plain functions -/
import Derived.Lib.OthersKept
import Derived.Deep.LoopGhost
import Derived.Laws.Runes
import Derived.WalkMore
import Derived.Lib.QuoteLoop
import Derived.Laws.RangeAny
import Derived.Lib.Strings
import Derived.Lib.IndexBytes
import Derived.Test.YtcbcjeabpjjhbaaGreatDoorJb15
namespace Go.Proofs.YtcbcjeabpjjhbaaGreatDoor
open Go.RowKit Go.Shelf
set_option linter.unusedVariables false

/-- Where a rune stands in them, or -1. -/
def placeQ (r : Int) : Int := if r = 34 then 0 else if r = 92 then 1 else if r = 8 then 2 else if r = 12 then 3 else if r = 10 then 4 else if r = 13 then 5 else if r = 9 then 6 else -1
abbrev escB : ByteArray := ⟨#[34, 92, 8, 12, 10, 13, 9]⟩
set_option maxRecDepth 100000 in
theorem place_low : ∀ c : Fin 128, Lib.indexByte escB.data.toList ((c.val : Nat) : Int).toNat.toUInt8 = placeQ ((c.val : Nat) : Int) := by decide
theorem place_far {r : Int} (h : 128 ≤ r) : placeQ r = -1 := by
  unfold placeQ
  repeat (rw [if_neg (by omega)])
theorem index_low {r : Int} (h0 : 0 ≤ r) (h1 : r < 128) (w : World) : Calls Tryz.prog 71 #[.string escB, .int .i32 r] w fun e w' => e = .returned (.int .i64 (placeQ r)) ∧ Below w.heap.size w w' := by
  refine (Tryz.strings_IndexRune_ascii escB r w h0 h1).mono ?_
  rintro e w' ⟨rfl, rfl⟩
  have := place_low ⟨r.toNat, by omega⟩
  have hr : ((r.toNat : Nat) : Int) = r := by omega
  simp only [hr] at this
  rw [this]
  exact ⟨rfl, Below.refl _ _⟩
theorem far_none : ∀ (l : List UInt8) (c : UInt8), (∀ x ∈ l, x ≠ c) → Lib.indexByte l c = -1
  | [], c, _ => rfl
  | b :: l, c, h => by
    have hb : (b == c) = false := beq_eq_false_iff_ne.2 (h b (by simp))
    have := far_none l c (fun x hx => h x (by simp [hx]))
    unfold Lib.indexByte
    rw [hb, this]
    rfl
set_option maxRecDepth 100000 in
set_option maxHeartbeats 4000000 in
theorem index_high {r : Int} (h0 : 128 ≤ r) (h1 : r ≤ 1114111) (hv : Utf8.valid r = true) (he : ¬ r = 65533) (w : World) : Calls Tryz.prog 71 #[.string escB, .int .i32 r] w fun e w' => e = .returned (.int .i64 (placeQ r)) ∧ Below w.heap.size w w' := by
  rw [place_far h0]
  obtain ⟨f1, f2, f3⟩ := encode_facts r hv h0
  obtain ⟨s, hs⟩ : ∃ s, Utf8.encode r = s := ⟨_, rfl⟩
  rw [hs] at f1 f2 f3
  have hlast := f3 (by omega)
  obtain ⟨c, hc⟩ : ∃ c : UInt8, s[s.size - 1]'(by omega) = c := ⟨_, rfl⟩
  rw [hc] at hlast
  have hcv : ∀ w : World, (convert 21 9 (.int .i32 r)).run Tryz.prog w = .ok (.string s) w := fun w => by
    rw [← hs]
    exact run_convert_int_string w 21 9 .i32 r (by rw [Tryz.underlying21]; rfl) Tryz.underlying9
  have hix : ∀ W : World, (Instr.index 9 (.string s) (.int .i64 ((s.size : Int) - 1))).run Tryz.prog W = .ok (.int .u8 (c.toNat : Int)) W := fun W => by
    have hu := Tryz.underlying9
    have e1 : (0 : Int) ≤ (s.size : Int) - 1 := by omega
    have e2 : ((s.size : Int) - 1).toNat = s.size - 1 := by omega
    have e3 : s.size - 1 < s.size := by omega
    have e4 : (1 : Int) ≤ (s.size : Int) := by omega
    simp [Instr.index, run_underlying hu, asIntOf, go_sem, e2, getElem?_pos, e3, e4, hc]
  have HV := Lib.hid (fun w => Tryz.utf8_ValidRune r w)
  rw [show Lib.validRune r = true from (valid_lib r).symm.trans hv] at HV
  have HB : Hid (∀ (t : ByteArray) (w : World), (∀ x ∈ t.data.toList, x.toNat < 128) → Calls Tryz.prog 92 #[.string t, .int .u8 (c.toNat : Int)] w fun e w' => e = .returned (.int .i64 (-1)) ∧ w' = w) := Lib.hid (fun t w ht => by
    refine (Tryz.strings_IndexByte t (c.toNat : Int) w).mono ?_
    rintro e w' ⟨rfl, rfl⟩
    rw [far_none _ _ (fun x hx e => by
      have h2 : ((c.toNat : Int)).toNat.toUInt8 = c := by simp
      rw [h2] at e
      have := ht x hx
      rw [e] at this
      omega)]
    exact ⟨rfl, rfl⟩)
  have i0 : (0 : Int) ≤ r := by omega
  have i1 : ¬ r < 128 := by omega
  have i2 : (r == 65533) = false := beq_eq_false_iff_ne.2 he
  have hw : IntKind.i64.wrap ((s.size : Int) - 1) = (s.size : Int) - 1 := IntWalk.i64_in _ (by omega)
  clear hs hc f3
  rcases (show s.size = 2 ∨ s.size = 3 ∨ s.size = 4 by omega) with h | h | h
  · rw [h] at hix hw
    have e1 : ((2 : Nat) : Int) - 1 = 1 := rfl
    have hw2 : IntKind.i64.wrap 2 = 2 := by decide
    have hxs : ∀ W : World, (Instr.index 9 (.string escB) (.int .i64 1)).run Tryz.prog W = .ok (.int .u8 92) W := fun W => by kernel_rfl
    have hsl : ∀ W : World, (Instr.sliceAt 9 (.string escB) (some (.int .i64 2)) none none).run Tryz.prog W = .ok (.string ⟨#[8, 12, 10, 13, 9]⟩) W := fun W => by kernel_rfl
    rw [e1] at hix hw
    have k1 : ((92 : Int) == (c.toNat : Int)) = false := beq_eq_false_iff_ne.2 (by omega)
    have k2 : ((92 : Int) != (c.toNat : Int)) = true := by simp only [bne, k1]; rfl
    go_enter Tryz.func71, Tryz.ntmps71
    go_wp2_with (go_at_call 93; refine (HV.out _).mono ?_; rintro e w2 ⟨rfl, rfl⟩)
    go_step3
    go_wp2_with fail
    refine wp_loop_rounds 1 ?_
    rw [rounds_succ]
    go_wp2_with fail
    go_step3
    go_wp2_with fail
    go_quiet (fail)
    have hb3 := below_drewN w2 nq
    generalize w2.drewN nq = w3 at *
    go_wp2_with fail
    go_quiet ((go_at_call 92; refine Calls.quiet_of_same (HB.out _ _ ?_); decide))
    go_wp2_with fail
    rw [Exit.noGoto_ret]
    simp only [Exit.inBlock, Exit.then, Exit.noGoto_ret]
    go_ret
    exact ⟨rfl, hb3.trans ((below_drewN w3 _).mono hb3.size)⟩
  · rw [h] at hix hw
    have e1 : ((3 : Nat) : Int) - 1 = 2 := rfl
    have hw2 : IntKind.i64.wrap 3 = 3 := by decide
    have hxs : ∀ W : World, (Instr.index 9 (.string escB) (.int .i64 2)).run Tryz.prog W = .ok (.int .u8 8) W := fun W => by kernel_rfl
    have hsl : ∀ W : World, (Instr.sliceAt 9 (.string escB) (some (.int .i64 3)) none none).run Tryz.prog W = .ok (.string ⟨#[12, 10, 13, 9]⟩) W := fun W => by kernel_rfl
    rw [e1] at hix hw
    have k1 : ((8 : Int) == (c.toNat : Int)) = false := beq_eq_false_iff_ne.2 (by omega)
    have k2 : ((8 : Int) != (c.toNat : Int)) = true := by simp only [bne, k1]; rfl
    go_enter Tryz.func71, Tryz.ntmps71
    go_wp2_with (go_at_call 93; refine (HV.out _).mono ?_; rintro e w2 ⟨rfl, rfl⟩)
    go_step3
    go_wp2_with fail
    refine wp_loop_rounds 1 ?_
    rw [rounds_succ]
    go_wp2_with fail
    go_step3
    go_wp2_with fail
    go_quiet (fail)
    have hb3 := below_drewN w2 nq
    generalize w2.drewN nq = w3 at *
    go_wp2_with fail
    go_quiet ((go_at_call 92; refine Calls.quiet_of_same (HB.out _ _ ?_); decide))
    go_wp2_with fail
    rw [Exit.noGoto_ret]
    simp only [Exit.inBlock, Exit.then, Exit.noGoto_ret]
    go_ret
    exact ⟨rfl, hb3.trans ((below_drewN w3 _).mono hb3.size)⟩
  · rw [h] at hix hw
    have e1 : ((4 : Nat) : Int) - 1 = 3 := rfl
    have hw2 : IntKind.i64.wrap 4 = 4 := by decide
    have hxs : ∀ W : World, (Instr.index 9 (.string escB) (.int .i64 3)).run Tryz.prog W = .ok (.int .u8 12) W := fun W => by kernel_rfl
    have hsl : ∀ W : World, (Instr.sliceAt 9 (.string escB) (some (.int .i64 4)) none none).run Tryz.prog W = .ok (.string ⟨#[10, 13, 9]⟩) W := fun W => by kernel_rfl
    rw [e1] at hix hw
    have k1 : ((12 : Int) == (c.toNat : Int)) = false := beq_eq_false_iff_ne.2 (by omega)
    have k2 : ((12 : Int) != (c.toNat : Int)) = true := by simp only [bne, k1]; rfl
    go_enter Tryz.func71, Tryz.ntmps71
    go_wp2_with (go_at_call 93; refine (HV.out _).mono ?_; rintro e w2 ⟨rfl, rfl⟩)
    go_step3
    go_wp2_with fail
    refine wp_loop_rounds 1 ?_
    rw [rounds_succ]
    go_wp2_with fail
    go_step3
    go_wp2_with fail
    go_quiet (fail)
    have hb3 := below_drewN w2 nq
    generalize w2.drewN nq = w3 at *
    go_wp2_with fail
    go_quiet ((go_at_call 92; refine Calls.quiet_of_same (HB.out _ _ ?_); decide))
    go_wp2_with fail
    rw [Exit.noGoto_ret]
    simp only [Exit.inBlock, Exit.then, Exit.noGoto_ret]
    go_ret
    exact ⟨rfl, hb3.trans ((below_drewN w3 _).mono hb3.size)⟩
end Go.Proofs.YtcbcjeabpjjhbaaGreatDoor
namespace Go.Proofs.YtcbcjeabpjjhbaaGreatDoor
open Go.RowKit Go.Shelf
set_option linter.unusedVariables false

theorem below_iterAt {B : Nat} {w W : World} (h : Below B w W) {k : Nat} (hk : B ≤ k) (s : ByteArray) (p : Nat) : Below B w (W.iterAt k s p) := by
  refine ⟨h.os, h.tape, h.output, ?_, fun j hj => ?_⟩
  · simpa [World.iterAt] using h.size
  · rw [← h.block j hj]
    simp only [World.iterAt]
    rw [Array.getElem?_setIfInBounds_ne (by omega)]
theorem esc_low : ∀ p : Fin 7, (escB[p.val]'p.isLt).toNat < 128 := by decide
set_option maxRecDepth 100000 in
set_option maxHeartbeats 4000000 in
theorem index_err (w : World) : Calls Tryz.prog 71 #[.string escB, .int .i32 65533] w fun e w' => e = .returned (.int .i64 (placeQ 65533)) ∧ Below w.heap.size w w' := by
  have hp : placeQ 65533 = -1 := rfl
  rw [hp]
  clear hp
  go_enter Tryz.func71, Tryz.ntmps71
  go_wp2_with fail
  go_loopg [] 8 (fun gf wx => ∃ pos, Hid (wx.heap[w.heap.size]? = some (.stringIter escB pos)) ∧ Hid (Below w.heap.size w wx) ∧ 7 - pos < gf)
  case atStart => exact ⟨0, Lib.hid (World.iter_heap _ _ _), Lib.hid (below_new0 _ _), by omega⟩
  case round =>
    obtain ⟨pos, HI, HB, hf⟩ := hrel
    by_cases hlt : pos < 7
    · have hnx := fun ty => Lib.run_next_ascii_at (P := Tryz.prog) wr w.heap.size escB pos ty HI.out hlt (esc_low ⟨pos, hlt⟩)
      have hlow := esc_low ⟨pos, hlt⟩
      obtain ⟨c, hc⟩ : ∃ c, (escB[pos]'hlt).toNat = c := ⟨_, rfl⟩
      have hlow' : c < 128 := by rw [← hc]; exact hlow
      rw [hc] at hnx
      have k1 : ((c : Int) == 65533) = false := beq_eq_false_iff_ne.2 (by omega)
      obtain ⟨g', rfl⟩ : ∃ g', gk = g' + 1 := ⟨gk - 1, by omega⟩
      have HI2 := Lib.hid (Lib.iterAt_heap wr w.heap.size escB pos (pos + 1) HI.out)
      have HB2 := Lib.hid (below_iterAt HB.out (Nat.le_refl _) escB (pos + 1))
      clear hlow hc
      go_wp2_with fail
      go_roundg g'
      case measure => omega
      case rel => exact ⟨pos + 1, HI2, HB2, by omega⟩
    · have hnx := fun ty => Lib.run_next_end_at (P := Tryz.prog) wr w.heap.size escB pos ty HI.out hlt
      go_wp2_with fail
      go_ret
      exact ⟨rfl, HB.out⟩
/-- At every rune that a text may have. -/
theorem index_any {r : Int} (h0 : 0 ≤ r) (h1 : r ≤ 1114111) (hv : Utf8.valid r = true) (w : World) : Calls Tryz.prog 71 #[.string escB, .int .i32 r] w fun e w' => e = .returned (.int .i64 (placeQ r)) ∧ Below w.heap.size w w' := by
  by_cases h : r < 128
  · exact index_low h0 h w
  · by_cases he : r = 65533
    · subst he; exact index_err w
    · exact index_high (by omega) h1 hv he w
end Go.Proofs.YtcbcjeabpjjhbaaGreatDoor
namespace Go.Proofs.YtcbcjeabpjjhbaaGreatDoor
open Go.RowKit Go.Shelf
set_option linter.unusedVariables false

def lettersB : ByteArray := ⟨#[34, 92, 98, 102, 110, 114, 116]⟩
def escapedB : ByteArray := ⟨#[34, 92, 8, 12, 10, 13, 9]⟩
theorem letter_at : ∀ i : Fin 7, letterJ (lettersB.data.toList.getD i.val 0) = some ((escapedB.data.toList.getD i.val 0).toNat : Int) ∧ lettersB.data.toList.getD i.val 0 ≠ 47 ∧ (lettersB.data.toList.getD i.val 0).toNat < 128 := by decide
set_option maxRecDepth 100000 in
set_option maxHeartbeats 4000000 in
theorem escape_any {W : World} {P a n : Nat} {t : ByteArray} (h : Rdr W P t a n) (hR : ReadyJ W) (hP7 : 7 ≤ P) : Calls Tryz.prog 97 #[.pointer (some ⟨P, 0, none⟩)] W (REnds W P t a n (escJ (rest t a))) := by
  have HS := Lib.hid h
  have HR := Lib.hid hR
  have hsz := h.2
  have hPlt := h.1.lt
  cases h47 : Lib.hasPrefix (rest t a) [92, 47]
  · have HK0 := Lib.hid (skip_b h ⟨#[92, 47]⟩ h47)
    have H47 := Lib.hid h47
    obtain ⟨s, hs⟩ : ∃ s : ByteArray, (⟨#[34, 92, 98, 102, 110, 114, 116]⟩ : ByteArray) = s := ⟨_, rfl⟩
    have hs7 : s.size = 7 := by rw [← hs]; rfl
    have hsl : ∀ (i : Nat) (h : i < s.size), ∃ x : UInt8, letterJ (s[i]'h) = some (x.toNat : Int) ∧ s[i]'h ≠ 47 ∧ (s[i]'h).toNat < 128 ∧ ∀ W, (Instr.index 9 (.string ⟨#[34, 92, 8, 12, 10, 13, 9]⟩) (.int .i64 (i : Int))).run Tryz.prog W = .ok (.int .u8 (x.toNat : Int)) W := by
      subst hs
      intro i h
      have h7 : i < 7 := h
      have hg : (⟨#[34, 92, 98, 102, 110, 114, 116]⟩ : ByteArray)[i]'h = lettersB.data.toList.getD i 0 := by
        show (#[34, 92, 98, 102, 110, 114, 116] : Array UInt8)[i]'h = _
        simp [lettersB, List.getD, h7]
      have := letter_at ⟨i, h7⟩
      rw [hg]
      refine ⟨escapedB.data.toList.getD i 0, this.1, this.2.1, this.2.2, fun W => ?_⟩
      have hb := byte_run (t := ⟨#[34, 92, 8, 12, 10, 13, 9]⟩) (a := i) h7 W
      rw [hb]
      have hg2 : (⟨#[34, 92, 8, 12, 10, 13, 9]⟩ : ByteArray)[i]'h7 = escapedB.data.toList.getD i 0 := by
        show (#[34, 92, 8, 12, 10, 13, 9] : Array UInt8)[i]'h7 = _
        simp [escapedB, List.getD, h7]
      rw [hg2]
    have hall : ∀ q ∈ [34, 92, 98, 102, 110, 114, 116], ∃ (i : Nat) (h : i < s.size), (s[i]'h) = q := by
      subst hs
      intro q hq
      simp only [List.mem_cons, List.mem_nil_iff, or_false] at hq
      rcases hq with rfl | rfl | rfl | rfl | rfl | rfl | rfl
      · exact ⟨0, by decide, rfl⟩
      · exact ⟨1, by decide, rfl⟩
      · exact ⟨2, by decide, rfl⟩
      · exact ⟨3, by decide, rfl⟩
      · exact ⟨4, by decide, rfl⟩
      · exact ⟨5, by decide, rfl⟩
      · exact ⟨6, by decide, rfl⟩
    have HSL := Lib.hid hsl
    have HALL := Lib.hid hall
    have HS7 := Lib.hid hs7
    have HSE := Lib.hid hs
    clear h hsl hall hs7 hs h47 hR
    go_enter Tryz.func97, Tryz.ntmps97
    go_wp2_with fail
    go_at_call 65; refine HK0.out.mono ?_; rintro e w1 ⟨rfl, hw1⟩
    have HW1 := Lib.hid (show Went W w1 P t a n from hw1)
    have HR1 := Lib.hid (HR.out.aside hw1.1 hP7)
    clear hw1
    go_wp2_with fail
    rw [HSE.out]
    obtain ⟨W0, hW0⟩ : ∃ W0, w1 = W0 := ⟨_, rfl⟩
    subst hW0
    go_loopg [] 7 (fun gf wx => ∃ pos : Nat, wx.heap[w1.heap.size]? = some (.stringIter s pos) ∧ Hid (Below w1.heap.size w1 wx) ∧ Hid (∀ i (h : i < s.size), i < pos → Lib.hasPrefix (rest t a) [92, s[i]'h] = false) ∧ 7 ≤ pos + gf)
    case atStart => exact ⟨0, World.iter_heap w1 s 0, Lib.hid ((Below.refl _ w1).alloc (Nat.le_refl _) _), Lib.hid (fun i h h' => absurd h' (by omega)), by omega⟩
    case round =>
      obtain ⟨pos, hit, HB, HN, hfu⟩ := hrel
      by_cases hps : pos < s.size
      · obtain ⟨g', rfl⟩ : ∃ g', gk = g' + 1 := ⟨gk - 1, by have := HS7.out; omega⟩
        obtain ⟨x, hlx, hn47, ha, hix⟩ := HSL.out pos hps
        have hx255 := x.toNat_lt
        have hnx : ∀ ty, (Instr.next (.pointer (some ⟨w1.heap.size, 0, none⟩)) true ty).run Tryz.prog wr = _ := fun ty => Lib.run_next_ascii_at wr w1.heap.size s pos ty hit hps ha
        have hit2 := Lib.iterAt_heap wr w1.heap.size s pos (pos + 1) hit
        have hbw2 := Lib.below_iterAt HB.out (k := w1.heap.size) (Nat.le_refl _) s (pos + 1)
        have HNX : ∀ v, Lib.hasPrefix (rest t a) [92, s[pos]'hps] = v → v = false → ∀ i (h : i < s.size), i < pos + 1 → Lib.hasPrefix (rest t a) [92, s[i]'h] = false := fun v hv hf i h hi => by
          rcases Nat.lt_or_ge i pos with h1 | h1
          · exact HN.out i h h1
          · obtain rfl : i = pos := by omega
            rw [hv]; exact hf
        obtain ⟨c, hc⟩ : ∃ c, s[pos]'hps = c := ⟨_, rfl⟩
        rw [hc] at hnx ha HNX hlx hn47
        obtain ⟨X, hWd⟩ : ∃ X, wr.iterAt w1.heap.size s (pos + 1) = X := ⟨_, rfl⟩
        rw [hWd] at hnx hit2 hbw2
        have hltX : w1.heap.size < X.heap.size := (Array.getElem?_eq_some_iff.1 hit2).1
        have he : Utf8.encode ((c.toNat : Nat) : Int) = ⟨#[c]⟩ := by
          have hv : Utf8.valid ((c.toNat : Nat) : Int) = true := by unfold Utf8.valid; simp; omega
          unfold Utf8.encode
          simp only [hv, if_true, Int.toNat_natCast]
          rw [if_pos (by omega)]
          simp
        have hcat : (⟨#[92]⟩ : ByteArray) ++ ⟨#[c]⟩ = ⟨#[92, c]⟩ := by
          apply ByteArray.ext
          simp
        have HSX := Lib.hid (HW1.out.2.below hbw2)
        have HBX := Lib.hid hbw2
        have HLX := Lib.hid hlx
        have H47' := Lib.hid hn47
        have HNN := Lib.hid HNX
        clear hbw2 hc hWd HNX hlx hn47
        cases hv : Lib.hasPrefix (rest t a) [92, c]
        · have HK := Lib.hid (skip_no HSX.out ⟨#[92, c]⟩ hv)
          have HV := Lib.hid hv
          clear hv
          go_wp2_with (go_at_call 65; refine HK.out.mono ?_; rintro e w2 ⟨rfl, hb2⟩)
          go_roundg g'
          case measure => omega
          case rel => exact ⟨pos + 1, (hb2.block _ hltX).trans hit2, Lib.hid (HBX.out.trans (hb2.mono HBX.out.size)), Lib.hid (HNN.out _ HV.out rfl), by omega⟩
        · have HK := Lib.hid (skip_b HSX.out ⟨#[92, c]⟩ hv)
          have HV := Lib.hid hv
          clear hv
          go_wp2_with (go_at_call 65; refine HK.out.mono ?_; rintro e w2 ⟨rfl, hw2⟩)
          go_ret
          rw [escJ_hit HLX.out H47'.out HV.out]
          exact ⟨rfl, a + 2, (HW1.out.trans (HW1.out.2.stays HBX.out)).trans hw2, (rest_add t a 2)⟩
      · have hnx : ∀ ty, (Instr.next (.pointer (some ⟨w1.heap.size, 0, none⟩)) true ty).run Tryz.prog wr = _ := fun ty => Lib.run_next_end_at wr w1.heap.size s pos ty hit hps
        have HX := Lib.hid (escJ_miss H47.out (fun q hq => by
          obtain ⟨i, hi, hq'⟩ := HALL.out q hq
          rw [← hq']
          exact HN.out i hi (by omega)))
        have HE := Lib.hid (escapedRune_any (HW1.out.2.below HB.out) (HR1.out.below HB.out))
        have HWB := Lib.hid (HW1.out.trans (HW1.out.2.stays HB.out))
        cases hpr : pairL (rest t a) with
        | ok y =>
          obtain ⟨x, R'⟩ := y
          rw [hpr] at HE HX
          clear hpr
          go_wp2_with (go_at_call 107; refine HE.out.mono ?_; rintro e w2 ⟨rfl, a', hw2, hr2⟩)
          go_ret
          rw [HX.out]
          exact ⟨rfl, a', HWB.out.trans hw2, hr2⟩
        | error c =>
          rw [hpr] at HE HX
          clear hpr
          go_wp2_with (go_at_call 107; refine HE.out.mono ?_; rintro e w2 ⟨D, rfl, h1, h2, h3⟩)
          refine ⟨rfl, ?_⟩
          rw [HX.out]
          exact Thrown.after ⟨D, rfl, h1, h2, h3⟩ HWB.out.1
  · have HK0 := Lib.hid (skip_b h ⟨#[92, 47]⟩ h47)
    have HX := Lib.hid (escJ_slash h47)
    clear h h47 hR
    go_enter Tryz.func97, Tryz.ntmps97
    go_wp2_with (go_at_call 65; refine HK0.out.mono ?_; rintro e w1 ⟨rfl, hw1⟩)
    go_ret
    rw [HX.out]
    exact ⟨rfl, a + 2, hw1, rest_add t a 2⟩
end Go.Proofs.YtcbcjeabpjjhbaaGreatDoor
namespace Go.Proofs.YtcbcjeabpjjhbaaGreatDoor
set_option linter.unusedVariables false

/-- How far runes go on of which p says so: from byte pos on, at most n runes. -/
def stopAt (p : Nat → Bool) (s : ByteArray) : Nat → Nat → Nat
  | 0, pos => s.size
  | n + 1, pos => if pos < s.size then (if p (Utf8.decode s pos).1 then stopAt p s n (pos + (Utf8.decode s pos).2) else pos) else s.size
theorem stopAt_step {p : Nat → Bool} {s : ByteArray} {n pos : Nat} (h : pos < s.size) (hp : p (Utf8.decode s pos).1 = true) : stopAt p s (n + 1) pos = stopAt p s n (pos + (Utf8.decode s pos).2) := by
  conv => lhs; unfold stopAt
  rw [if_pos h, if_pos hp]
theorem stopAt_stop {p : Nat → Bool} {s : ByteArray} {n pos : Nat} (h : pos < s.size) (hp : p (Utf8.decode s pos).1 = false) : stopAt p s (n + 1) pos = pos := by
  conv => lhs; unfold stopAt
  rw [if_pos h, if_neg (by rw [hp]; decide)]
theorem stopAt_end {p : Nat → Bool} {s : ByteArray} {n pos : Nat} (h : ¬ pos < s.size) : stopAt p s n pos = s.size := by
  cases n with
  | zero => rfl
  | succ n => unfold stopAt; rw [if_neg h]

/-- All bytes of a rune that is no ASCII are none. -/
theorem decode_wide (s : ByteArray) (pos : Nat) (h : pos < s.size) (ha : 128 ≤ (s[pos]'h).toNat) : pos + (Utf8.decode s pos).2 ≤ s.size ∧ ∀ i, pos ≤ i → i < pos + (Utf8.decode s pos).2 → 128 ≤ (s.get! i).toNat := by
  have hn : ¬ (s[pos]'h).toNat < 128 := by omega
  have g0 : (s.get! (pos + 0)).toNat = (s[pos]'h).toNat := by rw [get_at s pos h]
  have key : ∀ k, k ≤ 4 → 1 ≤ k → (∀ j, 1 ≤ j → j < k → pos + j < s.size ∧ 128 ≤ (s.get! (pos + j)).toNat) → pos + k ≤ s.size ∧ ∀ i, pos ≤ i → i < pos + k → 128 ≤ (s.get! i).toNat := by
    intro k hk hk1 hj
    refine ⟨?_, fun i h1 h2 => ?_⟩
    · rcases Nat.lt_or_ge 1 k with h1 | h1
      · have := (hj (k - 1) (by omega) (by omega)).1; omega
      · omega
    · rcases Nat.eq_or_lt_of_le h1 with h3 | h3
      · subst h3; rw [Nat.add_zero] at g0; omega
      · have := (hj (i - pos) (by omega) (by omega)).2
        rwa [show pos + (i - pos) = i by omega] at this
  have hc : ∀ k, (decide (pos + k < s.size) && ((s.get! (pos + k)).toNat / 64 == 2)) = true → pos + k < s.size ∧ 128 ≤ (s.get! (pos + k)).toNat := by
    intro k hk
    simp only [Bool.and_eq_true, decide_eq_true_eq, beq_iff_eq] at hk
    exact ⟨hk.1, by omega⟩
  simp only [Utf8.decode, get_at s pos h, hn, if_false]
  split
  · rename_i h1
    have h2 := (Bool.and_eq_true_iff.1 h1).2
    split
    · exact key 2 (by omega) (by omega) (fun j a b => by obtain rfl : j = 1 := by omega
                                                         exact hc 1 h2)
    · exact key 1 (by omega) (by omega) (fun j a b => by omega)
  · split
    · rename_i h1
      obtain ⟨h2, h4⟩ := Bool.and_eq_true_iff.1 h1
      have h3 := (Bool.and_eq_true_iff.1 h2).2
      split
      · exact key 3 (by omega) (by omega) (fun j a b => by
          rcases (show j = 1 ∨ j = 2 by omega) with rfl | rfl
          · exact hc 1 h3
          · exact hc 2 h4)
      · exact key 1 (by omega) (by omega) (fun j a b => by omega)
    · split
      · rename_i h1
        obtain ⟨h2, h5⟩ := Bool.and_eq_true_iff.1 h1
        obtain ⟨h3, h4⟩ := Bool.and_eq_true_iff.1 h2
        have h6 := (Bool.and_eq_true_iff.1 h3).2
        split
        · exact key 4 (by omega) (by omega) (fun j a b => by
            rcases (show j = 1 ∨ j = 2 ∨ j = 3 by omega) with rfl | rfl | rfl
            · exact hc 1 h6
            · exact hc 2 h4
            · exact hc 3 h5)
        · exact key 1 (by omega) (by omega) (fun j a b => by omega)
      · exact key 1 (by omega) (by omega) (fun j a b => by omega)

/-- A statement on runes that is one on bytes: all that is no ASCII is alike. -/
def byteP (q : UInt8 → Bool) (hi : Bool) (c : UInt8) : Bool := if c.toNat < 128 then q c else hi
theorem drop_cons {l : List UInt8} {i : Nat} (h : i < l.length) : l.drop i = l[i] :: l.drop (i + 1) := List.drop_eq_getElem_cons h
theorem get_list {s : ByteArray} {i : Nat} (h : i < s.size) : s.get! i = s.data.toList[i]'(by simpa using h) := by
  have := get_at s i h
  rw [Nat.add_zero] at this
  rw [this]
  rfl
theorem skip_all {q : UInt8 → Bool} {l : List UInt8} : ∀ (k i : Nat), i + k ≤ l.length → (∀ j (h : j < l.length), i ≤ j → j < i + k → q l[j] = true) → (l.drop i).dropWhile q = (l.drop (i + k)).dropWhile q
  | 0, i, _, _ => rfl
  | k + 1, i, hk, h => by
    have hi : i < l.length := by omega
    rw [drop_cons hi, List.dropWhile_cons_of_pos (h i hi (Nat.le_refl _) (by omega))]
    rw [skip_all k (i + 1) (by omega) (fun j hj h1 h2 => h j hj (by omega) (by omega)), show i + 1 + k = i + (k + 1) by omega]
/-- Runes are gone over as bytes are. -/
theorem stopAt_bytes {p : Nat → Bool} {q : UInt8 → Bool} {hi : Bool} {s : ByteArray} (hlo : ∀ c : UInt8, c.toNat < 128 → p c.toNat = q c) (hhi : ∀ r, 128 ≤ r → p r = hi) :
    ∀ (n pos : Nat), s.size - pos ≤ n → pos ≤ s.size → s.data.toList.drop (stopAt p s n pos) = (s.data.toList.drop pos).dropWhile (byteP q hi) ∧ pos ≤ stopAt p s n pos ∧ stopAt p s n pos ≤ s.size
  | n, pos, hn, hpos => by
    have hlen : s.data.toList.length = s.size := by simp
    by_cases h : pos < s.size
    · obtain ⟨m, rfl⟩ : ∃ m, n = m + 1 := ⟨n - 1, by omega⟩
      have hl : pos < s.data.toList.length := by omega
      have hg : s.data.toList[pos] = s[pos]'h := rfl
      by_cases ha : (s[pos]'h).toNat < 128
      · have hd := decode_ascii s pos h ha
        have e1 : (Utf8.decode s pos).1 = (s[pos]'h).toNat := by rw [hd]
        have e2 : (Utf8.decode s pos).2 = 1 := by rw [hd]
        have hb : byteP q hi s.data.toList[pos] = p (Utf8.decode s pos).1 := by unfold byteP; rw [hg, if_pos ha, e1, hlo _ ha]
        cases hp : p (Utf8.decode s pos).1
        · rw [stopAt_stop h hp]
          refine ⟨?_, Nat.le_refl _, by omega⟩
          rw [drop_cons hl, List.dropWhile_cons_of_neg (by rw [hb, hp]; decide)]
        · rw [stopAt_step h hp, e2]
          obtain ⟨i1, i2, i3⟩ := stopAt_bytes (p := p) (s := s) (q := q) (hi := hi) hlo hhi m (pos + 1) (by omega) (by omega)
          refine ⟨?_, by omega, i3⟩
          rw [i1, drop_cons hl, List.dropWhile_cons_of_pos (by rw [hb, hp])]
      · have hw := decode_wide s pos h (by omega)
        have hh := decode_high s pos h (by omega)
        have hp' : p (Utf8.decode s pos).1 = hi := hhi _ hh.1
        cases hi with
        | false =>
          rw [stopAt_stop h hp']
          refine ⟨?_, Nat.le_refl _, by omega⟩
          rw [drop_cons hl, List.dropWhile_cons_of_neg (by unfold byteP; rw [hg, if_neg ha]; decide)]
        | true =>
          rw [stopAt_step h hp']
          obtain ⟨i1, i2, i3⟩ := stopAt_bytes (p := p) (s := s) (q := q) (hi := true) hlo hhi m (pos + (Utf8.decode s pos).2) (by omega) hw.1
          refine ⟨?_, by omega, i3⟩
          rw [i1]
          refine (skip_all _ pos (by omega) (fun j hj h1 h2 => ?_)).symm
          have h3 := hw.2 j h1 h2
          rw [get_list (by omega)] at h3
          unfold byteP
          rw [if_neg (by omega)]
    · rw [stopAt_end h]
      refine ⟨?_, hpos, Nat.le_refl _⟩
      rw [List.drop_of_length_le (by omega), List.drop_of_length_le (by omega)]
      rfl
termination_by n => n
end Go.Proofs.YtcbcjeabpjjhbaaGreatDoor
