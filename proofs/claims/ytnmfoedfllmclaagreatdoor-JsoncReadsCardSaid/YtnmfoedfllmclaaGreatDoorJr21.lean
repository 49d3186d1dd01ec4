/- A number, a word · What is written is read back: runes, texts, numbers -/
import Derived.StillTailTactics
import Derived.Deep.RegionHeld3
import Derived.Test.YtnmfoedfllmclaaGreatDoorJr10
import Derived.Test.YtnmfoedfllmclaaGreatDoorJr14
import Derived.Test.YtnmfoedfllmclaaGreatDoorJr20
namespace Go.Proofs.YtnmfoedfllmclaaGreatDoor
open Go.RowKit
set_option linter.unusedVariables false

set_option maxRecDepth 100000 in
theorem sclone_any {s : ByteArray} (hs : s.size ≤ 1000000) (w : World) : Calls Tryz.prog 84 #[.string s] w fun e w' => e = .returned (.string s) ∧ Below w.heap.size w w' := by
  have HC := Lib.hid (Tryz.stringslite_Clone s w (by omega))
  go_enter Tryz.func84, Tryz.ntmps84
  go_wp2_with (go_at_call 103; refine HC.out.mono ?_; rintro e w1 ⟨rfl, hb⟩)
  go_ret
  exact ⟨rfl, hb⟩
theorem Is.scal (B : Nat) (W : World) (k : Int) (b : Bool) (t : ByteArray) : Is B W (scal k b t) (.node k b t [] []) :=
  Is.mk k b t [] [] none 0 (.slice none 0 0) 0 0 (fun _ => 0) (fun _ => false) (fun _ => ⟨#[]⟩) (fun _ => undef) (fun _ => undef) ⟨none, 0, rfl, by simp, by simp, fun h => absurd h (by simp)⟩ (by simp) (by simp) (fun h => absurd h (by simp)) (fun j h => absurd h (by simp)) (fun j h => absurd h (by simp))
/-- How number and word end. -/
def OneEnds (W : World) (P : Nat) (t : ByteArray) (n : Nat) (r : Except Bad (VT × List UInt8)) (e : Ending) (w' : World) : Prop :=
  match r with
  | .ok (T, R') => ∃ k b s a', T = .node k b s [] [] ∧ e = .returned (scal k b s) ∧ Went W w' P t a' n ∧ rest t a' = R'
  | .error b => Thrown W P t b e w'
theorem OneEnds.after {W W1 w' : World} {P a n m : Nat} {t : ByteArray} {r : Except Bad (VT × List UInt8)} {e : Ending} (hw : Went W W1 P t a m) (h : OneEnds W1 P t n r e w') : OneEnds W P t n r e w' := by
  cases r with
  | error b => exact Thrown.after h hw.1
  | ok y =>
    obtain ⟨k, b, s, a', h1, h2, h3, h4⟩ := h
    exact ⟨k, b, s, a', h1, h2, hw.trans h3, h4⟩
def intR (r : Except Bad (ByteArray × List UInt8)) : Except Bad (VT × List UInt8) := match r with | .error e => .error e | .ok (s, R') => .ok (intT s, R')
/-- Where the digits begin. -/
def digsAt (R : List UInt8) : List UInt8 := if Lib.hasPrefix R [45] then R.drop 1 else R
theorem numJ_no {R : List UInt8} (h : (digsAt R).head?.any digJ = false) : numJ R = .error (30, (digsAt R).length) := by
  unfold digsAt at *
  unfold numJ
  simp only [h]
  rfl
theorem numJ_long {R : List UInt8} (h : (digsAt R).head?.any digJ = true) (hl : 100 < (digsJ (digsAt R)).length) : numJ R = .error (3, R.length) := by
  unfold digsAt at *
  unfold numJ
  simp only [h]
  rw [if_pos trivial, if_pos hl]
theorem numJ_ok {R : List UInt8} (h : (digsAt R).head?.any digJ = true) (hl : ¬ 100 < (digsJ (digsAt R)).length) : numJ R = .ok (⟨(if digsJ (digsAt R) = [48] then [48] else R.take (R.length - (digsAt R).length + (digsJ (digsAt R)).length)).toArray⟩, (digsAt R).drop (digsJ (digsAt R)).length) := by
  unfold digsAt at *
  unfold numJ
  simp only [h]
  rw [if_pos trivial, if_neg hl]
theorem skip_digs {W : World} {P a n : Nat} {t : ByteArray} (h : Rdr W P t a n) : Calls Tryz.prog 65 #[.pointer (some ⟨P, 0, none⟩), .string ⟨#[45]⟩] W fun e w' => (∃ b, e = .returned (.bool b)) ∧ ∃ c, Went W w' P t c n ∧ rest t c = digsAt (rest t a) ∧ a ≤ c ∧ c - a = (rest t a).length - (digsAt (rest t a)).length := by
  cases hb : Lib.hasPrefix (rest t a) [45]
  · refine (skip_b h ⟨#[45]⟩ hb).mono ?_
    rintro e w' ⟨rfl, hw⟩
    exact ⟨⟨_, rfl⟩, a, hw, by unfold digsAt; rw [hb]; rfl, Nat.le_refl _, by unfold digsAt; rw [hb]; simp⟩
  · refine (skip_b h ⟨#[45]⟩ hb).mono ?_
    rintro e w' ⟨rfl, hw⟩
    have hle := pre_le (p := ⟨#[45]⟩) hb
    have h1 : (⟨#[45]⟩ : ByteArray).size = 1 := rfl
    refine ⟨⟨_, rfl⟩, a + 1, hw, by unfold digsAt; rw [hb, if_pos rfl, rest_add], by omega, ?_⟩
    unfold digsAt
    rw [hb, if_pos rfl, List.length_drop, rest_length]
    omega
theorem Aside.setFar {R : Nat} {W w : World} {p : Addr} (h : Aside R W w) (hB : W.heap.size ≤ p.block) (u : Value) : Aside R W (w.setCell p u) :=
  ⟨h.os, h.tape, h.output, by simpa using h.size, fun k hk hr => by rw [Below.heap_setCell w p u k (by omega)]; exact h.block k hk hr⟩
theorem Aside.set5 {R B : Nat} {W w : World} (h : Aside R W w) (hB : W.heap.size ≤ B) (b0 b1 b2 b3 b4 : Value) : Aside R W (((((w.setCell ⟨B, 0, none⟩ b0).setCell ⟨B, 1, none⟩ b1).setCell ⟨B, 2, none⟩ b2).setCell ⟨B, 3, none⟩ b3).setCell ⟨B, 4, none⟩ b4) :=
  ((((h.setFar (p := ⟨B, 0, none⟩) hB b0).setFar (p := ⟨B, 1, none⟩) hB b1).setFar (p := ⟨B, 2, none⟩) hB b2).setFar (p := ⟨B, 3, none⟩) hB b3).setFar (p := ⟨B, 4, none⟩) hB b4
theorem Blk.other5 {Q B : Nat} {w : World} {cs : Array Value} {ty : TypeId} (h : Blk w Q cs ty) (hne : Q ≠ B) (b0 b1 b2 b3 b4 : Value) : Blk (((((w.setCell ⟨B, 0, none⟩ b0).setCell ⟨B, 1, none⟩ b1).setCell ⟨B, 2, none⟩ b2).setCell ⟨B, 3, none⟩ b3).setCell ⟨B, 4, none⟩ b4) Q cs ty :=
  ((((h.other (p := ⟨B, 0, none⟩) hne b0).other (p := ⟨B, 1, none⟩) hne b1).other (p := ⟨B, 2, none⟩) hne b2).other (p := ⟨B, 3, none⟩) hne b3).other (p := ⟨B, 4, none⟩) hne b4
theorem Went.set5 {P a n B : Nat} {W w : World} {t : ByteArray} (h : Went W w P t a n) (hP : P < W.heap.size) (hB : W.heap.size ≤ B) (b0 b1 b2 b3 b4 : Value) : Went W (((((w.setCell ⟨B, 0, none⟩ b0).setCell ⟨B, 1, none⟩ b1).setCell ⟨B, 2, none⟩ b2).setCell ⟨B, 3, none⟩ b3).setCell ⟨B, 4, none⟩ b4) P t a n :=
  ⟨h.1.set5 hB b0 b1 b2 b3 b4, h.2.1.other5 (by omega) b0 b1 b2 b3 b4, h.2.2⟩
set_option maxRecDepth 100000 in
set_option maxHeartbeats 4000000 in
theorem number_any {W : World} {P a n : Nat} {t : ByteArray} (h : Rdr W P t a n) : Calls Tryz.prog 63 #[.pointer (some ⟨P, 0, none⟩)] W (OneEnds W P t n (intR (numJ (rest t a)))) := by
  have hb0 := below_new0 W (.cells #[.int .i64 0, .bool false, .string ⟨#[]⟩, .slice none 0 0, .slice none 0 0] 26)
  have HK := Lib.hid (skip_digs (h.below hb0))
  have HW0 := Lib.hid (h.stays hb0)
  have hBN := Blk.new W #[.int .i64 0, .bool false, .string ⟨#[]⟩, .slice none 0 0, .slice none 0 0] 26
  have k1 := h.1.cell 1
  have hP := h.1.lt
  have HBN := Lib.hid hBN
  have HA := Lib.hid (rest_back h.2.1)
  clear h hb0 hBN
  go_enter Tryz.func63, Tryz.ntmps63
  go_wp2_with fail
  go_at_call 65; refine HK.out.mono ?_; rintro e w1 ⟨⟨bs, rfl⟩, c, hw1, hc, hac, hca⟩
  have HW1 := Lib.hid (HW0.out.trans hw1)
  have HN1 := Lib.hid (HBN.out.aside hw1.1 (by omega))
  have HC := Lib.hid hc
  have HCA := Lib.hid hca
  clear hw1 hc k1 HK HW0 HBN hca
  cases hd : (digsAt (rest t a)).head?.any digJ
  · have HD := Lib.hid (digits_no HW1.out.2 (by rw [HC.out]; exact hd))
    have HX := Lib.hid (numJ_no hd)
    clear hd
    go_wp2_with (go_at_call 83; refine HD.out.mono ?_; rintro e w2 ⟨D, rfl, h1, h2, h3⟩)
    refine ⟨rfl, ?_⟩
    rw [HX.out]
    rw [HC.out] at h2
    exact ⟨D, rfl, Nat.le_trans HW1.out.1.size h1, h2, HW1.out.1.trans h3⟩
  · have HD := Lib.hid (digits_yes HW1.out.2 (by rw [HC.out]; exact hd))
    have hcs := HW1.out.2.2.1
    have hsz := HW1.out.2.2.2.1
    obtain ⟨G, hG⟩ : ∃ G, digsJ (digsAt (rest t a)) = G := ⟨_, rfl⟩
    have HD2 := Lib.hid (HD.out.mono fun e w' (x : DigsEnd w1 P t c n e w') => (by
      obtain ⟨b, h1, h2, h3⟩ := x
      rw [HC.out, hG] at h2
      exact ⟨b, h1, h2, h3⟩ : ∃ b, e = .returned (.string (t.extract c b)) ∧ b = c + G.length ∧ Went w1 w' P t b n))
    clear HD
    have hGl := digsJ_len (digsAt (rest t a))
    rw [hG, ← HC.out, rest_length] at hGl
    have HGT := Lib.hid (show (t.extract c (c + G.length)).data.toList = G by
      rw [extract_len (Nat.le_add_right _ _), HC.out, Nat.add_sub_cancel_left, ← hG]
      exact (digsJ_take _).symm)
    obtain ⟨s, hs⟩ : ∃ s, t.extract c (c + G.length) = s := ⟨_, rfl⟩
    rw [hs] at HGT
    have hsl : s.size = G.length := by rw [Lib.size_eq, HGT.out]
    have HS := Lib.hid hs
    by_cases hl : 100 < G.length
    · have HX := Lib.hid (numJ_long hd (by rw [hG]; exact hl))
      have i1 : (100 : Int) < (s.size : Int) := by omega
      clear hd hG hs hsl hl hGl
      go_wp2_with fail
      go_at_call 83; refine HD2.out.mono ?_; rintro e w2 ⟨b, rfl, rfl, hw2⟩
      rw [HS.out]
      have HW2 := Lib.hid (HW1.out.trans hw2)
      clear hw2
      go_wp2_with (go_at_call 40; refine (diag_any _ _ _).mono ?_; rintro e w3 ⟨rfl, rfl⟩)
      refine ⟨rfl, ?_⟩
      rw [HX.out]
      exact ⟨w2.heap.size, rfl, HW2.out.1.size, by have := Blk.new w2 #[.int .i64 3, .string ⟨#[]⟩, .int .i64 (a : Int)] 48; simpa [HA.out] using this, HW2.out.1.trans (Aside.of (below_new0 _ _))⟩
    · have HX := Lib.hid (numJ_ok hd (by rw [hG]; exact hl))
      have i1 : ¬ (100 : Int) < (s.size : Int) := by omega
      by_cases h0 : G = [48]
      · subst h0
        obtain rfl : s = ⟨#[48]⟩ := str_eq HGT.out
        have i2 : (c : Int) + 1 ≤ (t.size : Int) := by simp at hGl; omega
        have i0 : (0 : Int) ≤ (c : Int) := by omega
        have hcut : t.extract c (c + 1) = ⟨#[48]⟩ := HS.out
        have hsl1 : ∀ W, (Instr.sliceAt 9 (.string t) (some (.int .i64 (c : Int))) (some (.int .i64 ((c : Int) + 1))) none).run Tryz.prog W = .ok (.string ⟨#[48]⟩) W := fun W => by
          have i5 : ((c : Int) + 1).toNat = c + 1 := by omega
          have i4 : (c : Int) ≤ (c : Int) + 1 := by omega
          go_simp
        clear hcut
        have HY : Hid (numJ (rest t a) = .ok (⟨#[48]⟩, (rest t c).drop 1)) := Lib.hid (by rw [HX.out, hG, if_pos rfl, HC.out]; rfl)
        have HCL := Lib.hid (sclone_any (s := ⟨#[48]⟩) (by decide))
        clear hd hG hs hsl hl hGl HX
        go_wp2_with fail
        go_at_call 83; refine HD2.out.mono ?_; rintro e w2 ⟨b, rfl, hb, hw2⟩
        obtain rfl : b = c + 1 := hb
        have HS' := Lib.hid (show t.extract c (c + 1) = ⟨#[48]⟩ from HS.out)
        rw [HS'.out]
        have HW2 := Lib.hid (HW1.out.trans hw2)
        have HN2 := Lib.hid (HN1.out.aside hw2.1 (by omega))
        have q0 := hw2.2.1.cell 0
        have q1 := hw2.2.1.cell 1
        clear hw2
        go_wp2_with fail
        go_still_tail 10, (by kernel_rfl)
        change wpList _ _ _ _ _ w2.drew
        have HW3 := Lib.hid (HW2.out.trans (HW2.out.2.stays (below_drew w2)))
        have HN3 := Lib.hid (show Blk w2.drew W.heap.size _ _ from HN2.out)
        generalize w2.drew = w3 at *
        go_wp2_with fail
        go_at_call 84
        refine (HCL.out _).mono ?_; rintro e w4 ⟨rfl, hb4⟩
        have HW4 := Lib.hid (HW3.out.trans (HW3.out.2.stays hb4))
        have hn4 := HN3.out.below hb4
        have z0 := hn4.cell 0
        have z1 := hn4.cell 1
        have z2 := hn4.cell 2
        have z3 := hn4.cell 3
        have z4 := hn4.cell 4
        have y0 := hn4.frozen 0
        have y1 := hn4.frozen 1
        have y2 := hn4.frozen 2
        have y3 := hn4.frozen 3
        have y4 := hn4.frozen 4
        have HN4 := Lib.hid hn4
        clear hn4 hb4
        go_wp2_with fail
        have hd4 := HN4.out.set5 (.int .i64 3) (.bool false) (.string ⟨#[48]⟩) (.slice none 0 0) (.slice none 0 0)
        have d0 := hd4.cell 0
        have d1 := hd4.cell 1
        have d2 := hd4.cell 2
        have d3 := hd4.cell 3
        have d4 := hd4.cell 4
        refine bodyPost_ret (v := scal 3 false ⟨#[48]⟩) (by simp [results, Tryz.results63, go_sem, scal, d0, d1, d2, d3, d4]) rfl ?_
        rw [HY.out]
        exact ⟨3, false, ⟨#[48]⟩, c + 1, rfl, rfl, HW4.out.set5 hP (Nat.le_refl _) _ _ _ _ _, by rw [rest_add]⟩
      · have q48 : (s.toList == [48]) = false := by
          rw [beq_eq_false_iff_ne, ByteArray.toList_eq, HGT.out]
          exact h0
        have HY : Hid (numJ (rest t a) = .ok (⟨((rest t a).take (c - a + G.length)).toArray⟩, (rest t c).drop G.length)) := Lib.hid (by rw [HX.out, hG, if_neg h0, HCA.out, HC.out])
        have i0 : (0 : Int) ≤ (a : Int) := by omega
        have i2 : (a : Int) ≤ ((c + G.length : Nat) : Int) := by omega
        have i3 : ((c + G.length : Nat) : Int) ≤ (t.size : Int) := by omega
        obtain ⟨b0, hb0⟩ : ∃ b0, c + G.length = b0 := ⟨_, rfl⟩
        have HB0 := Lib.hid hb0
        have HST := Lib.hid (show (t.extract a b0).data.toList = (rest t a).take (c - a + G.length) by rw [extract_len (by omega), show b0 - a = c - a + G.length by omega])
        have hsz2 : (t.extract a b0).size ≤ 1000000 := by rw [Lib.size_eq, HST.out]; simp [rest_length]; omega
        have HCL := Lib.hid (sclone_any hsz2)
        rw [hb0] at HS i2 i3
        clear hd hG hs hsl hl hGl HX h0 hb0 hsz2
        go_wp2_with fail
        go_at_call 83; refine HD2.out.mono ?_; rintro e w2 ⟨b, rfl, hb, hw2⟩
        obtain rfl : b = b0 := hb.trans HB0.out
        rw [HS.out]
        have HW2 := Lib.hid (HW1.out.trans hw2)
        have HN2 := Lib.hid (HN1.out.aside hw2.1 (by omega))
        have q0 := hw2.2.1.cell 0
        have q1 := hw2.2.1.cell 1
        clear hw2 hb
        go_wp2_with fail
        go_still_tail 10, (by kernel_rfl)
        change wpList _ _ _ _ _ w2.drew
        have HW3 := Lib.hid (HW2.out.trans (HW2.out.2.stays (below_drew w2)))
        have HN3 := Lib.hid (show Blk w2.drew W.heap.size _ _ from HN2.out)
        generalize w2.drew = w3 at *
        go_wp2_with fail
        go_at_call 84; refine (HCL.out _).mono ?_; rintro e w4 ⟨rfl, hb4⟩
        have HW4 := Lib.hid (HW3.out.trans (HW3.out.2.stays hb4))
        have hn4 := HN3.out.below hb4
        have z0 := hn4.cell 0
        have z1 := hn4.cell 1
        have z2 := hn4.cell 2
        have z3 := hn4.cell 3
        have z4 := hn4.cell 4
        have y0 := hn4.frozen 0
        have y1 := hn4.frozen 1
        have y2 := hn4.frozen 2
        have y3 := hn4.frozen 3
        have y4 := hn4.frozen 4
        have HN4 := Lib.hid hn4
        clear hn4 hb4
        go_wp2_with fail
        have hd4 := HN4.out.set5 (.int .i64 3) (.bool false) (.string (t.extract a b)) (.slice none 0 0) (.slice none 0 0)
        have d0 := hd4.cell 0
        have d1 := hd4.cell 1
        have d2 := hd4.cell 2
        have d3 := hd4.cell 3
        have d4 := hd4.cell 4
        refine bodyPost_ret (v := scal 3 false (t.extract a b)) (by simp [results, Tryz.results63, go_sem, scal, d0, d1, d2, d3, d4]) rfl ?_
        rw [HY.out]
        exact ⟨3, false, t.extract a b, b, by rw [← HST.out]; rfl, rfl, HW4.out.set5 hP (Nat.le_refl _) _ _ _ _ _, by rw [← HB0.out, rest_add]⟩

set_option maxRecDepth 100000 in
set_option maxHeartbeats 4000000 in
theorem word_any {W : World} {P a n : Nat} {t : ByteArray} (h : Rdr W P t a n) : Calls Tryz.prog 64 #[.pointer (some ⟨P, 0, none⟩)] W (OneEnds W P t n (wordJ (rest t a))) := by
  have hb0 := below_new0 W (.cells #[.int .i64 0, .bool false, .string ⟨#[]⟩, .slice none 0 0, .slice none 0 0] 26)
  have hR0 := h.below hb0
  have HW0 := Lib.hid (h.stays hb0)
  have HN0 := Lib.hid (Blk.new W #[.int .i64 0, .bool false, .string ⟨#[]⟩, .slice none 0 0, .slice none 0 0] 26)
  have hP := h.1.lt
  have HA := Lib.hid (rest_back h.2.1)
  clear h hb0
  cases hv0 : Lib.hasPrefix (rest t a) [110, 117, 108, 108]
  · have HK0 := Lib.hid (skip_b hR0 ⟨#[110, 117, 108, 108]⟩ hv0)
    have HV0 := Lib.hid hv0
    clear hv0
    go_enter Tryz.func64, Tryz.ntmps64
    go_wp2_with fail
    go_at_call 65; refine HK0.out.mono ?_; rintro e w1 ⟨rfl, hw1⟩
    have HN1 := Lib.hid (HN0.out.aside hw1.1 (by omega))
    have HW1 := Lib.hid (HW0.out.trans hw1)
    clear hw1
    cases hv1 : Lib.hasPrefix (rest t a) [116, 114, 117, 101]
    · have HK1 := Lib.hid (skip_b HW1.out.2 ⟨#[116, 114, 117, 101]⟩ hv1)
      have HV1 := Lib.hid hv1
      clear hv1
      go_wp2_with fail
      go_at_call 65; refine HK1.out.mono ?_; rintro e w2 ⟨rfl, hw2⟩
      have HN2 := Lib.hid (HN1.out.aside hw2.1 (by omega))
      have HW2 := Lib.hid (HW1.out.trans hw2)
      clear hw2
      cases hv2 : Lib.hasPrefix (rest t a) [102, 97, 108, 115, 101]
      · have HK2 := Lib.hid (skip_b HW2.out.2 ⟨#[102, 97, 108, 115, 101]⟩ hv2)
        have HV2 := Lib.hid hv2
        clear hv2
        go_wp2_with fail
        go_at_call 65; refine HK2.out.mono ?_; rintro e w3 ⟨rfl, hw3⟩
        have HN3 := Lib.hid (HN2.out.aside hw3.1 (by omega))
        have HW3 := Lib.hid (HW2.out.trans hw3)
        clear hw3
        have HX : Hid (wordJ (rest t a) = .error (30, (rest t a).length)) := Lib.hid (by unfold wordJ; rw [HV0.out, HV1.out, HV2.out]; rfl)
        have q1 := HW3.out.2.1.cell 1
        go_wp2_with (go_at_call 40; refine (diag_any _ _ _).mono ?_; rintro e w9 ⟨rfl, rfl⟩)
        refine ⟨rfl, ?_⟩
        rw [HX.out]
        exact thrown_new (c := 30) HW3.out (l := (rest t a).length) HA.out
      · have HK2 := Lib.hid (skip_b HW2.out.2 ⟨#[102, 97, 108, 115, 101]⟩ hv2)
        have HV2 := Lib.hid hv2
        clear hv2
        go_wp2_with fail
        go_at_call 65; refine HK2.out.mono ?_; rintro e w3 ⟨rfl, hw3⟩
        have HN3 := Lib.hid (HN2.out.aside hw3.1 (by omega))
        have HW3 := Lib.hid (HW2.out.trans hw3)
        clear hw3
        have HX : Hid (wordJ (rest t a) = .ok (.node 2 false ⟨#[]⟩ [] [], (rest t a).drop 5)) := Lib.hid (by unfold wordJ; rw [HV0.out]; rw [HV1.out]; rw [HV2.out]; rfl)
        go_wp2_with fail
        have hc8 := vBool_any
        unfold scal at hc8
        have HC8 := Lib.hid hc8
        clear hc8
        go_at_call 86; refine (HC8.out _ _).mono ?_; rintro e w8 ⟨rfl, hb8⟩
        have HW8 := Lib.hid (HW3.out.trans (HW3.out.2.stays hb8))
        have hn4 := HN3.out.below hb8
        have z0 := hn4.cell 0
        have z1 := hn4.cell 1
        have z2 := hn4.cell 2
        have z3 := hn4.cell 3
        have z4 := hn4.cell 4
        have y0 := hn4.frozen 0
        have y1 := hn4.frozen 1
        have y2 := hn4.frozen 2
        have y3 := hn4.frozen 3
        have y4 := hn4.frozen 4
        have HN4 := Lib.hid hn4
        clear hn4 hb8
        go_wp2_with fail
        have hd4 := HN4.out.set5 (.int .i64 2) (.bool false) (.string ⟨#[]⟩) (.slice none 0 0) (.slice none 0 0)
        have d0 := hd4.cell 0
        have d1 := hd4.cell 1
        have d2 := hd4.cell 2
        have d3 := hd4.cell 3
        have d4 := hd4.cell 4
        refine bodyPost_ret (v := scal 2 false ⟨#[]⟩) (by simp [results, Tryz.results64, go_sem, scal, d0, d1, d2, d3, d4]) rfl ?_
        rw [HX.out]
        exact ⟨2, false, ⟨#[]⟩, a + 5, rfl, rfl, HW8.out.set5 hP (Nat.le_refl _) _ _ _ _ _, by rw [rest_add]⟩
    · have HK1 := Lib.hid (skip_b HW1.out.2 ⟨#[116, 114, 117, 101]⟩ hv1)
      have HV1 := Lib.hid hv1
      clear hv1
      go_wp2_with fail
      go_at_call 65; refine HK1.out.mono ?_; rintro e w2 ⟨rfl, hw2⟩
      have HN2 := Lib.hid (HN1.out.aside hw2.1 (by omega))
      have HW2 := Lib.hid (HW1.out.trans hw2)
      clear hw2
      have HX : Hid (wordJ (rest t a) = .ok (.node 2 true ⟨#[]⟩ [] [], (rest t a).drop 4)) := Lib.hid (by unfold wordJ; rw [HV0.out]; rw [HV1.out]; rfl)
      go_wp2_with fail
      have hc8 := vBool_any
      unfold scal at hc8
      have HC8 := Lib.hid hc8
      clear hc8
      go_at_call 86; refine (HC8.out _ _).mono ?_; rintro e w8 ⟨rfl, hb8⟩
      have HW8 := Lib.hid (HW2.out.trans (HW2.out.2.stays hb8))
      have hn4 := HN2.out.below hb8
      have z0 := hn4.cell 0
      have z1 := hn4.cell 1
      have z2 := hn4.cell 2
      have z3 := hn4.cell 3
      have z4 := hn4.cell 4
      have y0 := hn4.frozen 0
      have y1 := hn4.frozen 1
      have y2 := hn4.frozen 2
      have y3 := hn4.frozen 3
      have y4 := hn4.frozen 4
      have HN4 := Lib.hid hn4
      clear hn4 hb8
      go_wp2_with fail
      have hd4 := HN4.out.set5 (.int .i64 2) (.bool true) (.string ⟨#[]⟩) (.slice none 0 0) (.slice none 0 0)
      have d0 := hd4.cell 0
      have d1 := hd4.cell 1
      have d2 := hd4.cell 2
      have d3 := hd4.cell 3
      have d4 := hd4.cell 4
      refine bodyPost_ret (v := scal 2 true ⟨#[]⟩) (by simp [results, Tryz.results64, go_sem, scal, d0, d1, d2, d3, d4]) rfl ?_
      rw [HX.out]
      exact ⟨2, true, ⟨#[]⟩, a + 4, rfl, rfl, HW8.out.set5 hP (Nat.le_refl _) _ _ _ _ _, by rw [rest_add]⟩
  · have HK0 := Lib.hid (skip_b hR0 ⟨#[110, 117, 108, 108]⟩ hv0)
    have HV0 := Lib.hid hv0
    clear hv0
    go_enter Tryz.func64, Tryz.ntmps64
    go_wp2_with fail
    go_at_call 65; refine HK0.out.mono ?_; rintro e w1 ⟨rfl, hw1⟩
    have HN1 := Lib.hid (HN0.out.aside hw1.1 (by omega))
    have HW1 := Lib.hid (HW0.out.trans hw1)
    clear hw1
    have HX : Hid (wordJ (rest t a) = .ok (.node 0 false ⟨#[]⟩ [] [], (rest t a).drop 4)) := Lib.hid (by unfold wordJ; rw [HV0.out]; rfl)
    go_wp2_with fail
    have hc8 := vNull_any
    unfold scal at hc8
    have HC8 := Lib.hid hc8
    clear hc8
    go_at_call 85; refine (HC8.out _).mono ?_; rintro e w8 ⟨rfl, hb8⟩
    have HW8 := Lib.hid (HW1.out.trans (HW1.out.2.stays hb8))
    have hn4 := HN1.out.below hb8
    have z0 := hn4.cell 0
    have z1 := hn4.cell 1
    have z2 := hn4.cell 2
    have z3 := hn4.cell 3
    have z4 := hn4.cell 4
    have y0 := hn4.frozen 0
    have y1 := hn4.frozen 1
    have y2 := hn4.frozen 2
    have y3 := hn4.frozen 3
    have y4 := hn4.frozen 4
    have HN4 := Lib.hid hn4
    clear hn4 hb8
    go_wp2_with fail
    have hd4 := HN4.out.set5 (.int .i64 0) (.bool false) (.string ⟨#[]⟩) (.slice none 0 0) (.slice none 0 0)
    have d0 := hd4.cell 0
    have d1 := hd4.cell 1
    have d2 := hd4.cell 2
    have d3 := hd4.cell 3
    have d4 := hd4.cell 4
    refine bodyPost_ret (v := scal 0 false ⟨#[]⟩) (by simp [results, Tryz.results64, go_sem, scal, d0, d1, d2, d3, d4]) rfl ?_
    rw [HX.out]
    exact ⟨0, false, ⟨#[]⟩, a + 4, rfl, rfl, HW8.out.set5 hP (Nat.le_refl _) _ _ _ _ _, by rw [rest_add]⟩
end Go.Proofs.YtnmfoedfllmclaaGreatDoor
namespace Go.Proofs.YtnmfoedfllmclaaGreatDoor
set_option linter.unusedVariables false

theorem decodeL_pos {X : List UInt8} (h : X ≠ []) : 1 ≤ (Lib.decodeL X).2 := by
  have := Lib.decodeL_width X
  omega
def jsQ (t : ByteArray) : List UInt8 := 34 :: (textQ t.size t.data.toList ++ [34])
end Go.Proofs.YtnmfoedfllmclaaGreatDoor
