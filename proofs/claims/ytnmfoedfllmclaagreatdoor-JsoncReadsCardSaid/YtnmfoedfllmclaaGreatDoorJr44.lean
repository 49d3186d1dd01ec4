/- The document's own reader: any value; a whole text · Decode: what was thrown is caught -/
import Derived.Defers
import Derived.Recover
import Derived.Test.YtnmfoedfllmclaaGreatDoorJr32
import Derived.Test.YtnmfoedfllmclaaGreatDoorJr40
import Derived.Test.YtnmfoedfllmclaaGreatDoorJr43
namespace Go.Proofs.YtnmfoedfllmclaaGreatDoor
open Go.RowKit Go.Shelf
set_option linter.unusedVariables false

theorem rdoc_value {c0 x0 : Nat} {t : ByteArray} (h0 : c0 = 0) (hs : t.size ≤ 65536) : ∀ (d : Nat), d ≤ 24 → ∀ (W : World) (a n : Nat), a ≤ t.size → n ≤ 2000 → Calls Tryz.prog 25 #[stV t a n c0 x0, .int .i64 (25 - (d : Int))] W (VlE W t c0 x0 (valD d (rest t a) n))
  | 0, _, W, a, n, ha, hn => rvalue_any h0 ha hs hn rfl (by omega) W (fun _ _ _ _ _ _ h => absurd h (by omega))
  | d + 1, hd, W, a, n, ha, hn => by
    have ih := rdoc_value (x0 := x0) h0 hs d (by omega)
    refine rvalue_any h0 ha hs hn rfl hd W (fun W a n obj ha hn _ => ?_)
    have hv : ∀ (W : World) (a n : Nat), a ≤ t.size → n ≤ 2000 → Calls Tryz.prog 25 #[stV t a n c0 x0, .int .i64 (25 - ((d + 1 : Nat) : Int) + 1)] W (VlE W t c0 x0 (valD d (rest t a) n)) := fun W a n ha hn => by
      rw [show (25 - ((d + 1 : Nat) : Int) + 1) = 25 - (d : Int) by omega]
      exact ih W a n ha hn
    cases obj with
    | false => exact rmany_list h0 ha hs hn (by omega) (by omega) hv W
    | true => exact rmany_obj h0 ha hs hn (by omega) (by omega) hv W
/-- How the document's Decode ends. -/
def RDec (W : World) (t : ByteArray) (r : Except Bad VT) (e : Ending) (w' : World) : Prop := Below W.heap.size W w' ∧ match r with
  | .ok T => ∃ v, e = .returned (.tuple #[v, .int .i64 0, .int .i64 0]) ∧ Is w'.heap.size w' v T
  | .error bd => e = .returned (.tuple #[nilD, .int .i64 bd.1, .int .i64 ((t.size - bd.2 : Nat) : Int)]) ∧ bd.1 ≠ 0
theorem RDec.bad {W w' : World} {t : ByteArray} {r : Except Bad VT} {bd : Bad} {k x : Nat} (hr : r = .error bd) (hne : k ≠ 0) (hk : ((k : Nat) : Int) = bd.1) (hx : x = t.size - bd.2) (hb : Below W.heap.size W w') : RDec W t r (.returned (.tuple #[nilD, .int .i64 (k : Int), .int .i64 (x : Int)])) w' := by
  subst hr
  exact ⟨hb, by rw [hk, hx], by omega⟩
set_option maxRecDepth 100000 in
set_option maxHeartbeats 8000000 in
theorem rdecode_long {t : ByteArray} (hl : 65536 < t.size) (W : World) : Calls Tryz.prog 11 #[.string t] W (RDec W t (wholeD t)) := by
  have HQ : Hid (wholeD t = .error (3, t.size)) := Lib.hid (by unfold wholeD; rw [if_pos hl])
  have q1 : (65536 : Int) < (t.size : Int) := by omega
  clear hl
  go_enter Tryz.func11, Tryz.ntmps11
  go_wp2
  go_returns
  rw [HQ.out]
  refine ⟨?_, by rw [Nat.sub_self]; rfl, by show (3 : Int) ≠ 0; decide⟩
  go_grown
theorem Fresh.under {lo lo' B : Nat} {W W' : World} {v : Value} {T : VT} (h : Fresh lo B W v T) (hb : Below B W W') (hl : lo' ≤ lo) : Fresh lo' B W' v T := h.keep (fun g _ h2 => hb.block g h2) hl (Nat.le_refl _)
theorem below_two {W w3 : World} {o1 o2 : Obj} (h : Below W.heap.size W w3) : Below W.heap.size W ((w3.alloc o1).alloc o2) := (h.alloc h.size o1).alloc (by simp; have := h.size; omega) o2
theorem wholeD_err {t : ByteArray} {bd : Bad} (hs : t.size ≤ 65536) (hv : valD 24 (rest t 0) 0 = .error bd) : wholeD t = .error bd := by
  unfold wholeD
  rw [if_neg (by omega), show t.data.toList = rest t 0 from rfl, hv]
theorem wholeD_ok {t : ByteArray} {T : VT} {R : List UInt8} {n : Nat} (hs : t.size ≤ 65536) (hv : valD 24 (rest t 0) 0 = .ok (T, R, n)) : wholeD t = if skipB R = [] then .ok T else .error (30, (skipB R).length) := by
  unfold wholeD
  rw [if_neg (by omega), show t.data.toList = rest t 0 from rfl, hv]
set_option maxRecDepth 100000 in
set_option maxHeartbeats 8000000 in
theorem rdecode_short {t : ByteArray} (hs : t.size ≤ 65536) (W : World) : Calls Tryz.prog 11 #[.string t] W (RDec W t (wholeD t)) := by
  have hk0 := Blk.new W #[.int .i64 0, .bool false, .string ⟨#[]⟩, .slice none 0 0, .slice none 0 0] 26
  have hb0 := below_new0 W (.cells #[.int .i64 0, .bool false, .string ⟨#[]⟩, .slice none 0 0, .slice none 0 0] 26)
  have HS0 : Hid (Blk (W.alloc (.cells #[.int .i64 0, .bool false, .string ⟨#[]⟩, .slice none 0 0, .slice none 0 0] 26)) W.heap.size #[.int .i64 0, .bool false, .string ⟨#[]⟩, .slice none 0 0, .slice none 0 0] 26 ∧ Below W.heap.size W (W.alloc (.cells #[.int .i64 0, .bool false, .string ⟨#[]⟩, .slice none 0 0, .slice none 0 0] 26))) := Lib.hid ⟨hk0, hb0⟩
  have HVAL : Hid (Calls Tryz.prog 25 #[.agg #[.string t, .int .i64 0, .int .i64 0, .int .i64 0, .int .i64 0], .int .i64 1] (W.alloc (.cells #[.int .i64 0, .bool false, .string ⟨#[]⟩, .slice none 0 0, .slice none 0 0] 26)) (VlE (W.alloc (.cells #[.int .i64 0, .bool false, .string ⟨#[]⟩, .slice none 0 0, .slice none 0 0] 26)) t 0 0 (valD 24 (rest t 0) 0))) := Lib.hid (rdoc_value (c0 := 0) (x0 := 0) rfl hs 24 (by omega) _ 0 0 (by omega) (by omega))
  clear hk0 hb0
  have q1 : ¬ (65536 : Int) < (t.size : Int) := by omega
  go_enter Tryz.func11, Tryz.ntmps11
  go_wp2_with fail
  go_at_call 25; refine HVAL.out.mono ?_
  intro e8 w8 hv8
  obtain ⟨hb8, b8, n8, k8, x8, v8, T8, rfl, hF8, hbt8, hn8, hG8⟩ := hv8.going
  obtain ⟨vk, vb, vt, vad, vn, vcap, vadk, vnk, vcapk, rfl⟩ := hF8.shape
  have hsz := hb8.size
  have hlt := HS0.out.1.lt
  have hb2 : Below W.heap.size W w8 := HS0.out.2.trans (hb8.mono HS0.out.2.size)
  have HA : Hid (Blk ((w8.alloc (.cells #[.string t, .int .i64 (b8 : Int), .int .i64 (n8 : Int), .int .i64 (k8 : Int), .int .i64 (x8 : Int)] 56)).alloc (.cells #[.int .i64 vk, .bool vb, .string vt, .slice vad vn vcap, .slice vadk vnk vcapk] 26)) w8.heap.size #[.string t, .int .i64 (b8 : Int), .int .i64 (n8 : Int), .int .i64 (k8 : Int), .int .i64 (x8 : Int)] 56 ∧ Blk ((w8.alloc (.cells #[.string t, .int .i64 (b8 : Int), .int .i64 (n8 : Int), .int .i64 (k8 : Int), .int .i64 (x8 : Int)] 56)).alloc (.cells #[.int .i64 vk, .bool vb, .string vt, .slice vad vn vcap, .slice vadk vnk vcapk] 26)) (w8.heap.size + 1) #[.int .i64 vk, .bool vb, .string vt, .slice vad vn vcap, .slice vadk vnk vcapk] 26 ∧ Blk ((w8.alloc (.cells #[.string t, .int .i64 (b8 : Int), .int .i64 (n8 : Int), .int .i64 (k8 : Int), .int .i64 (x8 : Int)] 56)).alloc (.cells #[.int .i64 vk, .bool vb, .string vt, .slice vad vn vcap, .slice vadk vnk vcapk] 26)) W.heap.size #[.int .i64 0, .bool false, .string ⟨#[]⟩, .slice none 0 0, .slice none 0 0] 26 ∧ Below W.heap.size W ((w8.alloc (.cells #[.string t, .int .i64 (b8 : Int), .int .i64 (n8 : Int), .int .i64 (k8 : Int), .int .i64 (x8 : Int)] 56)).alloc (.cells #[.int .i64 vk, .bool vb, .string vt, .slice vad vn vcap, .slice vadk vnk vcapk] 26)) ∧ Fresh (W.heap.size + 1) w8.heap.size ((w8.alloc (.cells #[.string t, .int .i64 (b8 : Int), .int .i64 (n8 : Int), .int .i64 (k8 : Int), .int .i64 (x8 : Int)] 56)).alloc (.cells #[.int .i64 vk, .bool vb, .string vt, .slice vad vn vcap, .slice vadk vnk vcapk] 26)) (.agg #[.int .i64 vk, .bool vb, .string vt, .slice vad vn vcap, .slice vadk vnk vcapk]) T8) := Lib.hid ⟨(Blk.new _ _ _).alloc _, (by
      have := Blk.new (w8.alloc (.cells #[.string t, .int .i64 (b8 : Int), .int .i64 (n8 : Int), .int .i64 (k8 : Int), .int .i64 (x8 : Int)] 56)) #[.int .i64 vk, .bool vb, .string vt, .slice vad vn vcap, .slice vadk vnk vcapk] 26
      rw [World.size_alloc] at this
      exact this), ((HS0.out.1.below hb8).alloc _).alloc _, below_two hb2, hF8.under (((Below.refl _ w8).alloc (Nat.le_refl _) _).alloc (by simp) _) (by simp)⟩
  have HLT : Hid (W.heap.size < w8.heap.size) := Lib.hid (by omega)
  have HG := Lib.hid hG8
  clear hb8 hF8 hG8 hv8 hsz hlt hb2 HVAL HS0
  go_upto_region 4 with fail
  obtain ⟨w3, hw3⟩ : ∃ w3, ((w8.alloc (.cells #[.string t, .int .i64 (b8 : Int), .int .i64 (n8 : Int), .int .i64 (k8 : Int), .int .i64 (x8 : Int)] 56)).alloc (.cells #[.int .i64 vk, .bool vb, .string vt, .slice vad vn vcap, .slice vadk vnk vcapk] 26)) = w3 := ⟨_, rfl⟩
  rw [hw3] at HA ⊢
  obtain ⟨sb, hsb⟩ : ∃ sb, w8.heap.size = sb := ⟨_, rfl⟩
  rw [hsb] at HA HLT ⊢
  clear hw3 hsb
  have HBl := Lib.hid (rblanks_any (a := b8) (n := n8) (c := k8) (x := x8) hbt8 hs w3)
  have k0 := HA.out.1.cell 0
  have k1 := HA.out.1.cell 1
  have k2 := HA.out.1.cell 2
  have k3 := HA.out.1.cell 3
  have k4 := HA.out.1.cell 4
  go_wp2_with fail
  go_at_call 26; refine HBl.out.mono ?_; rintro e w4 ⟨b9, rfl, hsk, hbt9, hb4⟩
  have hA1 := HA.out.1.below hb4
  have hlt2 := HA.out.2.1.lt
  have HB : Hid (Blk (((((w4.setCell ⟨sb, 0, none⟩ (.string t)).setCell ⟨sb, 1, none⟩ (.int .i64 (b9 : Int))).setCell ⟨sb, 2, none⟩ (.int .i64 (n8 : Int))).setCell ⟨sb, 3, none⟩ (.int .i64 (k8 : Int))).setCell ⟨sb, 4, none⟩ (.int .i64 (x8 : Int))) sb #[.string t, .int .i64 (b9 : Int), .int .i64 (n8 : Int), .int .i64 (k8 : Int), .int .i64 (x8 : Int)] 56 ∧ Blk (((((w4.setCell ⟨sb, 0, none⟩ (.string t)).setCell ⟨sb, 1, none⟩ (.int .i64 (b9 : Int))).setCell ⟨sb, 2, none⟩ (.int .i64 (n8 : Int))).setCell ⟨sb, 3, none⟩ (.int .i64 (k8 : Int))).setCell ⟨sb, 4, none⟩ (.int .i64 (x8 : Int))) (sb + 1) #[.int .i64 vk, .bool vb, .string vt, .slice vad vn vcap, .slice vadk vnk vcapk] 26 ∧ Blk (((((w4.setCell ⟨sb, 0, none⟩ (.string t)).setCell ⟨sb, 1, none⟩ (.int .i64 (b9 : Int))).setCell ⟨sb, 2, none⟩ (.int .i64 (n8 : Int))).setCell ⟨sb, 3, none⟩ (.int .i64 (k8 : Int))).setCell ⟨sb, 4, none⟩ (.int .i64 (x8 : Int))) W.heap.size #[.int .i64 0, .bool false, .string ⟨#[]⟩, .slice none 0 0, .slice none 0 0] 26 ∧ Below W.heap.size W (((((w4.setCell ⟨sb, 0, none⟩ (.string t)).setCell ⟨sb, 1, none⟩ (.int .i64 (b9 : Int))).setCell ⟨sb, 2, none⟩ (.int .i64 (n8 : Int))).setCell ⟨sb, 3, none⟩ (.int .i64 (k8 : Int))).setCell ⟨sb, 4, none⟩ (.int .i64 (x8 : Int))) ∧ Fresh (W.heap.size + 1) sb (((((w4.setCell ⟨sb, 0, none⟩ (.string t)).setCell ⟨sb, 1, none⟩ (.int .i64 (b9 : Int))).setCell ⟨sb, 2, none⟩ (.int .i64 (n8 : Int))).setCell ⟨sb, 3, none⟩ (.int .i64 (k8 : Int))).setCell ⟨sb, 4, none⟩ (.int .i64 (x8 : Int))) (.agg #[.int .i64 vk, .bool vb, .string vt, .slice vad vn vcap, .slice vadk vnk vcapk]) T8) := Lib.hid ⟨hA1.set5 _ _ _ _ _, (HA.out.2.1.below hb4).other5 (by omega) _ _ _ _ _, (HA.out.2.2.1.below hb4).other5 (by have := HLT.out; omega) _ _ _ _ _, below_set5 (HA.out.2.2.2.1.trans (hb4.mono HA.out.2.2.2.1.size)) (by have := HLT.out; omega) _ _ _ _ _, HA.out.2.2.2.2.under (below_set5 (hb4.mono (by omega)) (Nat.le_refl _) _ _ _ _ _) (Nat.le_refl _)⟩
  have HSK : Hid (skipB (rest t b8) = rest t b9) := Lib.hid hsk.symm
  clear k0 k1 k2 k3 k4
  have k0 := hA1.cell 0
  have k1 := hA1.cell 1
  have k2 := hA1.cell 2
  have k3 := hA1.cell 3
  have k4 := hA1.cell 4
  have f0 := hA1.frozen 0
  have f1 := hA1.frozen 1
  have f2 := hA1.frozen 2
  have f3 := hA1.frozen 3
  have f4 := hA1.frozen 4
  clear hA1 hb4 hsk HBl HA hlt2
  go_upto_region 5 with fail
  obtain ⟨w5, hw5⟩ : ∃ w5, (((((w4.setCell ⟨sb, 0, none⟩ (.string t)).setCell ⟨sb, 1, none⟩ (.int .i64 (b9 : Int))).setCell ⟨sb, 2, none⟩ (.int .i64 (n8 : Int))).setCell ⟨sb, 3, none⟩ (.int .i64 (k8 : Int))).setCell ⟨sb, 4, none⟩ (.int .i64 (x8 : Int))) = w5 := ⟨_, rfl⟩
  rw [hw5] at HB ⊢
  clear hw5 k0 k1 k2 k3 k4 f0 f1 f2 f3 f4
  have k0 := HB.out.1.cell 0
  have k1 := HB.out.1.cell 1
  have k2 := HB.out.1.cell 2
  have k3 := HB.out.1.cell 3
  have k4 := HB.out.1.cell 4
  by_cases hlt : b9 < t.size
  · have q2 : (b9 : Int) < (t.size : Int) := by omega
    have HEX : Hid (∃ k' y' : Nat, failS t b9 n8 k8 x8 30 b9 = stV t b9 n8 k' y' ∧ k' ≠ 0 ∧ ∃ bd, wholeD t = .error bd ∧ ((k' : Nat) : Int) = bd.1 ∧ y' = t.size - bd.2) := Lib.hid (by
      obtain ⟨k', y', h1, h2, h3⟩ := fail_both (t := t) (a := b9) (n := n8) (c := k8) (x := x8) 30 b9
      refine ⟨k', y', h1, ?_⟩
      rcases HG.out with ⟨g1, g2, g3, -⟩ | ⟨g1, bd, g2, g3, g4⟩
      · obtain ⟨rfl, rfl⟩ := h2 g1
        refine ⟨by decide, (30, t.size - y'), ?_, rfl, by show y' = t.size - (t.size - y'); omega⟩
        have hne : ¬ rest t y' = [] := fun e => by
          have := rest_length (t := t) (a := y')
          rw [e] at this
          simp at this
          omega
        rw [wholeD_ok hs g3, HSK.out, if_neg hne, rest_length]
      · obtain ⟨rfl, rfl⟩ := h3 g1
        exact ⟨g1, bd, wholeD_err hs g2, g3, g4⟩)
    obtain ⟨k', y', hfe, hk', hbd⟩ := HEX.out
    have HF : Hid (Calls Tryz.prog 27 #[stV t b9 n8 k8 x8, .int .i64 30, .int .i64 (b9 : Int)] w5 (fun e w' => e = .returned (stV t b9 n8 k' y') ∧ Below w5.heap.size w5 w')) := Lib.hid (by
      have h := rfail_any (t := t) (a := b9) (n := n8) (c := k8) (x := x8) (k := 30) (y := b9) w5
      rw [hfe] at h
      exact h)
    have HBD : Hid (k' ≠ 0 ∧ ∃ bd, wholeD t = .error bd ∧ ((k' : Nat) : Int) = bd.1 ∧ y' = t.size - bd.2) := Lib.hid ⟨hk', hbd⟩
    have e8 : ((k' : Int) != 0) = true := by simp; omega
    clear hfe hk' hbd HEX hlt
    go_wp2_with fail
    go_at_call 27; refine HF.out.mono ?_; rintro e w6 ⟨rfl, hb6⟩
    have hA1 := HB.out.1.below hb6
    have HC : Hid (Blk (((((w6.setCell ⟨sb, 0, none⟩ (.string t)).setCell ⟨sb, 1, none⟩ (.int .i64 (b9 : Int))).setCell ⟨sb, 2, none⟩ (.int .i64 (n8 : Int))).setCell ⟨sb, 3, none⟩ (.int .i64 (k' : Int))).setCell ⟨sb, 4, none⟩ (.int .i64 (y' : Int))) sb #[.string t, .int .i64 (b9 : Int), .int .i64 (n8 : Int), .int .i64 (k' : Int), .int .i64 (y' : Int)] 56 ∧ Blk (((((w6.setCell ⟨sb, 0, none⟩ (.string t)).setCell ⟨sb, 1, none⟩ (.int .i64 (b9 : Int))).setCell ⟨sb, 2, none⟩ (.int .i64 (n8 : Int))).setCell ⟨sb, 3, none⟩ (.int .i64 (k' : Int))).setCell ⟨sb, 4, none⟩ (.int .i64 (y' : Int))) W.heap.size #[.int .i64 0, .bool false, .string ⟨#[]⟩, .slice none 0 0, .slice none 0 0] 26 ∧ Below W.heap.size W (((((w6.setCell ⟨sb, 0, none⟩ (.string t)).setCell ⟨sb, 1, none⟩ (.int .i64 (b9 : Int))).setCell ⟨sb, 2, none⟩ (.int .i64 (n8 : Int))).setCell ⟨sb, 3, none⟩ (.int .i64 (k' : Int))).setCell ⟨sb, 4, none⟩ (.int .i64 (y' : Int)))) := Lib.hid ⟨hA1.set5 _ _ _ _ _, (HB.out.2.2.1.below hb6).other5 (by have := HLT.out; omega) _ _ _ _ _, below_set5 (HB.out.2.2.2.1.trans (hb6.mono HB.out.2.2.2.1.size)) (by have := HLT.out; omega) _ _ _ _ _⟩
    clear k0 k1 k2 k3 k4
    have k0 := hA1.cell 0
    have k1 := hA1.cell 1
    have k2 := hA1.cell 2
    have k3 := hA1.cell 3
    have k4 := hA1.cell 4
    have f0 := hA1.frozen 0
    have f1 := hA1.frozen 1
    have f2 := hA1.frozen 2
    have f3 := hA1.frozen 3
    have f4 := hA1.frozen 4
    clear hA1 hb6 HF
    go_upto_region 7 with fail
    obtain ⟨w7, hw7⟩ : ∃ w7, (((((w6.setCell ⟨sb, 0, none⟩ (.string t)).setCell ⟨sb, 1, none⟩ (.int .i64 (b9 : Int))).setCell ⟨sb, 2, none⟩ (.int .i64 (n8 : Int))).setCell ⟨sb, 3, none⟩ (.int .i64 (k' : Int))).setCell ⟨sb, 4, none⟩ (.int .i64 (y' : Int))) = w7 := ⟨_, rfl⟩
    rw [hw7] at HC ⊢
    clear hw7 k0 k1 k2 k3 k4 f0 f1 f2 f3 f4
    have k0 := HC.out.1.cell 0
    have k1 := HC.out.1.cell 1
    have k2 := HC.out.1.cell 2
    have k3 := HC.out.1.cell 3
    have k4 := HC.out.1.cell 4
    have q0' := HC.out.2.1.cell 0
    have q1' := HC.out.2.1.cell 1
    have q2' := HC.out.2.1.cell 2
    have q3' := HC.out.2.1.cell 3
    have q4' := HC.out.2.1.cell 4
    have g0 := HC.out.2.1.frozen 0
    have g1 := HC.out.2.1.frozen 1
    have g2 := HC.out.2.1.frozen 2
    have g3 := HC.out.2.1.frozen 3
    have g4 := HC.out.2.1.frozen 4
    have l1 : W.heap.size < sb := HLT.out
    have l2 : ¬ sb = W.heap.size := by omega
    have l3 : ¬ W.heap.size = sb := by omega
    go_upto_region 8 with fail
    go_region
    go_wp2_with fail
    have hqe := HC.out.2.1.set5 (.int .i64 0) (.bool false) (.string ⟨#[]⟩) (.slice none 0 0) (.slice none 0 0)
    have r0 := hqe.cell 0
    have r1 := hqe.cell 1
    have r2 := hqe.cell 2
    have r3 := hqe.cell 3
    have r4 := hqe.cell 4
    have HEND := Lib.hid (below_set5 HC.out.2.2 (Nat.le_refl _) (.int .i64 0) (.bool false) (.string ⟨#[]⟩) (.slice none 0 0) (.slice none 0 0))
    clear hqe
    refine bodyPost_ret (by simp [results, Tryz.results11, go_sem, r0, r1, r2, r3, r4]; try rfl) rfl ?_
    obtain ⟨hne, bd, h1, h2, h3⟩ := HBD.out
    exact RDec.bad h1 hne h2 h3 HEND.out.drew
  · have q2 : ¬ (b9 : Int) < (t.size : Int) := by omega
    by_cases hk : k8 = 0
    · have HQ : Hid (wholeD t = .ok T8) := Lib.hid (by
        rcases HG.out with ⟨g1, g2, g3, -⟩ | ⟨g1, -⟩
        · rw [wholeD_ok hs g3, HSK.out, if_pos (rest_nil (by omega))]
        · exact absurd hk g1)
      have e8 : ((k8 : Int) != 0) = false := by simp; omega
      clear hk hlt
      have v0 := HB.out.2.1.cell 0
      have v1 := HB.out.2.1.cell 1
      have v2 := HB.out.2.1.cell 2
      have v3 := HB.out.2.1.cell 3
      have v4 := HB.out.2.1.cell 4
      have q0' := HB.out.2.2.1.cell 0
      have q1' := HB.out.2.2.1.cell 1
      have q2' := HB.out.2.2.1.cell 2
      have q3' := HB.out.2.2.1.cell 3
      have q4' := HB.out.2.2.1.cell 4
      have g0 := HB.out.2.2.1.frozen 0
      have g1 := HB.out.2.2.1.frozen 1
      have g2 := HB.out.2.2.1.frozen 2
      have g3 := HB.out.2.2.1.frozen 3
      have g4 := HB.out.2.2.1.frozen 4
      go_wp2_with fail
      have hqe := HB.out.2.2.1.set5 (.int .i64 vk) (.bool vb) (.string vt) (.slice vad vn vcap) (.slice vadk vnk vcapk)
      have r0 := hqe.cell 0
      have r1 := hqe.cell 1
      have r2 := hqe.cell 2
      have r3 := hqe.cell 3
      have r4 := hqe.cell 4
      have HEND := Lib.hid (below_set5 HB.out.2.2.2.1 (Nat.le_refl _) (.int .i64 vk) (.bool vb) (.string vt) (.slice vad vn vcap) (.slice vadk vnk vcapk))
      clear hqe
      refine bodyPost_ret (by simp [results, Tryz.results11, go_sem, r0, r1, r2, r3, r4]; try rfl) rfl ?_
      rw [HQ.out]
      have hsz := HB.out.2.1.lt
      exact ⟨HEND.out, _, rfl, (HB.out.2.2.2.2.keep (W' := (((((w5.setCell ⟨W.heap.size, 0, none⟩ (.int .i64 vk)).setCell ⟨W.heap.size, 1, none⟩ (.bool vb)).setCell ⟨W.heap.size, 2, none⟩ (.string vt)).setCell ⟨W.heap.size, 3, none⟩ (.slice vad vn vcap)).setCell ⟨W.heap.size, 4, none⟩ (.slice vadk vnk vcapk))) (fun g h1 h2 => heap5 _ (by omega) _ _ _ _ _) (Nat.le_refl _) (by simp; omega)).at⟩
    · have HQ : Hid (k8 ≠ 0 ∧ ∃ bd, wholeD t = .error bd ∧ ((k8 : Nat) : Int) = bd.1 ∧ x8 = t.size - bd.2) := Lib.hid (by
        rcases HG.out with ⟨g1, -⟩ | ⟨g1, bd, g2, g3, g4⟩
        · exact absurd g1 hk
        · exact ⟨g1, bd, wholeD_err hs g2, g3, g4⟩)
      have e8 : ((k8 : Int) != 0) = true := by simp; omega
      clear hk hlt
      have k0 := HB.out.1.cell 0
      have k1 := HB.out.1.cell 1
      have k2 := HB.out.1.cell 2
      have k3 := HB.out.1.cell 3
      have k4 := HB.out.1.cell 4
      have q0' := HB.out.2.2.1.cell 0
      have q1' := HB.out.2.2.1.cell 1
      have q2' := HB.out.2.2.1.cell 2
      have q3' := HB.out.2.2.1.cell 3
      have q4' := HB.out.2.2.1.cell 4
      have g0 := HB.out.2.2.1.frozen 0
      have g1 := HB.out.2.2.1.frozen 1
      have g2 := HB.out.2.2.1.frozen 2
      have g3 := HB.out.2.2.1.frozen 3
      have g4 := HB.out.2.2.1.frozen 4
      have l1 : W.heap.size < sb := HLT.out
      have l2 : ¬ sb = W.heap.size := by omega
      have l3 : ¬ W.heap.size = sb := by omega
      go_upto_region 8 with fail
      go_region
      go_wp2_with fail
      have hqe := HB.out.2.2.1.set5 (.int .i64 0) (.bool false) (.string ⟨#[]⟩) (.slice none 0 0) (.slice none 0 0)
      have r0 := hqe.cell 0
      have r1 := hqe.cell 1
      have r2 := hqe.cell 2
      have r3 := hqe.cell 3
      have r4 := hqe.cell 4
      have HEND := Lib.hid (below_set5 HB.out.2.2.2.1 (Nat.le_refl _) (.int .i64 0) (.bool false) (.string ⟨#[]⟩) (.slice none 0 0) (.slice none 0 0))
      clear hqe
      refine bodyPost_ret (by simp [results, Tryz.results11, go_sem, r0, r1, r2, r3, r4]; try rfl) rfl ?_
      obtain ⟨hne, bd, h1, h2, h3⟩ := HQ.out
      exact RDec.bad h1 hne h2 h3 HEND.out.drew
end Go.Proofs.YtnmfoedfllmclaaGreatDoor
namespace Go.Proofs.YtnmfoedfllmclaaGreatDoor
open Go.RowKit Go.Shelf
set_option linter.unusedVariables false

theorem caught_nil (w : World) : Calls Tryz.prog 23 #[.nilIface] w fun e w' => e = .returned (.pointer none) ∧ w' = w := by
  have hnil : ∀ w : World, (binOp BinOp.eql 20 .nilIface .nilIface).run Tryz.prog w = .ok (.bool true) w := fun _ => by kernel_rfl
  go_enter Tryz.func23, Tryz.ntmps23
  go_wp2
  go_ret
  exact ⟨rfl, rfl⟩
theorem caught_diag (D : Nat) (w : World) : Calls Tryz.prog 23 #[.iface 34 (.pointer (some ⟨D, 0, none⟩))] w fun e w' => e = .returned (.pointer (some ⟨D, 0, none⟩)) ∧ w' = w := by
  have hnil : ∀ w : World, (binOp BinOp.eql 20 (.iface 34 (.pointer (some ⟨D, 0, none⟩))) .nilIface).run Tryz.prog w = .ok (.bool false) w := fun _ => by kernel_rfl
  have hta : ∀ w : World, (Instr.typeAssert (.iface 34 (.pointer (some ⟨D, 0, none⟩))) 20 34 true).run Tryz.prog w = .ok (.tuple #[.pointer (some ⟨D, 0, none⟩), .bool true]) w := fun _ => by kernel_rfl
  go_enter Tryz.func23, Tryz.ntmps23
  go_wp2
  go_ret
  exact ⟨rfl, rfl⟩
theorem catch_panicking (p : Addr) (D : Nat) (v : Value) (older : List PanicEntry) (w : World) (hc : w.cell? p = some v) (hz : w.frozen? p = false) :
    CallsD Tryz.prog 22 #[.pointer (some p)] (.panicking ({ v := .iface 34 (.pointer (some ⟨D, 0, none⟩)), recovered := false } :: older)) w fun e u' w' =>
      e = .returned (.tuple #[]) ∧ u' = .panicking ({ v := .iface 34 (.pointer (some ⟨D, 0, none⟩)), recovered := true } :: older) ∧ w' = w.setCell p (.pointer (some ⟨D, 0, none⟩)) := by
  refine callsD_of_wpS Tryz.func22 rfl fun c₀ cs hu => ?_
  apply wpS_region
  simp [wpOpsS, go_sem, recoverD, hu, Tryz.ntmps22]
  refine (caught_diag D w).mono ?_
  rintro e w2 ⟨rfl, rfl⟩
  simp [go_sem, hc, hz, bodyPostS, results, Tryz.results22]
theorem catch_idle (p : Addr) (v : Value) (w : World) (hc : w.cell? p = some v) (hz : w.frozen? p = false) :
    CallsD Tryz.prog 22 #[.pointer (some p)] .returning w fun e u' w' => e = .returned (.tuple #[]) ∧ u' = .returning ∧ w' = w.setCell p (.pointer none) := by
  refine callsD_of_wpS Tryz.func22 rfl fun c₀ cs hu => ?_
  apply wpS_region
  simp [wpOpsS, go_sem, recoverD, hu, Tryz.ntmps22]
  refine (caught_nil w).mono ?_
  rintro e w2 ⟨rfl, rfl⟩
  simp [go_sem, hc, hz, bodyPostS, results, Tryz.results22]
  cases c₀
  simp_all
/-- How Decode ends. -/
def DecEnds (W : World) (t : ByteArray) (r : Except Bad VT) (e : Ending) (w' : World) : Prop :=
  Below W.heap.size W w' ∧ match r with
  | .ok T => ∃ v, e = .returned (.tuple #[v, .pointer none]) ∧ Fresh W.heap.size w'.heap.size w' v T ∧ smallT T
  | .error b => ∃ D, e = .returned (.tuple #[.agg #[.int .i64 0, .bool false, .string ⟨#[]⟩, .slice none 0 0, .slice none 0 0], .pointer (some ⟨D, 0, none⟩)]) ∧ W.heap.size ≤ D ∧ Blk w' D #[.int .i64 b.1, .string ⟨#[]⟩, .int .i64 ((t.size - b.2 : Nat) : Int)] 48
set_option maxRecDepth 100000 in
set_option maxHeartbeats 4000000 in
theorem decode_any {W : World} {t : ByteArray} (hR : ReadyJ W) : Calls Tryz.prog 10 #[.string t] W (DecEnds W t (wholeJ t)) := by
  obtain ⟨W1, hW1⟩ : ∃ W1, W.alloc (.cells #[.int .i64 0, .bool false, .string ⟨#[]⟩, .slice none 0 0, .slice none 0 0] 26) = W1 := ⟨_, rfl⟩
  have hz1 : W1.heap.size = W.heap.size + 1 := by rw [← hW1]; simp
  have b1 : Blk W1 W.heap.size #[.int .i64 0, .bool false, .string ⟨#[]⟩, .slice none 0 0, .slice none 0 0] 26 := by rw [← hW1]; exact Blk.new _ _ _
  have s1 : Below W.heap.size W W1 := by rw [← hW1]; exact below_new0 _ _
  obtain ⟨W2, hW2⟩ : ∃ W2, W1.alloc (.cells #[.pointer none] 34) = W2 := ⟨_, rfl⟩
  have hz2 : W2.heap.size = W.heap.size + 2 := by rw [← hW2]; simp [hz1]
  have b2 : Blk W2 (W.heap.size + 1) #[.pointer none] 34 := by rw [← hW2, ← hz1]; exact Blk.new _ _ _
  have s2 : Below W1.heap.size W1 W2 := by rw [← hW2]; exact below_new0 _ _
  obtain ⟨W3, hW3⟩ : ∃ W3, W2.alloc (.cells #[.string t, .int .i64 0, .int .i64 0] 53) = W3 := ⟨_, rfl⟩
  have hz3 : W3.heap.size = W.heap.size + 3 := by rw [← hW3]; simp [hz2]
  have b3 : Blk W3 (W.heap.size + 2) #[.string t, .int .i64 0, .int .i64 0] 53 := by rw [← hW3, ← hz2]; exact Blk.new _ _ _
  have s3 : Below W2.heap.size W2 W3 := by rw [← hW3]; exact below_new0 _ _
  have s03 : Below W.heap.size W W3 := (s1.trans (s2.mono (by omega))).trans (s3.mono (by omega))
  have e1 := (b1.below s2).below s3
  have e2 := b2.below s3
  have h7 := hR.size
  have HWh : Hid (Calls Tryz.prog 24 #[.pointer (some ⟨W.heap.size + 2, 0, none⟩)] W3 (WhEnds W3 (W.heap.size + 2) t (wholeJ t))) := Lib.hid (by
    by_cases hl : 65536 < t.size
    · exact whole_long b3 hl
    · exact whole_any ⟨b3, by omega, by omega, by omega⟩ (hR.below s03) (by omega))
  have HS := Lib.hid s03
  have HE1 := Lib.hid e1
  have HE2 := Lib.hid e2
  have hmf : ∀ (fn : Fn) (first cap : Array Value) (w : World), (Instr.makeFunc fn first cap).run Tryz.prog w = .ok (.func fn first cap) w := fun _ _ _ _ => rfl
  have HW3 := Lib.hid hW3
  clear s1 s2 s3 b1 b2 b3 hR s03 e1 e2 hW3
  go_enter_defers Tryz.func10, Tryz.ntmps10
  go_wp2_with fail
  rw [HW3.out]
  go_at_call 24; refine HWh.out.mono ?_
  cases hw : wholeJ t with
  | error b =>
    rintro e w4 ⟨D, rfl, h1, h2, h3⟩
    have hn4 := HE1.out.aside h3 (by omega)
    have hr4 := HE2.out.aside h3 (by omega)
    have HB4 : Hid (Below W.heap.size W w4) := Lib.hid (HS.out.trans (h3.below (by omega) (by omega)))
    have hDne : D ≠ W.heap.size + 1 := by omega
    refine leaves_cons (f := 22) (args := #[.pointer (some ⟨W.heap.size + 1, 0, none⟩)]) (by simp) (by simp [go_sem]) ?_
    refine (catch_panicking ⟨W.heap.size + 1, 0, none⟩ D (.pointer none) [] w4 (hr4.cell 0) (hr4.frozen 0)).mono ?_
    rintro e u' w'' ⟨rfl, rfl, rfl⟩
    have hs4 := hr4.set 0 (.pointer (some ⟨D, 0, none⟩))
    have q0 := hs4.cell 0
    have hn5 := hn4.other (p := ⟨W.heap.size + 1, 0, none⟩) (by show W.heap.size ≠ W.heap.size + 1; omega) (.pointer (some ⟨D, 0, none⟩))
    have d0 := hn5.cell 0
    have d1 := hn5.cell 1
    have d2 := hn5.cell 2
    have d3 := hn5.cell 3
    have d4 := hn5.cell 4
    have hd := h2.other (p := ⟨W.heap.size + 1, 0, none⟩) hDne (.pointer (some ⟨D, 0, none⟩))
    have hb5 := HB4.out.setCell (p := ⟨W.heap.size + 1, 0, none⟩) (by show W.heap.size ≤ W.heap.size + 1; omega) (.pointer (some ⟨D, 0, none⟩))
    simp [Leaves, settle, results, Tryz.results10, go_sem, q0, d0, d1, d2, d3, d4]
    exact ⟨hb5, D, rfl, by omega, hd⟩
  | ok T =>
    rintro e w4 ⟨v, rfl, hf4, hs4, ha4⟩
    obtain ⟨y1, y2, y3, ya, yn, yc, yk, ym, yd, rfl⟩ := hf4.shape
    have hn4 := HE1.out.aside ha4 (by omega)
    have hr4 := HE2.out.aside ha4 (by omega)
    have HB4 : Hid (Below W.heap.size W w4) := Lib.hid (HS.out.trans (ha4.below (by omega) (by omega)))
    have z0 := hn4.cell 0
    have z1 := hn4.cell 1
    have z2 := hn4.cell 2
    have z3 := hn4.cell 3
    have z4 := hn4.cell 4
    have f0 := hn4.frozen 0
    have f1 := hn4.frozen 1
    have f2 := hn4.frozen 2
    have f3 := hn4.frozen 3
    have f4 := hn4.frozen 4
    have c0 := hr4.cell 0
    have g0 := hr4.frozen 0
    have HN4 := Lib.hid hn4
    have HR4 := Lib.hid hr4
    have HF4 := Lib.hid hf4
    have HS4 := Lib.hid hs4
    have HWE := Lib.hid hw
    clear hn4 hr4 hf4 hs4 ha4
    go_wp2_with fail
    have hn5 := (HN4.out.set5 (.int .i64 y1) (.bool y2) (.string y3) (.slice ya yn yc) (.slice yk ym yd)).other (p := ⟨W.heap.size + 1, 0, none⟩) (by show W.heap.size ≠ W.heap.size + 1; omega) (.pointer none)
    have hr5 := (HR4.out.other5 (B := W.heap.size) (by omega) (.int .i64 y1) (.bool y2) (.string y3) (.slice ya yn yc) (.slice yk ym yd)).set 0 (.pointer none)
    have hb5 := (below_set5 HB4.out (Nat.le_refl _) (.int .i64 y1) (.bool y2) (.string y3) (.slice ya yn yc) (.slice yk ym yd)).setCell (p := ⟨W.heap.size + 1, 0, none⟩) (by show W.heap.size ≤ W.heap.size + 1; omega) (.pointer none)
    have hf5 := HF4.out.keep (W' := ((((((w4.setCell ⟨W.heap.size, 0, none⟩ (.int .i64 y1)).setCell ⟨W.heap.size, 1, none⟩ (.bool y2)).setCell ⟨W.heap.size, 2, none⟩ (.string y3)).setCell ⟨W.heap.size, 3, none⟩ (.slice ya yn yc)).setCell ⟨W.heap.size, 4, none⟩ (.slice yk ym yd)).setCell ⟨W.heap.size + 1, 0, none⟩ (.pointer none))) (lo' := W.heap.size + 3) (B' := w4.heap.size) (fun g h1 h2 => by
      rw [Below.heap_setCell _ _ _ _ (by show g ≠ W.heap.size + 1; omega), Below.heap_setCell _ _ _ _ (by show g ≠ W.heap.size; omega), Below.heap_setCell _ _ _ _ (by show g ≠ W.heap.size; omega), Below.heap_setCell _ _ _ _ (by show g ≠ W.heap.size; omega), Below.heap_setCell _ _ _ _ (by show g ≠ W.heap.size; omega), Below.heap_setCell _ _ _ _ (by show g ≠ W.heap.size; omega)]) (by omega) (Nat.le_refl _)
    have hz5 : ((((((w4.setCell ⟨W.heap.size, 0, none⟩ (.int .i64 y1)).setCell ⟨W.heap.size, 1, none⟩ (.bool y2)).setCell ⟨W.heap.size, 2, none⟩ (.string y3)).setCell ⟨W.heap.size, 3, none⟩ (.slice ya yn yc)).setCell ⟨W.heap.size, 4, none⟩ (.slice yk ym yd)).setCell ⟨W.heap.size + 1, 0, none⟩ (.pointer none)).heap.size = w4.heap.size := by simp
    generalize ((((((w4.setCell ⟨W.heap.size, 0, none⟩ (.int .i64 y1)).setCell ⟨W.heap.size, 1, none⟩ (.bool y2)).setCell ⟨W.heap.size, 2, none⟩ (.string y3)).setCell ⟨W.heap.size, 3, none⟩ (.slice ya yn yc)).setCell ⟨W.heap.size, 4, none⟩ (.slice yk ym yd)).setCell ⟨W.heap.size + 1, 0, none⟩ (.pointer none)) = w5 at *
    refine leaves_cons (f := 22) (args := #[.pointer (some ⟨W.heap.size + 1, 0, none⟩)]) (by simp) (by simp [go_sem]) ?_
    refine (catch_idle ⟨W.heap.size + 1, 0, none⟩ (.pointer none) w5 (hr5.cell 0) (hr5.frozen 0)).mono ?_
    rintro e u' w'' ⟨rfl, rfl, rfl⟩
    have q0 := (hr5.set 0 (.pointer none)).cell 0
    have hn6 := hn5.other (p := ⟨W.heap.size + 1, 0, none⟩) (by show W.heap.size ≠ W.heap.size + 1; omega) (.pointer none)
    have d0 := hn6.cell 0
    have d1 := hn6.cell 1
    have d2 := hn6.cell 2
    have d3 := hn6.cell 3
    have d4 := hn6.cell 4
    have hb6 := hb5.setCell (p := ⟨W.heap.size + 1, 0, none⟩) (by show W.heap.size ≤ W.heap.size + 1; omega) (.pointer none)
    have hf6 := hf5.keep (W' := w5.setCell ⟨W.heap.size + 1, 0, none⟩ (.pointer none)) (lo' := W.heap.size) (B' := (w5.setCell ⟨W.heap.size + 1, 0, none⟩ (.pointer none)).heap.size) (fun g h1 h2 => by
      rw [Below.heap_setCell _ _ _ _ (by show g ≠ W.heap.size + 1; omega)]) (by omega) (by simp; omega)
    simp [Leaves, settle, results, Tryz.results10, go_sem, q0, d0, d1, d2, d3, d4]
    rw [HWE.out]
    exact ⟨hb6, _, rfl, hf6, HS4.out⟩
end Go.Proofs.YtnmfoedfllmclaaGreatDoor
