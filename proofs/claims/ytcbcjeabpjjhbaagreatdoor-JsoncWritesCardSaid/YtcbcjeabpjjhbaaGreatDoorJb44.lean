/- JsoncBack, walked: what is written is read back; what is read is written, and read to the same · What the rows' condition on the listed variables gives the walks · The closed facts of JsoncBack's row, one by one -/
import Derived.Test.YtcbcjeabpjjhbaaGreatDoorRows
import Derived.Lib.LaidU8T
import Derived.Shelf.Vars
import Derived.ProofKit
import Derived.LaidMore
import Derived.OpenShut
import Derived.Lay
import Derived.LaidLaws
import Derived.JoinedOf
import Derived.Test.YtcbcjeabpjjhbaaGreatDoorCards
import Derived.Test.YtcbcjeabpjjhbaaGreatDoorTie
import Derived.SevenTiedAt
import Derived.Stop.Joined
import Derived.Test.YtcbcjeabpjjhbaaGreatDoorJb06
import Derived.Test.YtcbcjeabpjjhbaaGreatDoorJb42
import Derived.Test.YtcbcjeabpjjhbaaGreatDoorJb43
namespace Go.Proofs.YtcbcjeabpjjhbaaGreatDoor
open Go.RowKit Go.Shelf
set_option linter.unusedVariables false

set_option maxRecDepth 100000 in
set_option maxHeartbeats 4000000 in
theorem back_yes {W : World} {v : Value} {T : VT} {text : ByteArray} (hT : Is W.heap.size W v T) (hR : ReadyJ W) (hc : (encR T).2 = 0) : Calls Tryz.prog 5 #[v, .string text] W fun e w' => e = .returned (.bool true) ∧ Below W.heap.size W w' := by
  obtain ⟨k, b, t, ad, n, cap, adk, nk, capk, rfl⟩ := hT.shape
  obtain ⟨Wz, hWz⟩ : ∃ Wz, W.alloc (.cells #[.int .i64 k, .bool b, .string t, .slice ad n cap, .slice adk nk capk] 26) = Wz := ⟨_, rfl⟩
  have hk0 : Blk Wz W.heap.size #[.int .i64 k, .bool b, .string t, .slice ad n cap, .slice adk nk capk] 26 := by rw [← hWz]; exact Blk.new _ _ _
  have HZ : Hid (Below W.heap.size W Wz) := by rw [← hWz]; exact Lib.hid (below_new0 _ _)
  have HI := Lib.hid hT
  have HR := Lib.hid (hR.below HZ.out)
  have HK := Lib.hid hk0
  have HA := Lib.hid (awake_any HR.out)
  have hpn : ∀ w : World, (binOp BinOp.eql 34 (.pointer none) (.pointer none)).run Tryz.prog w = .ok (.bool true) w := fun _ => rfl
  have hpq : ∀ w : World, (binOp BinOp.neq 34 (.pointer none) (.pointer none)).run Tryz.prog w = .ok (.bool false) w := fun _ => rfl
  have HC := Lib.hid hc
  clear hT hR hk0 hc
  go_enter Tryz.func5, Tryz.ntmps5
  go_wp2_with (go_at_call 7; refine HA.out.mono ?_; rintro e w1 ⟨rfl, hb1⟩; have d0 := (HK.out.below hb1).cell 0; have d1 := (HK.out.below hb1).cell 1; have d2 := (HK.out.below hb1).cell 2; have d3 := (HK.out.below hb1).cell 3; have d4 := (HK.out.below hb1).cell 4; refine Hid.out ?_)
  refine Lib.hid ?_
  have HB1 : Hid (Below W.heap.size W w1) := Lib.hid (HZ.out.trans (hb1.mono HZ.out.size))
  have HK1 := Lib.hid (HK.out.below hb1)
  have HR1 := Lib.hid (HR.out.below hb1)
  have HE := Lib.hid (encode_any HI.out HB1.out HB1.out.size HR1.out)
  clear hb1
  obtain ⟨hf, hsz, hlen, he⟩ := enc_ok HC.out
  have HFT := Lib.hid hf
  have HST := Lib.hid hsz
  have HW := Lib.hid (back_whole hf hsz hlen)
  rw [he] at HE
  clear hf hsz hlen he
  go_wp2_with (go_at_call 8; refine HE.out.mono ?_; rintro e w2 ⟨rfl, hb2⟩; refine Hid.out ?_)
  refine Lib.hid ?_
  have HB2 : Hid (Below W.heap.size W w2) := Lib.hid (HB1.out.trans (hb2.mono HB1.out.size))
  have HK2 := Lib.hid (HK1.out.below hb2)
  have HR2 := Lib.hid (HR1.out.below hb2)
  have HD := Lib.hid (decode_any (t := jsB T) HR2.out)
  rw [HW.out] at HD
  clear hb2 d0 d1 d2 d3 d4
  go_wp2_with (go_at_call 10; refine HD.out.mono ?_; rintro e w3 ⟨hb3, v3, rfl, hf3, hs3⟩; obtain ⟨y1, y2, y3, ya, yn, yc, yk, ym, yd, rfl⟩ := hf3.shape; refine Hid.out ?_)
  refine Lib.hid ?_
  have HB3 : Hid (Below W.heap.size W w3) := Lib.hid (HB2.out.trans (hb3.mono HB2.out.size))
  have HF3 := Lib.hid hf3.at
  have HZ3 := Lib.hid (below_new0 w3 (.cells #[.int .i64 y1, .bool y2, .string y3, .slice ya yn yc, .slice yk ym yd] 26))
  have hbv := Blk.new w3 #[.int .i64 y1, .bool y2, .string y3, .slice ya yn yc, .slice yk ym yd] 26
  have q0 := hbv.cell 0
  have q1 := hbv.cell 1
  have q2 := hbv.cell 2
  have q3 := hbv.cell 3
  have q4 := hbv.cell 4
  have HK3 := Lib.hid ((HK2.out.below hb3).below HZ3.out)
  have e0 := HK3.out.cell 0
  have e1 := HK3.out.cell 1
  have e2 := HK3.out.cell 2
  have e3 := HK3.out.cell 3
  have e4 := HK3.out.cell 4
  have HR3 := Lib.hid ((HR2.out.below hb3).below HZ3.out)
  have HS := Lib.hid (same_any ((HI.out.later HB3.out).wide HB3.out.size) _ _ _ HF3.out HZ3.out (by simp))
  rw [sameT_refl] at HS
  have HB4 : Hid (Below W.heap.size W (w3.alloc (.cells #[.int .i64 y1, .bool y2, .string y3, .slice ya yn yc, .slice yk ym yd] 26))) := Lib.hid (HB3.out.trans (HZ3.out.mono HB3.out.size))
  clear hb3 hf3 hs3 hbv
  go_wp2_with (go_at_call 13; refine HS.out.mono ?_; rintro e w5 ⟨rfl, hb5⟩; refine Hid.out ?_)
  refine Lib.hid ?_
  have HB5 : Hid (Below W.heap.size W w5) := Lib.hid (HB4.out.trans (hb5.mono HB4.out.size))
  have HR5 := Lib.hid (HR3.out.below hb5)
  clear hb5 q0 q1 q2 q3 q4 e0 e1 e2 e3 e4 HS
  have HD2 := Lib.hid (decode_any (t := text) HR5.out)
  cases hw : wholeJ text with
  | error bd =>
    rw [hw] at HD2
    clear hw
    go_wp2_with (go_at_call 10; refine HD2.out.mono ?_; rintro e w6 ⟨hb6, D, rfl, hD, hblk⟩; refine Hid.out ?_)
    refine Lib.hid ?_
    have HB6 : Hid (Below W.heap.size W w6) := Lib.hid (HB5.out.trans (hb6.mono HB5.out.size))
    have hbn := below_new0 w6 (.cells #[.int .i64 0, .bool false, .string ⟨#[]⟩, .slice none 0 0, .slice none 0 0] 26)
    have hbb := Blk.new w6 #[.int .i64 0, .bool false, .string ⟨#[]⟩, .slice none 0 0, .slice none 0 0] 26
    have g0 := hbb.cell 0
    have g3 := hbb.cell 3
    clear hb6 hblk
    go_wp2
    go_ret
    exact ⟨rfl, HB6.out.trans (hbn.mono HB6.out.size)⟩
  | ok T2 =>
    rw [hw] at HD2
    obtain ⟨hf2, hs2, hl2⟩ := whole_fine hw
    clear hw
    go_wp2_with (go_at_call 10; refine HD2.out.mono ?_; rintro e w6 ⟨hb6, v6, rfl, hf6, hs6⟩; obtain ⟨z1, z2, z3, za, zn, zc, zk, zm, zd, rfl⟩ := hf6.shape; refine Hid.out ?_)
    refine Lib.hid ?_
    have HB6 : Hid (Below W.heap.size W w6) := Lib.hid (HB5.out.trans (hb6.mono HB5.out.size))
    have HF6 := Lib.hid hf6.at
    have HZ6 := Lib.hid (below_new0 w6 (.cells #[.int .i64 z1, .bool z2, .string z3, .slice za zn zc, .slice zk zm zd] 26))
    have HX6 := Lib.hid (Blk.new w6 #[.int .i64 z1, .bool z2, .string z3, .slice za zn zc, .slice zk zm zd] 26)
    have g0 := HX6.out.cell 0
    have g1 := HX6.out.cell 1
    have g2 := HX6.out.cell 2
    have g3 := HX6.out.cell 3
    have g4 := HX6.out.cell 4
    have HR6 := Lib.hid ((HR5.out.below hb6).below HZ6.out)
    have HE6 := Lib.hid (encode_any HF6.out HZ6.out (by simp) HR6.out)
    have HB7 : Hid (Below W.heap.size W (w6.alloc (.cells #[.int .i64 z1, .bool z2, .string z3, .slice za zn zc, .slice zk zm zd] 26))) := Lib.hid (HB6.out.trans (HZ6.out.mono HB6.out.size))
    clear hb6 hf6 hs6
    by_cases hlong : 65536 < (jsT T2).length
    · have hx : encR T2 = (⟨#[]⟩, 3) := by rw [enc_fine hf2 hs2, if_pos hlong]
      rw [hx] at HE6
      have hts : (1000 : Int) < (text.size : Int) := by omega
      clear hx hlong hl2 hf2 hs2
      go_wp2_with (go_at_call 8; refine HE6.out.mono ?_; rintro e w8 ⟨rfl, hb8⟩)
      go_ret
      refine ⟨?_, HB7.out.trans (hb8.mono HB7.out.size)⟩
      first | rfl | (simp; omega)
    · have hx : encR T2 = (jsB T2, 0) := by rw [enc_fine hf2 hs2, if_neg hlong]
      rw [hx] at HE6
      have HW2 := Lib.hid (back_whole hf2 hs2 (by omega))
      have HG2 := Lib.hid (fine_good hf2 hs2)
      clear hx hlong hl2 hf2 hs2
      go_wp2_with (go_at_call 8; refine HE6.out.mono ?_; rintro e w8 ⟨rfl, hb8⟩; refine Hid.out ?_)
      refine Lib.hid ?_
      have HB8 : Hid (Below W.heap.size W w8) := Lib.hid (HB7.out.trans (hb8.mono HB7.out.size))
      have HX8 := Lib.hid (HX6.out.below hb8)
      have HR8 := Lib.hid (HR6.out.below hb8)
      have HS8 : Hid (Below w6.heap.size w6 w8) := Lib.hid (HZ6.out.trans (hb8.mono (by simp)))
      have HD8 := Lib.hid (decode_any (t := jsB T2) HR8.out)
      rw [HW2.out] at HD8
      clear hb8 g0 g1 g2 g3 g4
      go_wp2_with (go_at_call 10; refine HD8.out.mono ?_; rintro e w9 ⟨hb9, v9, rfl, hf9, hs9⟩; obtain ⟨u1, u2, u3, ua, un, uc, uk, um, ud, rfl⟩ := hf9.shape; refine Hid.out ?_)
      refine Lib.hid ?_
      have HB9 : Hid (Below W.heap.size W w9) := Lib.hid (HB8.out.trans (hb9.mono HB8.out.size))
      have HS9 : Hid (Below w6.heap.size w6 w9) := Lib.hid (HS8.out.trans (hb9.mono HS8.out.size))
      have HF9 := Lib.hid hf9.at
      have HZ9 := Lib.hid (below_new0 w9 (.cells #[.int .i64 u1, .bool u2, .string u3, .slice ua un uc, .slice uk um ud] 26))
      have hbu := Blk.new w9 #[.int .i64 u1, .bool u2, .string u3, .slice ua un uc, .slice uk um ud] 26
      have r0 := hbu.cell 0
      have r1 := hbu.cell 1
      have r2 := hbu.cell 2
      have r3 := hbu.cell 3
      have r4 := hbu.cell 4
      have HX9 := Lib.hid ((HX8.out.below hb9).below HZ9.out)
      have p0 := HX9.out.cell 0
      have p1 := HX9.out.cell 1
      have p2 := HX9.out.cell 2
      have p3 := HX9.out.cell 3
      have p4 := HX9.out.cell 4
      have HS := Lib.hid (same_any HF9.out _ _ _ ((HF6.out.later HS9.out).wide HS9.out.size) HZ9.out (by simp))
      rw [sameT_refl] at HS
      have HBA : Hid (Below W.heap.size W (w9.alloc (.cells #[.int .i64 u1, .bool u2, .string u3, .slice ua un uc, .slice uk um ud] 26))) := Lib.hid (HB9.out.trans (HZ9.out.mono HB9.out.size))
      have HSA : Hid (Below w6.heap.size w6 (w9.alloc (.cells #[.int .i64 u1, .bool u2, .string u3, .slice ua un uc, .slice uk um ud] 26))) := Lib.hid (HS9.out.trans (HZ9.out.mono HS9.out.size))
      clear hb9 hf9 hs9 hbu
      go_wp2_with (go_at_call 13; refine HS.out.mono ?_; rintro e wb ⟨rfl, hbb⟩; have s0 := (HX9.out.below hbb).cell 0; have s1 := (HX9.out.below hbb).cell 1; have s2 := (HX9.out.below hbb).cell 2; have s3 := (HX9.out.below hbb).cell 3; have s4 := (HX9.out.below hbb).cell 4; refine Hid.out ?_)
      refine Lib.hid ?_
      have HBB : Hid (Below W.heap.size W wb) := Lib.hid (HBA.out.trans (hbb.mono HBA.out.size))
      have HSB : Hid (Below w6.heap.size w6 wb) := Lib.hid (HSA.out.trans (hbb.mono HSA.out.size))
      have HG := Lib.hid (rGood_any HF6.out wb HSB.out HSB.out.size)
      rw [HG2.out] at HG
      clear hbb r0 r1 r2 r3 r4 p0 p1 p2 p3 p4 HS
      go_wp2_with (go_at_call 14; refine HG.out.mono ?_; rintro e wc ⟨rfl, hbc⟩)
      go_ret
      exact ⟨rfl, HBB.out.trans (hbc.mono HBB.out.size)⟩
set_option maxRecDepth 100000 in
set_option maxHeartbeats 4000000 in
theorem back_no {W : World} {v : Value} {T : VT} {text : ByteArray} (hT : Is W.heap.size W v T) (hR : ReadyJ W) (hc : ¬ (encR T).2 = 0) : Calls Tryz.prog 5 #[v, .string text] W fun e w' => e = .returned (.bool true) ∧ Below W.heap.size W w' := by
  obtain ⟨k, b, t, ad, n, cap, adk, nk, capk, rfl⟩ := hT.shape
  obtain ⟨Wz, hWz⟩ : ∃ Wz, W.alloc (.cells #[.int .i64 k, .bool b, .string t, .slice ad n cap, .slice adk nk capk] 26) = Wz := ⟨_, rfl⟩
  have hk0 : Blk Wz W.heap.size #[.int .i64 k, .bool b, .string t, .slice ad n cap, .slice adk nk capk] 26 := by rw [← hWz]; exact Blk.new _ _ _
  have HZ : Hid (Below W.heap.size W Wz) := by rw [← hWz]; exact Lib.hid (below_new0 _ _)
  have HI := Lib.hid hT
  have HR := Lib.hid (hR.below HZ.out)
  have HK := Lib.hid hk0
  have HA := Lib.hid (awake_any HR.out)
  have hpn : ∀ w : World, (binOp BinOp.eql 34 (.pointer none) (.pointer none)).run Tryz.prog w = .ok (.bool true) w := fun _ => rfl
  have hpq : ∀ w : World, (binOp BinOp.neq 34 (.pointer none) (.pointer none)).run Tryz.prog w = .ok (.bool false) w := fun _ => rfl
  have HC := Lib.hid hc
  clear hT hR hk0 hc
  go_enter Tryz.func5, Tryz.ntmps5
  go_wp2_with (go_at_call 7; refine HA.out.mono ?_; rintro e w1 ⟨rfl, hb1⟩; have d0 := (HK.out.below hb1).cell 0; have d1 := (HK.out.below hb1).cell 1; have d2 := (HK.out.below hb1).cell 2; have d3 := (HK.out.below hb1).cell 3; have d4 := (HK.out.below hb1).cell 4; refine Hid.out ?_)
  refine Lib.hid ?_
  have HB1 : Hid (Below W.heap.size W w1) := Lib.hid (HZ.out.trans (hb1.mono HZ.out.size))
  have HK1 := Lib.hid (HK.out.below hb1)
  have HR1 := Lib.hid (HR.out.below hb1)
  have HE := Lib.hid (encode_any HI.out HB1.out HB1.out.size HR1.out)
  clear hb1
  obtain ⟨⟨s, c⟩, hs⟩ : ∃ r, encR T = r := ⟨_, rfl⟩
  rw [hs] at HE
  have hc : ¬ c = 0 := fun e => HC.out (by rw [hs]; exact e)
  have hcb : (c == 0) = false := by simp [hc]
  clear hs
  go_wp2_with (go_at_call 8; refine HE.out.mono ?_; rintro e w5 ⟨rfl, hb2⟩; refine Hid.out ?_)
  refine Lib.hid ?_
  have HB5 : Hid (Below W.heap.size W w5) := Lib.hid (HB1.out.trans (hb2.mono HB1.out.size))
  have HR5 := Lib.hid (HR1.out.below hb2)
  clear hb2 d0 d1 d2 d3 d4
  have HD2 := Lib.hid (decode_any (t := text) HR5.out)
  cases hw : wholeJ text with
  | error bd =>
    rw [hw] at HD2
    clear hw
    go_wp2_with (go_at_call 10; refine HD2.out.mono ?_; rintro e w6 ⟨hb6, D, rfl, hD, hblk⟩; refine Hid.out ?_)
    refine Lib.hid ?_
    have HB6 : Hid (Below W.heap.size W w6) := Lib.hid (HB5.out.trans (hb6.mono HB5.out.size))
    have hbn := below_new0 w6 (.cells #[.int .i64 0, .bool false, .string ⟨#[]⟩, .slice none 0 0, .slice none 0 0] 26)
    have hbb := Blk.new w6 #[.int .i64 0, .bool false, .string ⟨#[]⟩, .slice none 0 0, .slice none 0 0] 26
    have g0 := hbb.cell 0
    have g3 := hbb.cell 3
    clear hb6 hblk
    go_wp2
    go_ret
    exact ⟨rfl, HB6.out.trans (hbn.mono HB6.out.size)⟩
  | ok T2 =>
    rw [hw] at HD2
    obtain ⟨hf2, hs2, hl2⟩ := whole_fine hw
    clear hw
    go_wp2_with (go_at_call 10; refine HD2.out.mono ?_; rintro e w6 ⟨hb6, v6, rfl, hf6, hs6⟩; obtain ⟨z1, z2, z3, za, zn, zc, zk, zm, zd, rfl⟩ := hf6.shape; refine Hid.out ?_)
    refine Lib.hid ?_
    have HB6 : Hid (Below W.heap.size W w6) := Lib.hid (HB5.out.trans (hb6.mono HB5.out.size))
    have HF6 := Lib.hid hf6.at
    have HZ6 := Lib.hid (below_new0 w6 (.cells #[.int .i64 z1, .bool z2, .string z3, .slice za zn zc, .slice zk zm zd] 26))
    have HX6 := Lib.hid (Blk.new w6 #[.int .i64 z1, .bool z2, .string z3, .slice za zn zc, .slice zk zm zd] 26)
    have g0 := HX6.out.cell 0
    have g1 := HX6.out.cell 1
    have g2 := HX6.out.cell 2
    have g3 := HX6.out.cell 3
    have g4 := HX6.out.cell 4
    have HR6 := Lib.hid ((HR5.out.below hb6).below HZ6.out)
    have HE6 := Lib.hid (encode_any HF6.out HZ6.out (by simp) HR6.out)
    have HB7 : Hid (Below W.heap.size W (w6.alloc (.cells #[.int .i64 z1, .bool z2, .string z3, .slice za zn zc, .slice zk zm zd] 26))) := Lib.hid (HB6.out.trans (HZ6.out.mono HB6.out.size))
    clear hb6 hf6 hs6
    by_cases hlong : 65536 < (jsT T2).length
    · have hx : encR T2 = (⟨#[]⟩, 3) := by rw [enc_fine hf2 hs2, if_pos hlong]
      rw [hx] at HE6
      have hts : (1000 : Int) < (text.size : Int) := by omega
      clear hx hlong hl2 hf2 hs2
      go_wp2_with (go_at_call 8; refine HE6.out.mono ?_; rintro e w8 ⟨rfl, hb8⟩)
      go_ret
      refine ⟨?_, HB7.out.trans (hb8.mono HB7.out.size)⟩
      first | rfl | (simp; omega)
    · have hx : encR T2 = (jsB T2, 0) := by rw [enc_fine hf2 hs2, if_neg hlong]
      rw [hx] at HE6
      have HW2 := Lib.hid (back_whole hf2 hs2 (by omega))
      have HG2 := Lib.hid (fine_good hf2 hs2)
      clear hx hlong hl2 hf2 hs2
      go_wp2_with (go_at_call 8; refine HE6.out.mono ?_; rintro e w8 ⟨rfl, hb8⟩; refine Hid.out ?_)
      refine Lib.hid ?_
      have HB8 : Hid (Below W.heap.size W w8) := Lib.hid (HB7.out.trans (hb8.mono HB7.out.size))
      have HX8 := Lib.hid (HX6.out.below hb8)
      have HR8 := Lib.hid (HR6.out.below hb8)
      have HS8 : Hid (Below w6.heap.size w6 w8) := Lib.hid (HZ6.out.trans (hb8.mono (by simp)))
      have HD8 := Lib.hid (decode_any (t := jsB T2) HR8.out)
      rw [HW2.out] at HD8
      clear hb8 g0 g1 g2 g3 g4
      go_wp2_with (go_at_call 10; refine HD8.out.mono ?_; rintro e w9 ⟨hb9, v9, rfl, hf9, hs9⟩; obtain ⟨u1, u2, u3, ua, un, uc, uk, um, ud, rfl⟩ := hf9.shape; refine Hid.out ?_)
      refine Lib.hid ?_
      have HB9 : Hid (Below W.heap.size W w9) := Lib.hid (HB8.out.trans (hb9.mono HB8.out.size))
      have HS9 : Hid (Below w6.heap.size w6 w9) := Lib.hid (HS8.out.trans (hb9.mono HS8.out.size))
      have HF9 := Lib.hid hf9.at
      have HZ9 := Lib.hid (below_new0 w9 (.cells #[.int .i64 u1, .bool u2, .string u3, .slice ua un uc, .slice uk um ud] 26))
      have hbu := Blk.new w9 #[.int .i64 u1, .bool u2, .string u3, .slice ua un uc, .slice uk um ud] 26
      have r0 := hbu.cell 0
      have r1 := hbu.cell 1
      have r2 := hbu.cell 2
      have r3 := hbu.cell 3
      have r4 := hbu.cell 4
      have HX9 := Lib.hid ((HX8.out.below hb9).below HZ9.out)
      have p0 := HX9.out.cell 0
      have p1 := HX9.out.cell 1
      have p2 := HX9.out.cell 2
      have p3 := HX9.out.cell 3
      have p4 := HX9.out.cell 4
      have HS := Lib.hid (same_any HF9.out _ _ _ ((HF6.out.later HS9.out).wide HS9.out.size) HZ9.out (by simp))
      rw [sameT_refl] at HS
      have HBA : Hid (Below W.heap.size W (w9.alloc (.cells #[.int .i64 u1, .bool u2, .string u3, .slice ua un uc, .slice uk um ud] 26))) := Lib.hid (HB9.out.trans (HZ9.out.mono HB9.out.size))
      have HSA : Hid (Below w6.heap.size w6 (w9.alloc (.cells #[.int .i64 u1, .bool u2, .string u3, .slice ua un uc, .slice uk um ud] 26))) := Lib.hid (HS9.out.trans (HZ9.out.mono HS9.out.size))
      clear hb9 hf9 hs9 hbu
      go_wp2_with (go_at_call 13; refine HS.out.mono ?_; rintro e wb ⟨rfl, hbb⟩; have s0 := (HX9.out.below hbb).cell 0; have s1 := (HX9.out.below hbb).cell 1; have s2 := (HX9.out.below hbb).cell 2; have s3 := (HX9.out.below hbb).cell 3; have s4 := (HX9.out.below hbb).cell 4; refine Hid.out ?_)
      refine Lib.hid ?_
      have HBB : Hid (Below W.heap.size W wb) := Lib.hid (HBA.out.trans (hbb.mono HBA.out.size))
      have HSB : Hid (Below w6.heap.size w6 wb) := Lib.hid (HSA.out.trans (hbb.mono HSA.out.size))
      have HG := Lib.hid (rGood_any HF6.out wb HSB.out HSB.out.size)
      rw [HG2.out] at HG
      clear hbb r0 r1 r2 r3 r4 p0 p1 p2 p3 p4 HS
      go_wp2_with (go_at_call 14; refine HG.out.mono ?_; rintro e wc ⟨rfl, hbc⟩)
      go_ret
      exact ⟨rfl, HBB.out.trans (hbc.mono HBB.out.size)⟩
theorem back_law {W : World} {v : Value} {T : VT} (hT : Is W.heap.size W v T) (text : ByteArray) (hR : ReadyJ W) : Calls Tryz.prog 5 #[v, .string text] W fun e w' => e = .returned (.bool true) ∧ Below W.heap.size W w' := by
  by_cases hc : (encR T).2 = 0
  · exact back_yes hT hR hc
  · exact back_no hT hR hc
end Go.Proofs.YtcbcjeabpjjhbaaGreatDoor
namespace Go.Proofs.YtcbcjeabpjjhbaaGreatDoor
open Go.ChangeShapes Go.WideShapes Go.ChangeAt Go.WideMaps Go.WideElems Go.RowKit Go.Lib

/-- The seven variables that the rows list. -/
def laidJ : List (String × DataW Unit) := [("math/bits.deBruijn32tab", Rows.laid_math_bits_deBruijn32tab), ("math/bits.deBruijn64tab", Rows.laid_math_bits_deBruijn64tab), ("internal/strconv.uint64pow10", Rows.laid_internal_strconv_uint64pow10), ("unicode/utf8.acceptRanges", Rows.laid_unicode_utf8_acceptRanges), ("strconv.ErrRange", Rows.laid_strconv_ErrRange), ("strconv.ErrSyntax", Rows.laid_strconv_ErrSyntax), ("unicode/utf8.first", Rows.laid_unicode_utf8_first)]
theorem ownJ : ownKnob Tryz.prog.godebug = none := by kernel_rfl
theorem readsJ {W : World} (h : laidMetH Tryz.prog laidJ W) {n : String} {d : DataW Unit} (hm : (n, d) ∈ laidJ) : VarReads Tryz.prog W n d := by
  rw [MakeChecks.laidMetH_plain _ _ _ (by kernel_rfl)] at h
  exact laidMet.reads h hm
set_option maxRecDepth 100000 in
theorem firstJ : (Rows.laid_unicode_utf8_first : DataW Unit) = firstData := by kernel_rfl
set_option maxRecDepth 100000 in
theorem acceptJ : (Rows.laid_unicode_utf8_acceptRanges : DataW Unit) = acceptData := by kernel_rfl
theorem tabsJ {W : World} (h : laidMetH Tryz.prog laidJ W) : Lib.Utf8Tabs 0 1 W := by
  have h3 := readsJ h (n := "unicode/utf8.first") (d := Rows.laid_unicode_utf8_first) (by simp [laidJ])
  have h4 := readsJ h (n := "unicode/utf8.acceptRanges") (d := Rows.laid_unicode_utf8_acceptRanges) (by simp [laidJ])
  rw [firstJ] at h3
  rw [acceptJ] at h4
  exact utf8Tabs_of_readsT (U8Types.of196 Tryz.lays196) ⟨by kernel_rfl, by kernel_rfl, by kernel_rfl, by kernel_rfl, by kernel_rfl, by kernel_rfl, by kernel_rfl⟩ h3 h4
theorem gRangeJ : Tryz.prog.globalNamed "strconv.ErrRange" = some 4 := by kernel_rfl
theorem gSynJ : Tryz.prog.globalNamed "strconv.ErrSyntax" = some 3 := by kernel_rfl
theorem tyRangeJ : (Tryz.prog.globals[ 4 ]?).map (·.type) = some 137 := by kernel_rfl
theorem tySynJ : (Tryz.prog.globals[ 3 ]?).map (·.type) = some 137 := by kernel_rfl
theorem cell_of_var {W : World} {n : String} {g : Nat} {c : Value} (hg : Tryz.prog.globalNamed n = some g) (hv : W.var? Tryz.prog n = some #[c]) : W.cell? ⟨g, 0, none⟩ = some c := by
  unfold World.var? at hv
  rw [hg] at hv
  simp only [Option.bind_some] at hv
  split at hv
  · rename_i cc t fr hh
    obtain rfl := Option.some.inj hv
    simp [World.cell?, hh]
  · cases hv
theorem size_of_shapeJ {P : Program} {w : World} {g : Nat} {t : TypeId} {zero : Array Value} (h : w.ShapedOpen P) (hg : g < P.globals.size)
    (h0 : ((begin P (fun _ _ => 0) default).world.heap[g]?).bind Obj.row? = some (zero, t)) : g < w.heap.size := by
  obtain ⟨cs, hh, _⟩ := h.1 g zero t hg h0
  exact (Array.getElem?_eq_some_iff.1 hh).1
theorem ready_ofJ {W : World} (h : laidMetH Tryz.prog laidJ W) (hs : W.ShapedOpen Tryz.prog) : ReadyJ W := by
  refine ⟨tabsJ h, ?_, ?_, ?_⟩
  · obtain ⟨g, t, cs, fuel, p, hg, hty, hvar, hd⟩ := readsJ h (n := "strconv.ErrSyntax") (d := Rows.laid_strconv_ErrSyntax) (by simp [laidJ])
    obtain rfl := Option.some.inj (gSynJ.symm.trans hg)
    obtain rfl := Option.some.inj (tySynJ.symm.trans hty)
    obtain ⟨f', u, v, hc, -, -⟩ := iface_of_trod Tryz.underlying137 hd
    exact ⟨.iface u v, cell_of_var gSynJ (by rw [hvar]; exact congrArg some (Array.ext' hc)), .inr ⟨u, v, rfl⟩⟩
  · obtain ⟨g, t, cs, fuel, p, hg, hty, hvar, hd⟩ := readsJ h (n := "strconv.ErrRange") (d := Rows.laid_strconv_ErrRange) (by simp [laidJ])
    obtain rfl := Option.some.inj (gRangeJ.symm.trans hg)
    obtain rfl := Option.some.inj (tyRangeJ.symm.trans hty)
    obtain ⟨f', u, v, hc, -, -⟩ := iface_of_trod Tryz.underlying137 hd
    exact ⟨.iface u v, cell_of_var gRangeJ (by rw [hvar]; exact congrArg some (Array.ext' hc)), .inr ⟨u, v, rfl⟩⟩
  · exact size_of_shapeJ (g := 6) (zero := ((begin Tryz.prog (fun _ _ => 0) default).world.heap[6]?.bind Obj.row?).get!.1) (t := ((begin Tryz.prog (fun _ _ => 0) default).world.heap[6]?.bind Obj.row?).get!.2) hs (of_decide_eq_true (by kernel_rfl)) (by kernel_rfl)
/-- The wrap that keeps both a condition on the memory and the world's shape. -/
theorem returns_of {H : Type} {enc : TypeId × Value → H} {a : Assume} {C : Checked} {os : Os} {f : FuncId} {fn : Func} {s : ChangeSpec} {X : World → Prop} (hX : ∀ w w' : World, w.heap = w'.heap → X w → X w')
    (own : ownKnob C.prog.godebug = none) (started : os.Started) (noInit : C.prog.inits.idxOf? f = none) (hfn : C.prog.funcs[f]? = some fn)
    (witness : ∃ (w : World) (tape : Tape) (i : Input), w.os = os ∧ (w.forCall tape i).Shaped C.prog ∧ i.vars = [] ∧ Input.okWide C.prog (w.forCall tape i) .any w.heap.size f i ∧
      ((s.pre enc C.prog fn [] false (w.forCall tape i).memory i.args ∧ X (w.forCall tape i).memory) ∧ sizedMet enc C.prog fn (OpenSpec.ofChange s) false (w.forCall tape i).memory i.args) ∧ a.holds C.prog (lone (Frame.enter C.prog f i.args .normal) [] (w.forCall tape i)))
    (contract : ∀ (W : World) (base : Nat) (args : Array Value) (ds gs : List (DataW H)) (before : List MemPlace), (∀ (j : Nat) t v, fn.params[j]? = some t → args[j]? = some v → Value.okWide C.prog W .any base t v) →
      DataW.Whole enc C.prog fn.params.toList s.vars false W args.toList ds gs before → (DataW.weightsEach C.prog (fn.params.toList ++ s.plain.varTypes C.prog) (ds ++ gs)).all (· ≤ reachBytes) = true → X W → W.ShapedOpen C.prog →
      Calls C.prog f args W fun e W' => ∃ v, e = .returned v ∧ s.post enc C.prog fn false true false false W args v W') :
    ReturnsInHanded a C os f .any (fun w args => (s.pre enc C.prog fn [] false w args ∧ X w) ∧ sizedMet enc C.prog fn (OpenSpec.ofChange s) false w args) (s.post enc C.prog fn false true false false) :=
  returnsInHanded_of_calls own started noInit witness fun w tape i _ hsh _ hok hpre _ => by
    obtain ⟨_, _, _, fn', hfn', _, _, _, _, hval⟩ := hok
    obtain rfl : fn' = fn := Option.some.inj (hfn'.symm.trans hfn)
    obtain ⟨⟨⟨ds, gs, before, hw, _⟩, hx⟩, hz⟩ := hpre
    refine (contract _ w.heap.size i.args ds gs before hval (DataW.Whole.of_heap (w' := w.forCall tape i) (by rfl) hw) (hz.weights hw) (hX _ _ (by rfl) hx) hsh).mono ?_
    rintro e W' ⟨v, rfl, hp⟩
    exact ChangeSpec.post_blind hp
end Go.Proofs.YtcbcjeabpjjhbaaGreatDoor
namespace Go.Proofs.YtcbcjeabpjjhbaaGreatDoor
set_option maxRecDepth 100000 in
set_option maxHeartbeats 100000000 in
theorem back_closed : joinedFacts Tryz.prog 5 Tryz.f5 Rows.jsoncBackSpec Rows.jsoncBackRow = true := by
  unfold joinedFacts
  repeat' (with_reducible refine Bool.and_eq_true_iff.2 ⟨?_, ?_⟩)
  all_goals (as_aux_lemma => kernel_rfl)
#print axioms back_closed
theorem back_w : Rows.jsoncBackRow.wfByText (OpenSpec.ofChange Rows.jsoncBackSpec) = true := by kernel_rfl
#print axioms back_w
theorem back_g : false = Rows.jsoncBackRow.goesBy Tryz.prog := by kernel_rfl
#print axioms back_g
theorem back_lk : true = Tryz.prog.looks [] := by kernel_rfl
#print axioms back_lk
end Go.Proofs.YtcbcjeabpjjhbaaGreatDoor
