/- The document's own reader: a value: objects · The document's own reader: a value: nothing · The document's own reader: a value: all ways -/
import Derived.Test.YtnmfoedfllmclaaGreatDoorJr28
import Derived.Test.YtnmfoedfllmclaaGreatDoorJr29
import Derived.Test.YtnmfoedfllmclaaGreatDoorJr30
import Derived.Test.YtnmfoedfllmclaaGreatDoorJr31
namespace Go.Proofs.YtnmfoedfllmclaaGreatDoor
open Go.RowKit Go.Shelf
set_option linter.unusedVariables false

set_option maxRecDepth 100000 in
set_option maxHeartbeats 16000000 in
theorem rvalue_obj {a n c0 x0 d : Nat} {dep : Int} {t : ByteArray} (h0 : c0 = 0) (ha : a ≤ t.size) (hs : t.size ≤ 65536) (hn : n ≤ 2000) (hd : dep = 25 - (d : Int)) (hd24 : d ≤ 24) (W : World) (hpos : 0 < d) (h2 : ¬ n = 2000) (hnw : ∀ j, j < 3 → Lib.hasPrefix (skipB (rest t a)) (wordOf j) = false) (hw : headZ (skipB (rest t a)) = 123)
    (hm : ∀ (W : World) (a n : Nat) (obj : Bool), a < t.size → n ≤ 2000 → 0 < d → Calls Tryz.prog 50 #[stV t a n c0 x0, .int .i64 dep, .bool obj] W (VlE W t c0 x0 (if obj then objR (eachJ (pairJ (valD (d - 1))) 125 [] (rest t a) n) else listR (eachJ (itemJ (valD (d - 1))) 93 [] (rest t a) n)))) :
    Calls Tryz.prog 25 #[stV t a n c0 x0, .int .i64 dep] W (VlE W t c0 x0 (valD d (rest t a) n)) := by
  have H0 := Lib.hid h0
  have e0 : ((c0 : Int) != 0) = false := by simp; omega
  have HDP := Lib.hid hd
  have HM := Lib.hid hm
  clear hm
  clear h0 hd
  have HPOS := Lib.hid hpos
  have H2 := Lib.hid h2
  have HWY := Lib.hid hw
  have HNW0 := Lib.hid hnw
  clear hnw
  clear hpos h2 hw
  have HV := Lib.hid (DocV.start W (t := t) (n := n) (c := c0) (x := x0) ha)
  have HBl := Lib.hid (fun wx => rblanks_any (n := n) (c := c0) (x := x0) ha hs wx)
  have k0 := HV.out.1.1.cell 0
  have k1 := HV.out.1.1.cell 1
  have k2 := HV.out.1.1.cell 2
  have k3 := HV.out.1.1.cell 3
  have k4 := HV.out.1.1.cell 4
  go_enter Tryz.func25, Tryz.ntmps25
  go_wp2_with fail
  go_at_call 26; refine (HBl.out _).mono ?_; rintro e w1 ⟨b, rfl, hsk, hbt, hb1⟩
  have HV1 := Lib.hid (HV.out.below hb1)
  have HSK := Lib.hid hsk
  clear hb1 HV k0 k1 k2 k3 k4 HBl hsk
  have k0 := HV1.out.1.1.cell 0
  have k1 := HV1.out.1.1.cell 1
  have k2 := HV1.out.1.1.cell 2
  have k3 := HV1.out.1.1.cell 3
  have k4 := HV1.out.1.1.cell 4
  have f0 := HV1.out.1.1.frozen 0
  have f1 := HV1.out.1.1.frozen 1
  have f2 := HV1.out.1.1.frozen 2
  have f3 := HV1.out.1.1.frozen 3
  have f4 := HV1.out.1.1.frozen 4
  have hVp := HV1.out.puts (b := b) (n' := n) (c' := c0) (x' := x0) hbt
  go_upto_region 2 with fail
  obtain ⟨w2, hw2⟩ : ∃ w2, ((((w1.setCell ⟨W.heap.size, 0, none⟩ (.string t)).setCell ⟨W.heap.size, 1, none⟩ (.int .i64 (b : Int))).setCell ⟨W.heap.size, 2, none⟩ (.int .i64 (n : Int))).setCell ⟨W.heap.size, 3, none⟩ (.int .i64 (c0 : Int))).setCell ⟨W.heap.size, 4, none⟩ (.int .i64 (x0 : Int)) = w2 := ⟨_, rfl⟩
  rw [hw2] at hVp ⊢
  have HV2 := Lib.hid hVp
  clear hVp hw2 HV1 k0 k1 k2 k3 k4 f0 f1 f2 f3 f4
  obtain ⟨R, hR⟩ : ∃ R, rest t b = R := ⟨_, rfl⟩
  have HRR : Hid (skipB (rest t a) = R) := Lib.hid (by rw [← hR]; exact HSK.out.symm)
  have HRb := Lib.hid hR
  have HRL : Hid (R.length = t.size - b) := Lib.hid (by rw [← hR, rest_length])
  clear hR
  have HNW : Hid (∀ j, j < 3 → Lib.hasPrefix R (wordOf j) = false) := Lib.hid (by have h := HNW0.out; rw [HRR.out] at h; exact h)
  have q1 : ¬ (24 : Int) < dep := by have := HDP.out; have := HPOS.out; omega
  have q2 : ¬ (2000 : Int) ≤ (n : Int) := by have := H2.out; omega
  obtain ⟨e, hde⟩ : ∃ e, d = e + 1 := ⟨d - 1, by have := HPOS.out; omega⟩
  have hVc : DocV W (w2.setCell ⟨W.heap.size, 2, none⟩ (.int .i64 ((n : Int) + 1))) t b (n + 1) c0 x0 := HV2.out.counts
  have HDE := Lib.hid hde
  have hn1 : n + 1 ≤ 2000 := by have := H2.out; omega
  have i0 : (0 : Int) ≤ (b : Int) := by omega
  clear hde
  have k0 := HV2.out.1.1.cell 0
  have k1 := HV2.out.1.1.cell 1
  have k2 := HV2.out.1.1.cell 2
  have k3 := HV2.out.1.1.cell 3
  have k4 := HV2.out.1.1.cell 4
  have f2 := HV2.out.1.1.frozen 2
  go_upto_region 9 with fail
  obtain ⟨w3, hw3⟩ : ∃ w3, w2.setCell ⟨W.heap.size, 2, none⟩ (.int .i64 ((n : Int) + 1)) = w3 := ⟨_, rfl⟩
  rw [hw3] at hVc ⊢
  have HV3 := Lib.hid hVc
  clear hVc hw3 HV2 k0 k1 k2 k3 k4 f2
  obtain ⟨n1, hn1e⟩ : ∃ n1, n + 1 = n1 := ⟨_, rfl⟩
  rw [hn1e] at HV3 hn1
  have HN1 := Lib.hid hn1e
  clear hn1e
  go_wp2_with fail
  go_loopg [37] 4 (fun gf s37 wx => ∃ j : Nat, s37 = .int .i64 (j : Int) ∧ j ≤ 3 ∧ Hid (DocV W wx t b n1 c0 x0) ∧ Hid (∀ i, i < j → Lib.hasPrefix R (wordOf i) = false) ∧ 3 < j + gf)
  case atStart => exact ⟨0, rfl, by omega, HV3, Lib.hid (fun i hi => by omega), by omega⟩
  case round =>
    obtain ⟨j, rfl, hj, HVj, HP, hg⟩ := hrel
    rcases (show j = 0 ∨ j = 1 ∨ j = 2 ∨ j = 3 by omega) with rfl | rfl | rfl | rfl
    · obtain ⟨pb, hpb⟩ : ∃ pb, Lib.hasPrefix R (wordOf 0) = pb := ⟨_, rfl⟩
      obtain rfl : pb = false := by rw [← hpb]; exact HNW.out 0 (by decide)
      have HW := Lib.hid (rword_b (a := b) (n := n1) (c := c0) (x := x0) hbt hs ⟨#[110, 117, 108, 108]⟩ (by show 4 ≤ 65536; decide) (b := false) (by rw [HRb.out]; exact hpb) wr)
      have HPB := Lib.hid hpb
      obtain ⟨g', rfl⟩ : ∃ g', gk = g' + 1 := ⟨gk - 1, by omega⟩
      clear hpb
      have k0 := HVj.out.1.1.cell 0
      have k1 := HVj.out.1.1.cell 1
      have k2 := HVj.out.1.1.cell 2
      have k3 := HVj.out.1.1.cell 3
      have k4 := HVj.out.1.1.cell 4
      have hai : ∀ w : World, (Instr.index 76 (.agg #[.string ⟨#[110, 117, 108, 108]⟩, .string ⟨#[116, 114, 117, 101]⟩, .string ⟨#[102, 97, 108, 115, 101]⟩]) (.int .i64 0)).run Tryz.prog w = .ok (.string ⟨#[110, 117, 108, 108]⟩) w := fun _ => rfl
      go_wp2_with fail
      go_at_call 43; refine HW.out.mono ?_; rintro e w4 ⟨rfl, hb4⟩
      have HV4 := Lib.hid (HVj.out.below hb4)
      clear hb4 k0 k1 k2 k3 k4
      have HP2 : Hid (∀ i, i < 1 → Lib.hasPrefix R (wordOf i) = false) := Lib.hid (fun i hi => by
        rcases Nat.lt_succ_iff_lt_or_eq.1 hi with h | rfl
        · exact HP.out i h
        · exact HPB.out)
      go_wp2_with fail
      go_roundg g'
      case measure => omega
      case rel => exact ⟨1, by go_num, by omega, HV4, HP2, by omega⟩
    · obtain ⟨pb, hpb⟩ : ∃ pb, Lib.hasPrefix R (wordOf 1) = pb := ⟨_, rfl⟩
      obtain rfl : pb = false := by rw [← hpb]; exact HNW.out 1 (by decide)
      have HW := Lib.hid (rword_b (a := b) (n := n1) (c := c0) (x := x0) hbt hs ⟨#[116, 114, 117, 101]⟩ (by show 4 ≤ 65536; decide) (b := false) (by rw [HRb.out]; exact hpb) wr)
      have HPB := Lib.hid hpb
      obtain ⟨g', rfl⟩ : ∃ g', gk = g' + 1 := ⟨gk - 1, by omega⟩
      clear hpb
      have k0 := HVj.out.1.1.cell 0
      have k1 := HVj.out.1.1.cell 1
      have k2 := HVj.out.1.1.cell 2
      have k3 := HVj.out.1.1.cell 3
      have k4 := HVj.out.1.1.cell 4
      have hai : ∀ w : World, (Instr.index 76 (.agg #[.string ⟨#[110, 117, 108, 108]⟩, .string ⟨#[116, 114, 117, 101]⟩, .string ⟨#[102, 97, 108, 115, 101]⟩]) (.int .i64 1)).run Tryz.prog w = .ok (.string ⟨#[116, 114, 117, 101]⟩) w := fun _ => rfl
      go_wp2_with fail
      go_at_call 43; refine HW.out.mono ?_; rintro e w4 ⟨rfl, hb4⟩
      have HV4 := Lib.hid (HVj.out.below hb4)
      clear hb4 k0 k1 k2 k3 k4
      have HP2 : Hid (∀ i, i < 2 → Lib.hasPrefix R (wordOf i) = false) := Lib.hid (fun i hi => by
        rcases Nat.lt_succ_iff_lt_or_eq.1 hi with h | rfl
        · exact HP.out i h
        · exact HPB.out)
      go_wp2_with fail
      go_roundg g'
      case measure => omega
      case rel => exact ⟨2, by go_num, by omega, HV4, HP2, by omega⟩
    · obtain ⟨pb, hpb⟩ : ∃ pb, Lib.hasPrefix R (wordOf 2) = pb := ⟨_, rfl⟩
      obtain rfl : pb = false := by rw [← hpb]; exact HNW.out 2 (by decide)
      have HW := Lib.hid (rword_b (a := b) (n := n1) (c := c0) (x := x0) hbt hs ⟨#[102, 97, 108, 115, 101]⟩ (by show 5 ≤ 65536; decide) (b := false) (by rw [HRb.out]; exact hpb) wr)
      have HPB := Lib.hid hpb
      obtain ⟨g', rfl⟩ : ∃ g', gk = g' + 1 := ⟨gk - 1, by omega⟩
      clear hpb
      have k0 := HVj.out.1.1.cell 0
      have k1 := HVj.out.1.1.cell 1
      have k2 := HVj.out.1.1.cell 2
      have k3 := HVj.out.1.1.cell 3
      have k4 := HVj.out.1.1.cell 4
      have hai : ∀ w : World, (Instr.index 76 (.agg #[.string ⟨#[110, 117, 108, 108]⟩, .string ⟨#[116, 114, 117, 101]⟩, .string ⟨#[102, 97, 108, 115, 101]⟩]) (.int .i64 2)).run Tryz.prog w = .ok (.string ⟨#[102, 97, 108, 115, 101]⟩) w := fun _ => rfl
      go_wp2_with fail
      go_at_call 43; refine HW.out.mono ?_; rintro e w4 ⟨rfl, hb4⟩
      have HV4 := Lib.hid (HVj.out.below hb4)
      clear hb4 k0 k1 k2 k3 k4
      have HP2 : Hid (∀ i, i < 3 → Lib.hasPrefix R (wordOf i) = false) := Lib.hid (fun i hi => by
        rcases Nat.lt_succ_iff_lt_or_eq.1 hi with h | rfl
        · exact HP.out i h
        · exact HPB.out)
      go_wp2_with fail
      go_roundg g'
      case measure => omega
      case rel => exact ⟨3, by go_num, by omega, HV4, HP2, by omega⟩
    · obtain ⟨z, hz⟩ : ∃ z, headZ R = z := ⟨_, rfl⟩
      obtain ⟨zl, zh⟩ := hz ▸ headZ_bound R
      have HCz := Lib.hid (fun wx => (show headZ (rest t b) = z by rw [HRb.out]; exact hz) ▸ rc_any (a := b) (n := n1) (c := c0) (x := x0) hbt hs wx)
      clear HP
      have h123 : z = 123 := by have h := HWY.out; rw [HRR.out, hz] at h; exact h
      have hdg : digZ z = false := by rw [h123]; decide
      have HZE := Lib.hid h123
      have e45 : (z == 45) = false := by simp [h123]
      have e34 : (z == 34) = false := by simp [h123]
      have e91 : (z == 91) = false := by simp [h123]
      have e123 : (z == 123) = true := by simp [h123]
      clear h123
      have k0 := HVj.out.1.1.cell 0
      have k1 := HVj.out.1.1.cell 1
      have k2 := HVj.out.1.1.cell 2
      have k3 := HVj.out.1.1.cell 3
      have k4 := HVj.out.1.1.cell 4
      go_wp2_with fail
      go_at_call 45; refine (HCz.out _).mono ?_; rintro e wz1 ⟨rfl, hbz⟩
      have HVz1 := Lib.hid (HVj.out.below hbz)
      clear hbz k0 k1 k2 k3 k4
      have k0 := HVz1.out.1.1.cell 0
      have k1 := HVz1.out.1.1.cell 1
      have k2 := HVz1.out.1.1.cell 2
      have k3 := HVz1.out.1.1.cell 3
      have k4 := HVz1.out.1.1.cell 4
      go_wp2_with fail
      go_at_call 45; refine (HCz.out _).mono ?_; rintro e wz2 ⟨rfl, hbz⟩
      have HVz2 := Lib.hid (HVz1.out.below hbz)
      clear hbz k0 k1 k2 k3 k4
      have HDg := Lib.hid (fun w => rdigit_b zl zh hdg w)
      have HDZ := Lib.hid hdg
      have HHZ := Lib.hid hz
      clear hdg hz
      go_wp2_with (go_at_call 46; refine (HDg.out _).mono ?_; rintro e w6 ⟨rfl, rfl⟩; refine Hid.out ?_)
      refine Lib.hid ?_
      have k0 := HVz2.out.1.1.cell 0
      have k1 := HVz2.out.1.1.cell 1
      have k2 := HVz2.out.1.1.cell 2
      have k3 := HVz2.out.1.1.cell 3
      have k4 := HVz2.out.1.1.cell 4
      go_wp2_with fail
      go_at_call 45; refine (HCz.out _).mono ?_; rintro e wz3 ⟨rfl, hbz⟩
      have HVz3 := Lib.hid (HVz2.out.below hbz)
      clear hbz k0 k1 k2 k3 k4
      have k0 := HVz3.out.1.1.cell 0
      have k1 := HVz3.out.1.1.cell 1
      have k2 := HVz3.out.1.1.cell 2
      have k3 := HVz3.out.1.1.cell 3
      have k4 := HVz3.out.1.1.cell 4
      go_wp2_with fail
      go_at_call 45; refine (HCz.out _).mono ?_; rintro e wz4 ⟨rfl, hbz⟩
      have HVz4 := Lib.hid (HVz3.out.below hbz)
      clear hbz k0 k1 k2 k3 k4
      have k0 := HVz4.out.1.1.cell 0
      have k1 := HVz4.out.1.1.cell 1
      have k2 := HVz4.out.1.1.cell 2
      have k3 := HVz4.out.1.1.cell 3
      have k4 := HVz4.out.1.1.cell 4
      go_wp2_with fail
      go_at_call 45; refine (HCz.out _).mono ?_; rintro e wz5 ⟨rfl, hbz⟩
      have HVz5 := Lib.hid (HVz4.out.below hbz)
      clear hbz k0 k1 k2 k3 k4
      go_upto_region 24 with fail
      have hat : b < t.size := by
        obtain ⟨r, hr⟩ := head_is (q := 123) (HHZ.out.trans HZE.out)
        have := HRL.out
        rw [hr] at this
        simp at this
        omega
      have HQ : Hid (valD d (rest t a) n = objR (eachJ (pairJ (valD e)) 125 [] (rest t b) n1)) := Lib.hid (by rw [HDE.out, valD_obj (by have := HN1.out; omega) HRR.out (HHZ.out.trans HZE.out), HRb.out, HN1.out])
      have HMM : Hid (∀ W, Calls Tryz.prog 50 #[stV t b n1 c0 x0, .int .i64 dep, .bool true] W (VlE W t c0 x0 (objR (eachJ (pairJ (valD e)) 125 [] (rest t b) n1)))) := Lib.hid (fun wx => by
        have h := HM.out wx b n1 true hat hn1 HPOS.out
        rw [show d - 1 = e by have := HDE.out; omega] at h
        exact h)
      clear hat
      have HC0 := Lib.hid HVz5.out
      have k0 := HVz5.out.1.1.cell 0
      have k1 := HVz5.out.1.1.cell 1
      have k2 := HVz5.out.1.1.cell 2
      have k3 := HVz5.out.1.1.cell 3
      have k4 := HVz5.out.1.1.cell 4
      have q0 := HVz5.out.1.2.1.cell 0
      have q1 := HVz5.out.1.2.1.cell 1
      have q2 := HVz5.out.1.2.1.cell 2
      have q3 := HVz5.out.1.2.1.cell 3
      have q4 := HVz5.out.1.2.1.cell 4
      have g0 := HVz5.out.1.2.1.frozen 0
      have g1 := HVz5.out.1.2.1.frozen 1
      have g2 := HVz5.out.1.2.1.frozen 2
      have g3 := HVz5.out.1.2.1.frozen 3
      have g4 := HVz5.out.1.2.1.frozen 4
      have p0 := HVz5.out.2.cell 0
      have p1 := HVz5.out.2.cell 1
      have p2 := HVz5.out.2.cell 2
      have p3 := HVz5.out.2.cell 3
      have p4 := HVz5.out.2.cell 4
      have h0 := HVz5.out.2.frozen 0
      have h1 := HVz5.out.2.frozen 1
      have h2 := HVz5.out.2.frozen 2
      have h3 := HVz5.out.2.frozen 3
      have h4 := HVz5.out.2.frozen 4
      go_region_with (first | (go_at_call 45; refine (HCz.out _).mono ?_; rintro e w7 ⟨rfl, hb7⟩; have HC1 := Lib.hid ((HC0.out.below (below_drew _)).below hb7); have k0 := HC1.out.1.1.cell 0; have k1 := HC1.out.1.1.cell 1; have k2 := HC1.out.1.1.cell 2; have k3 := HC1.out.1.1.cell 3; have k4 := HC1.out.1.1.cell 4) | (go_at_call 50; refine (HMM.out _).mono ?_; rintro e w8 hv8; obtain ⟨hb8, b8, n8, k8, x8, v8, T8, rfl, hF8, hE8⟩ := VlE.parts hv8; obtain ⟨vk, vb, vt, vad, vn, vcap, vadk, vnk, vcapk, rfl⟩ := hF8.shape; have HM6 := Lib.hid (HC1.out.below hb8); have HF8 := Lib.hid hF8; have HE8 := Lib.hid hE8; have HL7 := Lib.hid HC1.out.2.lt; have k0 := HM6.out.1.1.cell 0; have k1 := HM6.out.1.1.cell 1; have k2 := HM6.out.1.1.cell 2; have k3 := HM6.out.1.1.cell 3; have k4 := HM6.out.1.1.cell 4; have q0 := HM6.out.1.2.1.cell 0; have q1 := HM6.out.1.2.1.cell 1; have q2 := HM6.out.1.2.1.cell 2; have q3 := HM6.out.1.2.1.cell 3; have q4 := HM6.out.1.2.1.cell 4; have g0 := HM6.out.1.2.1.frozen 0; have g1 := HM6.out.1.2.1.frozen 1; have g2 := HM6.out.1.2.1.frozen 2; have g3 := HM6.out.1.2.1.frozen 3; have g4 := HM6.out.1.2.1.frozen 4; have p0 := HM6.out.2.cell 0; have p1 := HM6.out.2.cell 1; have p2 := HM6.out.2.cell 2; have p3 := HM6.out.2.cell 3; have p4 := HM6.out.2.cell 4; have h0 := HM6.out.2.frozen 0; have h1 := HM6.out.2.frozen 1; have h2 := HM6.out.2.frozen 2; have h3 := HM6.out.2.frozen 3; have h4 := HM6.out.2.frozen 4))
      all_goals
        clear k0 k1 k2 k3 k4 q0 q1 q2 q3 q4 g0 g1 g2 g3 g4 p0 p1 p2 p3 p4 h0 h1 h2 h3 h4
        have q0 := HM6.out.1.2.1.cell 0
        have q1 := HM6.out.1.2.1.cell 1
        have q2 := HM6.out.1.2.1.cell 2
        have q3 := HM6.out.1.2.1.cell 3
        have q4 := HM6.out.1.2.1.cell 4
        have g0 := HM6.out.1.2.1.frozen 0
        have g1 := HM6.out.1.2.1.frozen 1
        have g2 := HM6.out.1.2.1.frozen 2
        have g3 := HM6.out.1.2.1.frozen 3
        have g4 := HM6.out.1.2.1.frozen 4
        have p0 := HM6.out.2.cell 0
        have p1 := HM6.out.2.cell 1
        have p2 := HM6.out.2.cell 2
        have p3 := HM6.out.2.cell 3
        have p4 := HM6.out.2.cell 4
        have h0 := HM6.out.2.frozen 0
        have h1 := HM6.out.2.frozen 1
        have h2 := HM6.out.2.frozen 2
        have h3 := HM6.out.2.frozen 3
        have h4 := HM6.out.2.frozen 4
        go_wp2_with fail
        have hqe := (HM6.out).ends (.string t) (.int .i64 (b8 : Int)) (.int .i64 (n8 : Int)) (.int .i64 (k8 : Int)) (.int .i64 (x8 : Int)) (.int .i64 vk) (.bool vb) (.string vt) (.slice vad vn vcap) (.slice vadk vnk vcapk)
        have r0 := hqe.1.cell 0
        have r1 := hqe.1.cell 1
        have r2 := hqe.1.cell 2
        have r3 := hqe.1.cell 3
        have r4 := hqe.1.cell 4
        have s0 := hqe.2.1.cell 0
        have s1 := hqe.2.1.cell 1
        have s2 := hqe.2.1.cell 2
        have s3 := hqe.2.1.cell 3
        have s4 := hqe.2.1.cell 4
        have HEND := Lib.hid hqe.2.2
        clear hqe
        refine bodyPost_ret (by simp [results, Tryz.results25, go_sem, r0, r1, r2, r3, r4, s0, s1, s2, s3, s4]; try rfl) rfl ?_
        rw [HQ.out]
        exact HE8.out W _ HEND.out (fresh_ends HL7.out HF8.out _ _ _ _ _ _ _ _ _ _)
end Go.Proofs.YtnmfoedfllmclaaGreatDoor
namespace Go.Proofs.YtnmfoedfllmclaaGreatDoor
open Go.RowKit Go.Shelf
set_option linter.unusedVariables false

set_option maxRecDepth 100000 in
set_option maxHeartbeats 16000000 in
theorem rvalue_none {a n c0 x0 d : Nat} {dep : Int} {t : ByteArray} (h0 : c0 = 0) (ha : a ≤ t.size) (hs : t.size ≤ 65536) (hn : n ≤ 2000) (hd : dep = 25 - (d : Int)) (hd24 : d ≤ 24) (W : World) (hpos : 0 < d) (h2 : ¬ n = 2000) (hnw : ∀ j, j < 3 → Lib.hasPrefix (skipB (rest t a)) (wordOf j) = false) (hw : digZ (headZ (skipB (rest t a))) = false ∧ ¬ headZ (skipB (rest t a)) = 45 ∧ ¬ headZ (skipB (rest t a)) = 34 ∧ ¬ headZ (skipB (rest t a)) = 91 ∧ ¬ headZ (skipB (rest t a)) = 123) :
    Calls Tryz.prog 25 #[stV t a n c0 x0, .int .i64 dep] W (VlE W t c0 x0 (valD d (rest t a) n)) := by
  have H0 := Lib.hid h0
  have e0 : ((c0 : Int) != 0) = false := by simp; omega
  have HDP := Lib.hid hd
  clear h0 hd
  have HPOS := Lib.hid hpos
  have H2 := Lib.hid h2
  have HWY := Lib.hid hw
  have HNW0 := Lib.hid hnw
  clear hnw
  clear hpos h2 hw
  have HV := Lib.hid (DocV.start W (t := t) (n := n) (c := c0) (x := x0) ha)
  have HBl := Lib.hid (fun wx => rblanks_any (n := n) (c := c0) (x := x0) ha hs wx)
  have k0 := HV.out.1.1.cell 0
  have k1 := HV.out.1.1.cell 1
  have k2 := HV.out.1.1.cell 2
  have k3 := HV.out.1.1.cell 3
  have k4 := HV.out.1.1.cell 4
  go_enter Tryz.func25, Tryz.ntmps25
  go_wp2_with fail
  go_at_call 26; refine (HBl.out _).mono ?_; rintro e w1 ⟨b, rfl, hsk, hbt, hb1⟩
  have HV1 := Lib.hid (HV.out.below hb1)
  have HSK := Lib.hid hsk
  clear hb1 HV k0 k1 k2 k3 k4 HBl hsk
  have k0 := HV1.out.1.1.cell 0
  have k1 := HV1.out.1.1.cell 1
  have k2 := HV1.out.1.1.cell 2
  have k3 := HV1.out.1.1.cell 3
  have k4 := HV1.out.1.1.cell 4
  have f0 := HV1.out.1.1.frozen 0
  have f1 := HV1.out.1.1.frozen 1
  have f2 := HV1.out.1.1.frozen 2
  have f3 := HV1.out.1.1.frozen 3
  have f4 := HV1.out.1.1.frozen 4
  have hVp := HV1.out.puts (b := b) (n' := n) (c' := c0) (x' := x0) hbt
  go_upto_region 2 with fail
  obtain ⟨w2, hw2⟩ : ∃ w2, ((((w1.setCell ⟨W.heap.size, 0, none⟩ (.string t)).setCell ⟨W.heap.size, 1, none⟩ (.int .i64 (b : Int))).setCell ⟨W.heap.size, 2, none⟩ (.int .i64 (n : Int))).setCell ⟨W.heap.size, 3, none⟩ (.int .i64 (c0 : Int))).setCell ⟨W.heap.size, 4, none⟩ (.int .i64 (x0 : Int)) = w2 := ⟨_, rfl⟩
  rw [hw2] at hVp ⊢
  have HV2 := Lib.hid hVp
  clear hVp hw2 HV1 k0 k1 k2 k3 k4 f0 f1 f2 f3 f4
  obtain ⟨R, hR⟩ : ∃ R, rest t b = R := ⟨_, rfl⟩
  have HRR : Hid (skipB (rest t a) = R) := Lib.hid (by rw [← hR]; exact HSK.out.symm)
  have HRb := Lib.hid hR
  have HRL : Hid (R.length = t.size - b) := Lib.hid (by rw [← hR, rest_length])
  clear hR
  have HNW : Hid (∀ j, j < 3 → Lib.hasPrefix R (wordOf j) = false) := Lib.hid (by have h := HNW0.out; rw [HRR.out] at h; exact h)
  have q1 : ¬ (24 : Int) < dep := by have := HDP.out; have := HPOS.out; omega
  have q2 : ¬ (2000 : Int) ≤ (n : Int) := by have := H2.out; omega
  obtain ⟨e, hde⟩ : ∃ e, d = e + 1 := ⟨d - 1, by have := HPOS.out; omega⟩
  have hVc : DocV W (w2.setCell ⟨W.heap.size, 2, none⟩ (.int .i64 ((n : Int) + 1))) t b (n + 1) c0 x0 := HV2.out.counts
  have HDE := Lib.hid hde
  have hn1 : n + 1 ≤ 2000 := by have := H2.out; omega
  have i0 : (0 : Int) ≤ (b : Int) := by omega
  clear hde
  have k0 := HV2.out.1.1.cell 0
  have k1 := HV2.out.1.1.cell 1
  have k2 := HV2.out.1.1.cell 2
  have k3 := HV2.out.1.1.cell 3
  have k4 := HV2.out.1.1.cell 4
  have f2 := HV2.out.1.1.frozen 2
  go_upto_region 9 with fail
  obtain ⟨w3, hw3⟩ : ∃ w3, w2.setCell ⟨W.heap.size, 2, none⟩ (.int .i64 ((n : Int) + 1)) = w3 := ⟨_, rfl⟩
  rw [hw3] at hVc ⊢
  have HV3 := Lib.hid hVc
  clear hVc hw3 HV2 k0 k1 k2 k3 k4 f2
  obtain ⟨n1, hn1e⟩ : ∃ n1, n + 1 = n1 := ⟨_, rfl⟩
  rw [hn1e] at HV3 hn1
  have HN1 := Lib.hid hn1e
  clear hn1e
  go_wp2_with fail
  go_loopg [37] 4 (fun gf s37 wx => ∃ j : Nat, s37 = .int .i64 (j : Int) ∧ j ≤ 3 ∧ Hid (DocV W wx t b n1 c0 x0) ∧ Hid (∀ i, i < j → Lib.hasPrefix R (wordOf i) = false) ∧ 3 < j + gf)
  case atStart => exact ⟨0, rfl, by omega, HV3, Lib.hid (fun i hi => by omega), by omega⟩
  case round =>
    obtain ⟨j, rfl, hj, HVj, HP, hg⟩ := hrel
    rcases (show j = 0 ∨ j = 1 ∨ j = 2 ∨ j = 3 by omega) with rfl | rfl | rfl | rfl
    · obtain ⟨pb, hpb⟩ : ∃ pb, Lib.hasPrefix R (wordOf 0) = pb := ⟨_, rfl⟩
      obtain rfl : pb = false := by rw [← hpb]; exact HNW.out 0 (by decide)
      have HW := Lib.hid (rword_b (a := b) (n := n1) (c := c0) (x := x0) hbt hs ⟨#[110, 117, 108, 108]⟩ (by show 4 ≤ 65536; decide) (b := false) (by rw [HRb.out]; exact hpb) wr)
      have HPB := Lib.hid hpb
      obtain ⟨g', rfl⟩ : ∃ g', gk = g' + 1 := ⟨gk - 1, by omega⟩
      clear hpb
      have k0 := HVj.out.1.1.cell 0
      have k1 := HVj.out.1.1.cell 1
      have k2 := HVj.out.1.1.cell 2
      have k3 := HVj.out.1.1.cell 3
      have k4 := HVj.out.1.1.cell 4
      have hai : ∀ w : World, (Instr.index 76 (.agg #[.string ⟨#[110, 117, 108, 108]⟩, .string ⟨#[116, 114, 117, 101]⟩, .string ⟨#[102, 97, 108, 115, 101]⟩]) (.int .i64 0)).run Tryz.prog w = .ok (.string ⟨#[110, 117, 108, 108]⟩) w := fun _ => rfl
      go_wp2_with fail
      go_at_call 43; refine HW.out.mono ?_; rintro e w4 ⟨rfl, hb4⟩
      have HV4 := Lib.hid (HVj.out.below hb4)
      clear hb4 k0 k1 k2 k3 k4
      have HP2 : Hid (∀ i, i < 1 → Lib.hasPrefix R (wordOf i) = false) := Lib.hid (fun i hi => by
        rcases Nat.lt_succ_iff_lt_or_eq.1 hi with h | rfl
        · exact HP.out i h
        · exact HPB.out)
      go_wp2_with fail
      go_roundg g'
      case measure => omega
      case rel => exact ⟨1, by go_num, by omega, HV4, HP2, by omega⟩
    · obtain ⟨pb, hpb⟩ : ∃ pb, Lib.hasPrefix R (wordOf 1) = pb := ⟨_, rfl⟩
      obtain rfl : pb = false := by rw [← hpb]; exact HNW.out 1 (by decide)
      have HW := Lib.hid (rword_b (a := b) (n := n1) (c := c0) (x := x0) hbt hs ⟨#[116, 114, 117, 101]⟩ (by show 4 ≤ 65536; decide) (b := false) (by rw [HRb.out]; exact hpb) wr)
      have HPB := Lib.hid hpb
      obtain ⟨g', rfl⟩ : ∃ g', gk = g' + 1 := ⟨gk - 1, by omega⟩
      clear hpb
      have k0 := HVj.out.1.1.cell 0
      have k1 := HVj.out.1.1.cell 1
      have k2 := HVj.out.1.1.cell 2
      have k3 := HVj.out.1.1.cell 3
      have k4 := HVj.out.1.1.cell 4
      have hai : ∀ w : World, (Instr.index 76 (.agg #[.string ⟨#[110, 117, 108, 108]⟩, .string ⟨#[116, 114, 117, 101]⟩, .string ⟨#[102, 97, 108, 115, 101]⟩]) (.int .i64 1)).run Tryz.prog w = .ok (.string ⟨#[116, 114, 117, 101]⟩) w := fun _ => rfl
      go_wp2_with fail
      go_at_call 43; refine HW.out.mono ?_; rintro e w4 ⟨rfl, hb4⟩
      have HV4 := Lib.hid (HVj.out.below hb4)
      clear hb4 k0 k1 k2 k3 k4
      have HP2 : Hid (∀ i, i < 2 → Lib.hasPrefix R (wordOf i) = false) := Lib.hid (fun i hi => by
        rcases Nat.lt_succ_iff_lt_or_eq.1 hi with h | rfl
        · exact HP.out i h
        · exact HPB.out)
      go_wp2_with fail
      go_roundg g'
      case measure => omega
      case rel => exact ⟨2, by go_num, by omega, HV4, HP2, by omega⟩
    · obtain ⟨pb, hpb⟩ : ∃ pb, Lib.hasPrefix R (wordOf 2) = pb := ⟨_, rfl⟩
      obtain rfl : pb = false := by rw [← hpb]; exact HNW.out 2 (by decide)
      have HW := Lib.hid (rword_b (a := b) (n := n1) (c := c0) (x := x0) hbt hs ⟨#[102, 97, 108, 115, 101]⟩ (by show 5 ≤ 65536; decide) (b := false) (by rw [HRb.out]; exact hpb) wr)
      have HPB := Lib.hid hpb
      obtain ⟨g', rfl⟩ : ∃ g', gk = g' + 1 := ⟨gk - 1, by omega⟩
      clear hpb
      have k0 := HVj.out.1.1.cell 0
      have k1 := HVj.out.1.1.cell 1
      have k2 := HVj.out.1.1.cell 2
      have k3 := HVj.out.1.1.cell 3
      have k4 := HVj.out.1.1.cell 4
      have hai : ∀ w : World, (Instr.index 76 (.agg #[.string ⟨#[110, 117, 108, 108]⟩, .string ⟨#[116, 114, 117, 101]⟩, .string ⟨#[102, 97, 108, 115, 101]⟩]) (.int .i64 2)).run Tryz.prog w = .ok (.string ⟨#[102, 97, 108, 115, 101]⟩) w := fun _ => rfl
      go_wp2_with fail
      go_at_call 43; refine HW.out.mono ?_; rintro e w4 ⟨rfl, hb4⟩
      have HV4 := Lib.hid (HVj.out.below hb4)
      clear hb4 k0 k1 k2 k3 k4
      have HP2 : Hid (∀ i, i < 3 → Lib.hasPrefix R (wordOf i) = false) := Lib.hid (fun i hi => by
        rcases Nat.lt_succ_iff_lt_or_eq.1 hi with h | rfl
        · exact HP.out i h
        · exact HPB.out)
      go_wp2_with fail
      go_roundg g'
      case measure => omega
      case rel => exact ⟨3, by go_num, by omega, HV4, HP2, by omega⟩
    · obtain ⟨z, hz⟩ : ∃ z, headZ R = z := ⟨_, rfl⟩
      obtain ⟨zl, zh⟩ := hz ▸ headZ_bound R
      have HCz := Lib.hid (fun wx => (show headZ (rest t b) = z by rw [HRb.out]; exact hz) ▸ rc_any (a := b) (n := n1) (c := c0) (x := x0) hbt hs wx)
      clear HP
      have hw := HWY.out
      rw [HRR.out, hz] at hw
      obtain ⟨hdg, h45, h34, h91, h123⟩ := hw
      have HQ : Hid (valD d (rest t a) n = .error (30, t.size - b)) := Lib.hid (by rw [HDE.out, valD_none (by have := HN1.out; omega) HRR.out hz h34 h91 h123 h45 hdg (HNW.out 0 (by decide)) (HNW.out 1 (by decide)) (HNW.out 2 (by decide)), HRL.out])
      have e34 : (z == 34) = false := by simp [h34]
      have e91 : (z == 91) = false := by simp [h91]
      have e123 : (z == 123) = false := by simp [h123]
      have e45 : (z == 45) = false := by simp [h45]
      have k0 := HVj.out.1.1.cell 0
      have k1 := HVj.out.1.1.cell 1
      have k2 := HVj.out.1.1.cell 2
      have k3 := HVj.out.1.1.cell 3
      have k4 := HVj.out.1.1.cell 4
      go_wp2_with fail
      go_at_call 45; refine (HCz.out _).mono ?_; rintro e wz1 ⟨rfl, hbz⟩
      have HVz1 := Lib.hid (HVj.out.below hbz)
      clear hbz k0 k1 k2 k3 k4
      have k0 := HVz1.out.1.1.cell 0
      have k1 := HVz1.out.1.1.cell 1
      have k2 := HVz1.out.1.1.cell 2
      have k3 := HVz1.out.1.1.cell 3
      have k4 := HVz1.out.1.1.cell 4
      go_wp2_with fail
      go_at_call 45; refine (HCz.out _).mono ?_; rintro e wz2 ⟨rfl, hbz⟩
      have HVz2 := Lib.hid (HVz1.out.below hbz)
      clear hbz k0 k1 k2 k3 k4
      have HDg := Lib.hid (fun w => rdigit_b zl zh hdg w)
      have HDZ := Lib.hid hdg
      have HHZ := Lib.hid hz
      clear hdg hz
      go_wp2_with (go_at_call 46; refine (HDg.out _).mono ?_; rintro e w6 ⟨rfl, rfl⟩; refine Hid.out ?_)
      refine Lib.hid ?_
      have k0 := HVz2.out.1.1.cell 0
      have k1 := HVz2.out.1.1.cell 1
      have k2 := HVz2.out.1.1.cell 2
      have k3 := HVz2.out.1.1.cell 3
      have k4 := HVz2.out.1.1.cell 4
      go_wp2_with fail
      go_at_call 45; refine (HCz.out _).mono ?_; rintro e wz3 ⟨rfl, hbz⟩
      have HVz3 := Lib.hid (HVz2.out.below hbz)
      clear hbz k0 k1 k2 k3 k4
      have k0 := HVz3.out.1.1.cell 0
      have k1 := HVz3.out.1.1.cell 1
      have k2 := HVz3.out.1.1.cell 2
      have k3 := HVz3.out.1.1.cell 3
      have k4 := HVz3.out.1.1.cell 4
      go_wp2_with fail
      go_at_call 45; refine (HCz.out _).mono ?_; rintro e wz4 ⟨rfl, hbz⟩
      have HVz4 := Lib.hid (HVz3.out.below hbz)
      clear hbz k0 k1 k2 k3 k4
      have k0 := HVz4.out.1.1.cell 0
      have k1 := HVz4.out.1.1.cell 1
      have k2 := HVz4.out.1.1.cell 2
      have k3 := HVz4.out.1.1.cell 3
      have k4 := HVz4.out.1.1.cell 4
      go_wp2_with fail
      go_at_call 45; refine (HCz.out _).mono ?_; rintro e wz5 ⟨rfl, hbz⟩
      have HVz5 := Lib.hid (HVz4.out.below hbz)
      clear hbz k0 k1 k2 k3 k4
      clear h34 h91 h123
      have k0 := HVz5.out.1.1.cell 0
      have k1 := HVz5.out.1.1.cell 1
      have k2 := HVz5.out.1.1.cell 2
      have k3 := HVz5.out.1.1.cell 3
      have k4 := HVz5.out.1.1.cell 4
      have HF := Lib.hid (fail_to (t := t) (a := b) (n := n1) (x := x0) H0.out 30 b wz5)
      have k0 := HVz5.out.1.1.cell 0
      have k1 := HVz5.out.1.1.cell 1
      have k2 := HVz5.out.1.1.cell 2
      have k3 := HVz5.out.1.1.cell 3
      have k4 := HVz5.out.1.1.cell 4
      go_wp2_with (go_at_call 27; refine HF.out.mono ?_; rintro e wf ⟨rfl, hbf⟩; refine Hid.out ?_)
      refine Lib.hid ?_
      have HVf := Lib.hid (HVz5.out.below hbf)
      clear hbf k0 k1 k2 k3 k4
      have q0 := HVf.out.1.2.1.cell 0
      have q1 := HVf.out.1.2.1.cell 1
      have q2 := HVf.out.1.2.1.cell 2
      have q3 := HVf.out.1.2.1.cell 3
      have q4 := HVf.out.1.2.1.cell 4
      have g0 := HVf.out.1.2.1.frozen 0
      have g1 := HVf.out.1.2.1.frozen 1
      have g2 := HVf.out.1.2.1.frozen 2
      have g3 := HVf.out.1.2.1.frozen 3
      have g4 := HVf.out.1.2.1.frozen 4
      have p0 := HVf.out.2.cell 0
      have p1 := HVf.out.2.cell 1
      have p2 := HVf.out.2.cell 2
      have p3 := HVf.out.2.cell 3
      have p4 := HVf.out.2.cell 4
      have h0 := HVf.out.2.frozen 0
      have h1 := HVf.out.2.frozen 1
      have h2 := HVf.out.2.frozen 2
      have h3 := HVf.out.2.frozen 3
      have h4 := HVf.out.2.frozen 4
      go_wp2_with fail
      have hqe := (HVf.out).ends (.string t) (.int .i64 (b : Int)) (.int .i64 (n1 : Int)) (.int .i64 30) (.int .i64 (b : Int)) (.int .i64 0) (.bool false) (.string ⟨#[]⟩) (.slice none 0 0) (.slice none 0 0)
      have r0 := hqe.1.cell 0
      have r1 := hqe.1.cell 1
      have r2 := hqe.1.cell 2
      have r3 := hqe.1.cell 3
      have r4 := hqe.1.cell 4
      have s0 := hqe.2.1.cell 0
      have s1 := hqe.2.1.cell 1
      have s2 := hqe.2.1.cell 2
      have s3 := hqe.2.1.cell 3
      have s4 := hqe.2.1.cell 4
      have HEND := Lib.hid hqe.2.2
      clear hqe
      refine bodyPost_ret (by simp [results, Tryz.results25, go_sem, r0, r1, r2, r3, r4, s0, s1, s2, s3, s4]; try rfl) rfl ?_
      rw [HQ.out]
      exact ⟨HEND.out, b, n1, 30, _, _, by rw [show t.size - (t.size - b) = b by omega] <;> rfl, hbt, hn1, by decide, rfl, nil_is _ _ _⟩
end Go.Proofs.YtnmfoedfllmclaaGreatDoor
namespace Go.Proofs.YtnmfoedfllmclaaGreatDoor
open Go.RowKit Go.Shelf
set_option linter.unusedVariables false

theorem rvalue_any {a n c0 x0 d : Nat} {dep : Int} {t : ByteArray} (h0 : c0 = 0) (ha : a ≤ t.size) (hs : t.size ≤ 65536) (hn : n ≤ 2000) (hd : dep = 25 - (d : Int)) (hd24 : d ≤ 24) (W : World)
    (hm : ∀ (W : World) (a n : Nat) (obj : Bool), a < t.size → n ≤ 2000 → 0 < d → Calls Tryz.prog 50 #[stV t a n c0 x0, .int .i64 dep, .bool obj] W (VlE W t c0 x0 (if obj then objR (eachJ (pairJ (valD (d - 1))) 125 [] (rest t a) n) else listR (eachJ (itemJ (valD (d - 1))) 93 [] (rest t a) n)))) :
    Calls Tryz.prog 25 #[stV t a n c0 x0, .int .i64 dep] W (VlE W t c0 x0 (valD d (rest t a) n)) := by
  rcases Nat.eq_zero_or_pos d with hz | hpos
  · exact rvalue_deep h0 ha hs hn hd hd24 W hz
  by_cases h2 : n = 2000
  · exact rvalue_long h0 ha hs hn hd hd24 W hpos h2
  by_cases hw : ∃ j, j < 3 ∧ Lib.hasPrefix (skipB (rest t a)) (wordOf j) = true
  · exact rvalue_words h0 ha hs hn hd hd24 W hpos h2 hw
  have hnw : ∀ j, j < 3 → Lib.hasPrefix (skipB (rest t a)) (wordOf j) = false := fun j hj => by
    cases hp : Lib.hasPrefix (skipB (rest t a)) (wordOf j) with
    | false => rfl
    | true => exact absurd ⟨j, hj, hp⟩ hw
  by_cases h45 : headZ (skipB (rest t a)) = 45
  · exact rvalue_num h0 ha hs hn hd hd24 W hpos h2 hnw (.inl h45)
  cases hdg : digZ (headZ (skipB (rest t a))) with
  | true => exact rvalue_num h0 ha hs hn hd hd24 W hpos h2 hnw (.inr hdg)
  | false =>
    by_cases h34 : headZ (skipB (rest t a)) = 34
    · exact rvalue_text h0 ha hs hn hd hd24 W hpos h2 hnw h34
    by_cases h91 : headZ (skipB (rest t a)) = 91
    · exact rvalue_list h0 ha hs hn hd hd24 W hpos h2 hnw h91 hm
    by_cases h123 : headZ (skipB (rest t a)) = 123
    · exact rvalue_obj h0 ha hs hn hd hd24 W hpos h2 hnw h123 hm
    exact rvalue_none h0 ha hs hn hd hd24 W hpos h2 hnw ⟨hdg, h45, h34, h91, h123⟩
end Go.Proofs.YtnmfoedfllmclaaGreatDoor
