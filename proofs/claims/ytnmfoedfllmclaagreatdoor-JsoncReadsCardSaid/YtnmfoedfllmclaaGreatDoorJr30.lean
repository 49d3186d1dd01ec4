/- The document's own reader: a value: numbers -/
import Derived.Test.YtnmfoedfllmclaaGreatDoorJr28
namespace Go.Proofs.YtnmfoedfllmclaaGreatDoor
open Go.RowKit Go.Shelf
set_option linter.unusedVariables false

set_option maxRecDepth 100000 in
set_option maxHeartbeats 16000000 in
theorem rvalue_num {a n c0 x0 d : Nat} {dep : Int} {t : ByteArray} (h0 : c0 = 0) (ha : a ≤ t.size) (hs : t.size ≤ 65536) (hn : n ≤ 2000) (hd : dep = 25 - (d : Int)) (hd24 : d ≤ 24) (W : World) (hpos : 0 < d) (h2 : ¬ n = 2000) (hnw : ∀ j, j < 3 → Lib.hasPrefix (skipB (rest t a)) (wordOf j) = false) (hw : headZ (skipB (rest t a)) = 45 ∨ digZ (headZ (skipB (rest t a))) = true) :
    Calls Tryz.prog 25 #[stV t a n c0 x0, .int .i64 dep] W (VlE W t c0 x0 (valD d (rest t a) n)) := by
  have H0 := Lib.hid h0
  have e0 : ((c0 : Int) != 0) = false := by simp; omega
  have HDP := Lib.hid hd
  clear h0 hd
  have HPOS := Lib.hid hpos
  have H2 := Lib.hid h2
  have HWY := Lib.hid hw
  have HNW0 := Lib.hid hnw
  clear hnw
  clear hpos h2 hw
  have HV := Lib.hid (DocV.start W (t := t) (n := n) (c := c0) (x := x0) ha)
  have HBl := Lib.hid (fun wx => rblanks_any (n := n) (c := c0) (x := x0) ha hs wx)
  have k0 := HV.out.1.1.cell 0
  have k1 := HV.out.1.1.cell 1
  have k2 := HV.out.1.1.cell 2
  have k3 := HV.out.1.1.cell 3
  have k4 := HV.out.1.1.cell 4
  go_enter Tryz.func25, Tryz.ntmps25
  go_wp2_with fail
  go_at_call 26; refine (HBl.out _).mono ?_; rintro e w1 ⟨b, rfl, hsk, hbt, hb1⟩
  have HV1 := Lib.hid (HV.out.below hb1)
  have HSK := Lib.hid hsk
  clear hb1 HV k0 k1 k2 k3 k4 HBl hsk
  have k0 := HV1.out.1.1.cell 0
  have k1 := HV1.out.1.1.cell 1
  have k2 := HV1.out.1.1.cell 2
  have k3 := HV1.out.1.1.cell 3
  have k4 := HV1.out.1.1.cell 4
  have f0 := HV1.out.1.1.frozen 0
  have f1 := HV1.out.1.1.frozen 1
  have f2 := HV1.out.1.1.frozen 2
  have f3 := HV1.out.1.1.frozen 3
  have f4 := HV1.out.1.1.frozen 4
  have hVp := HV1.out.puts (b := b) (n' := n) (c' := c0) (x' := x0) hbt
  go_upto_region 2 with fail
  obtain ⟨w2, hw2⟩ : ∃ w2, ((((w1.setCell ⟨W.heap.size, 0, none⟩ (.string t)).setCell ⟨W.heap.size, 1, none⟩ (.int .i64 (b : Int))).setCell ⟨W.heap.size, 2, none⟩ (.int .i64 (n : Int))).setCell ⟨W.heap.size, 3, none⟩ (.int .i64 (c0 : Int))).setCell ⟨W.heap.size, 4, none⟩ (.int .i64 (x0 : Int)) = w2 := ⟨_, rfl⟩
  rw [hw2] at hVp ⊢
  have HV2 := Lib.hid hVp
  clear hVp hw2 HV1 k0 k1 k2 k3 k4 f0 f1 f2 f3 f4
  obtain ⟨R, hR⟩ : ∃ R, rest t b = R := ⟨_, rfl⟩
  have HRR : Hid (skipB (rest t a) = R) := Lib.hid (by rw [← hR]; exact HSK.out.symm)
  have HRb := Lib.hid hR
  have HRL : Hid (R.length = t.size - b) := Lib.hid (by rw [← hR, rest_length])
  clear hR
  have HNW : Hid (∀ j, j < 3 → Lib.hasPrefix R (wordOf j) = false) := Lib.hid (by have h := HNW0.out; rw [HRR.out] at h; exact h)
  have q1 : ¬ (24 : Int) < dep := by have := HDP.out; have := HPOS.out; omega
  have q2 : ¬ (2000 : Int) ≤ (n : Int) := by have := H2.out; omega
  obtain ⟨e, hde⟩ : ∃ e, d = e + 1 := ⟨d - 1, by have := HPOS.out; omega⟩
  have hVc : DocV W (w2.setCell ⟨W.heap.size, 2, none⟩ (.int .i64 ((n : Int) + 1))) t b (n + 1) c0 x0 := HV2.out.counts
  have HDE := Lib.hid hde
  have hn1 : n + 1 ≤ 2000 := by have := H2.out; omega
  have i0 : (0 : Int) ≤ (b : Int) := by omega
  clear hde
  have k0 := HV2.out.1.1.cell 0
  have k1 := HV2.out.1.1.cell 1
  have k2 := HV2.out.1.1.cell 2
  have k3 := HV2.out.1.1.cell 3
  have k4 := HV2.out.1.1.cell 4
  have f2 := HV2.out.1.1.frozen 2
  go_upto_region 9 with fail
  obtain ⟨w3, hw3⟩ : ∃ w3, w2.setCell ⟨W.heap.size, 2, none⟩ (.int .i64 ((n : Int) + 1)) = w3 := ⟨_, rfl⟩
  rw [hw3] at hVc ⊢
  have HV3 := Lib.hid hVc
  clear hVc hw3 HV2 k0 k1 k2 k3 k4 f2
  obtain ⟨n1, hn1e⟩ : ∃ n1, n + 1 = n1 := ⟨_, rfl⟩
  rw [hn1e] at HV3 hn1
  have HN1 := Lib.hid hn1e
  clear hn1e
  go_wp2_with fail
  go_loopg [37] 4 (fun gf s37 wx => ∃ j : Nat, s37 = .int .i64 (j : Int) ∧ j ≤ 3 ∧ Hid (DocV W wx t b n1 c0 x0) ∧ Hid (∀ i, i < j → Lib.hasPrefix R (wordOf i) = false) ∧ 3 < j + gf)
  case atStart => exact ⟨0, rfl, by omega, HV3, Lib.hid (fun i hi => by omega), by omega⟩
  case round =>
    obtain ⟨j, rfl, hj, HVj, HP, hg⟩ := hrel
    rcases (show j = 0 ∨ j = 1 ∨ j = 2 ∨ j = 3 by omega) with rfl | rfl | rfl | rfl
    · obtain ⟨pb, hpb⟩ : ∃ pb, Lib.hasPrefix R (wordOf 0) = pb := ⟨_, rfl⟩
      obtain rfl : pb = false := by rw [← hpb]; exact HNW.out 0 (by decide)
      have HW := Lib.hid (rword_b (a := b) (n := n1) (c := c0) (x := x0) hbt hs ⟨#[110, 117, 108, 108]⟩ (by show 4 ≤ 65536; decide) (b := false) (by rw [HRb.out]; exact hpb) wr)
      have HPB := Lib.hid hpb
      obtain ⟨g', rfl⟩ : ∃ g', gk = g' + 1 := ⟨gk - 1, by omega⟩
      clear hpb
      have k0 := HVj.out.1.1.cell 0
      have k1 := HVj.out.1.1.cell 1
      have k2 := HVj.out.1.1.cell 2
      have k3 := HVj.out.1.1.cell 3
      have k4 := HVj.out.1.1.cell 4
      have hai : ∀ w : World, (Instr.index 76 (.agg #[.string ⟨#[110, 117, 108, 108]⟩, .string ⟨#[116, 114, 117, 101]⟩, .string ⟨#[102, 97, 108, 115, 101]⟩]) (.int .i64 0)).run Tryz.prog w = .ok (.string ⟨#[110, 117, 108, 108]⟩) w := fun _ => rfl
      go_wp2_with fail
      go_at_call 43; refine HW.out.mono ?_; rintro e w4 ⟨rfl, hb4⟩
      have HV4 := Lib.hid (HVj.out.below hb4)
      clear hb4 k0 k1 k2 k3 k4
      have HP2 : Hid (∀ i, i < 1 → Lib.hasPrefix R (wordOf i) = false) := Lib.hid (fun i hi => by
        rcases Nat.lt_succ_iff_lt_or_eq.1 hi with h | rfl
        · exact HP.out i h
        · exact HPB.out)
      go_wp2_with fail
      go_roundg g'
      case measure => omega
      case rel => exact ⟨1, by go_num, by omega, HV4, HP2, by omega⟩
    · obtain ⟨pb, hpb⟩ : ∃ pb, Lib.hasPrefix R (wordOf 1) = pb := ⟨_, rfl⟩
      obtain rfl : pb = false := by rw [← hpb]; exact HNW.out 1 (by decide)
      have HW := Lib.hid (rword_b (a := b) (n := n1) (c := c0) (x := x0) hbt hs ⟨#[116, 114, 117, 101]⟩ (by show 4 ≤ 65536; decide) (b := false) (by rw [HRb.out]; exact hpb) wr)
      have HPB := Lib.hid hpb
      obtain ⟨g', rfl⟩ : ∃ g', gk = g' + 1 := ⟨gk - 1, by omega⟩
      clear hpb
      have k0 := HVj.out.1.1.cell 0
      have k1 := HVj.out.1.1.cell 1
      have k2 := HVj.out.1.1.cell 2
      have k3 := HVj.out.1.1.cell 3
      have k4 := HVj.out.1.1.cell 4
      have hai : ∀ w : World, (Instr.index 76 (.agg #[.string ⟨#[110, 117, 108, 108]⟩, .string ⟨#[116, 114, 117, 101]⟩, .string ⟨#[102, 97, 108, 115, 101]⟩]) (.int .i64 1)).run Tryz.prog w = .ok (.string ⟨#[116, 114, 117, 101]⟩) w := fun _ => rfl
      go_wp2_with fail
      go_at_call 43; refine HW.out.mono ?_; rintro e w4 ⟨rfl, hb4⟩
      have HV4 := Lib.hid (HVj.out.below hb4)
      clear hb4 k0 k1 k2 k3 k4
      have HP2 : Hid (∀ i, i < 2 → Lib.hasPrefix R (wordOf i) = false) := Lib.hid (fun i hi => by
        rcases Nat.lt_succ_iff_lt_or_eq.1 hi with h | rfl
        · exact HP.out i h
        · exact HPB.out)
      go_wp2_with fail
      go_roundg g'
      case measure => omega
      case rel => exact ⟨2, by go_num, by omega, HV4, HP2, by omega⟩
    · obtain ⟨pb, hpb⟩ : ∃ pb, Lib.hasPrefix R (wordOf 2) = pb := ⟨_, rfl⟩
      obtain rfl : pb = false := by rw [← hpb]; exact HNW.out 2 (by decide)
      have HW := Lib.hid (rword_b (a := b) (n := n1) (c := c0) (x := x0) hbt hs ⟨#[102, 97, 108, 115, 101]⟩ (by show 5 ≤ 65536; decide) (b := false) (by rw [HRb.out]; exact hpb) wr)
      have HPB := Lib.hid hpb
      obtain ⟨g', rfl⟩ : ∃ g', gk = g' + 1 := ⟨gk - 1, by omega⟩
      clear hpb
      have k0 := HVj.out.1.1.cell 0
      have k1 := HVj.out.1.1.cell 1
      have k2 := HVj.out.1.1.cell 2
      have k3 := HVj.out.1.1.cell 3
      have k4 := HVj.out.1.1.cell 4
      have hai : ∀ w : World, (Instr.index 76 (.agg #[.string ⟨#[110, 117, 108, 108]⟩, .string ⟨#[116, 114, 117, 101]⟩, .string ⟨#[102, 97, 108, 115, 101]⟩]) (.int .i64 2)).run Tryz.prog w = .ok (.string ⟨#[102, 97, 108, 115, 101]⟩) w := fun _ => rfl
      go_wp2_with fail
      go_at_call 43; refine HW.out.mono ?_; rintro e w4 ⟨rfl, hb4⟩
      have HV4 := Lib.hid (HVj.out.below hb4)
      clear hb4 k0 k1 k2 k3 k4
      have HP2 : Hid (∀ i, i < 3 → Lib.hasPrefix R (wordOf i) = false) := Lib.hid (fun i hi => by
        rcases Nat.lt_succ_iff_lt_or_eq.1 hi with h | rfl
        · exact HP.out i h
        · exact HPB.out)
      go_wp2_with fail
      go_roundg g'
      case measure => omega
      case rel => exact ⟨3, by go_num, by omega, HV4, HP2, by omega⟩
    · obtain ⟨z, hz⟩ : ∃ z, headZ R = z := ⟨_, rfl⟩
      obtain ⟨zl, zh⟩ := hz ▸ headZ_bound R
      have HCz := Lib.hid (fun wx => (show headZ (rest t b) = z by rw [HRb.out]; exact hz) ▸ rc_any (a := b) (n := n1) (c := c0) (x := x0) hbt hs wx)
      clear HP
      have HNUM := Lib.hid (fun wx => rnumber_any (a := b) (n := n1) (c0 := c0) (x0 := x0) H0.out hbt hs hn1 wx)
      have HZW : Hid (z = 45 ∨ digZ z = true) := Lib.hid (by have h := HWY.out; rw [HRR.out, hz] at h; exact h)
      have k0 := HVj.out.1.1.cell 0
      have k1 := HVj.out.1.1.cell 1
      have k2 := HVj.out.1.1.cell 2
      have k3 := HVj.out.1.1.cell 3
      have k4 := HVj.out.1.1.cell 4
      go_wp2_with fail
      go_at_call 45; refine (HCz.out _).mono ?_; rintro e wz1 ⟨rfl, hbz⟩
      have HVz1 := Lib.hid (HVj.out.below hbz)
      clear hbz k0 k1 k2 k3 k4
      by_cases h45 : z = 45
      · have HNH : Hid (numHead R) := Lib.hid (numHead_of hz (.inl h45))
        have e45 : (z == 45) = true := by simp [h45]
        clear hz
        have k0 := HVz1.out.1.1.cell 0
        have k1 := HVz1.out.1.1.cell 1
        have k2 := HVz1.out.1.1.cell 2
        have k3 := HVz1.out.1.1.cell 3
        have k4 := HVz1.out.1.1.cell 4
        go_wp2_with fail
        go_at_call 47; refine (HNUM.out _).mono ?_
        cases hnd : numD (rest t b) with
        | error bd =>
          rintro e w6 ⟨hb6, b6, k6, rfl, hb6t, hk6, hk6e⟩
          obtain ⟨x6, hx6⟩ : ∃ x6, t.size - bd.2 = x6 := ⟨_, rfl⟩
          rw [hx6]
          have HX6 := Lib.hid hx6
          have HK6 := Lib.hid hk6e
          clear hx6 hk6e
          have HV6 := Lib.hid (HVz1.out.below hb6)
          clear hb6 k0 k1 k2 k3 k4
          have HQ : Hid (valD d (rest t a) n = .error bd) := Lib.hid (by rw [HDE.out, valD_num (by have := HN1.out; omega) HRR.out HNH.out, ← HRb.out, hnd] <;> rfl)
          clear hnd
          have q0 := HV6.out.1.2.1.cell 0
          have q1 := HV6.out.1.2.1.cell 1
          have q2 := HV6.out.1.2.1.cell 2
          have q3 := HV6.out.1.2.1.cell 3
          have q4 := HV6.out.1.2.1.cell 4
          have g0 := HV6.out.1.2.1.frozen 0
          have g1 := HV6.out.1.2.1.frozen 1
          have g2 := HV6.out.1.2.1.frozen 2
          have g3 := HV6.out.1.2.1.frozen 3
          have g4 := HV6.out.1.2.1.frozen 4
          have p0 := HV6.out.2.cell 0
          have p1 := HV6.out.2.cell 1
          have p2 := HV6.out.2.cell 2
          have p3 := HV6.out.2.cell 3
          have p4 := HV6.out.2.cell 4
          have h0 := HV6.out.2.frozen 0
          have h1 := HV6.out.2.frozen 1
          have h2 := HV6.out.2.frozen 2
          have h3 := HV6.out.2.frozen 3
          have h4 := HV6.out.2.frozen 4
          go_wp2_with fail
          have hqe := (HV6.out).ends (.string t) (.int .i64 (b6 : Int)) (.int .i64 (n1 : Int)) (.int .i64 (k6 : Int)) (.int .i64 (x6 : Int)) (.int .i64 0) (.bool false) (.string ⟨#[]⟩) (.slice none 0 0) (.slice none 0 0)
          have r0 := hqe.1.cell 0
          have r1 := hqe.1.cell 1
          have r2 := hqe.1.cell 2
          have r3 := hqe.1.cell 3
          have r4 := hqe.1.cell 4
          have s0 := hqe.2.1.cell 0
          have s1 := hqe.2.1.cell 1
          have s2 := hqe.2.1.cell 2
          have s3 := hqe.2.1.cell 3
          have s4 := hqe.2.1.cell 4
          have HEND := Lib.hid hqe.2.2
          clear hqe
          refine bodyPost_ret (by simp [results, Tryz.results25, go_sem, r0, r1, r2, r3, r4, s0, s1, s2, s3, s4]; try rfl) rfl ?_
          rw [HQ.out]
          exact ⟨HEND.out, b6, n1, k6, _, _, by rw [HX6.out] <;> rfl, hb6t, hn1, hk6, HK6.out, nil_is _ _ _⟩
        | ok y =>
          obtain ⟨s6, R6⟩ := y
          rintro e w6 ⟨hb6, b6, rfl, hb6t, hR6⟩
          have HV6 := Lib.hid (HVz1.out.below hb6)
          clear hb6 k0 k1 k2 k3 k4
          have HQ : Hid (valD d (rest t a) n = .ok (intT s6, R6, n1)) := Lib.hid (by rw [HDE.out, valD_num (by have := HN1.out; omega) HRR.out HNH.out, ← HRb.out, hnd, ← HN1.out] <;> rfl)
          clear hnd
          have q0 := HV6.out.1.2.1.cell 0
          have q1 := HV6.out.1.2.1.cell 1
          have q2 := HV6.out.1.2.1.cell 2
          have q3 := HV6.out.1.2.1.cell 3
          have q4 := HV6.out.1.2.1.cell 4
          have g0 := HV6.out.1.2.1.frozen 0
          have g1 := HV6.out.1.2.1.frozen 1
          have g2 := HV6.out.1.2.1.frozen 2
          have g3 := HV6.out.1.2.1.frozen 3
          have g4 := HV6.out.1.2.1.frozen 4
          have p0 := HV6.out.2.cell 0
          have p1 := HV6.out.2.cell 1
          have p2 := HV6.out.2.cell 2
          have p3 := HV6.out.2.cell 3
          have p4 := HV6.out.2.cell 4
          have h0 := HV6.out.2.frozen 0
          have h1 := HV6.out.2.frozen 1
          have h2 := HV6.out.2.frozen 2
          have h3 := HV6.out.2.frozen 3
          have h4 := HV6.out.2.frozen 4
          go_wp2_with fail
          have hqe := (HV6.out).ends (.string t) (.int .i64 (b6 : Int)) (.int .i64 (n1 : Int)) (.int .i64 (c0 : Int)) (.int .i64 (x0 : Int)) (.int .i64 3) (.bool false) (.string s6) (.slice none 0 0) (.slice none 0 0)
          have r0 := hqe.1.cell 0
          have r1 := hqe.1.cell 1
          have r2 := hqe.1.cell 2
          have r3 := hqe.1.cell 3
          have r4 := hqe.1.cell 4
          have s0 := hqe.2.1.cell 0
          have s1 := hqe.2.1.cell 1
          have s2 := hqe.2.1.cell 2
          have s3 := hqe.2.1.cell 3
          have s4 := hqe.2.1.cell 4
          have HEND := Lib.hid hqe.2.2
          clear hqe
          refine bodyPost_ret (by simp [results, Tryz.results25, go_sem, r0, r1, r2, r3, r4, s0, s1, s2, s3, s4]; try rfl) rfl ?_
          rw [HQ.out]
          exact ⟨HEND.out, b6, _, rfl, hb6t, hR6, hn1, fresh_scal _ _ _ 3 false s6⟩
      have e45 : (z == 45) = false := by simp [h45]
      have k0 := HVz1.out.1.1.cell 0
      have k1 := HVz1.out.1.1.cell 1
      have k2 := HVz1.out.1.1.cell 2
      have k3 := HVz1.out.1.1.cell 3
      have k4 := HVz1.out.1.1.cell 4
      go_wp2_with fail
      go_at_call 45; refine (HCz.out _).mono ?_; rintro e wz2 ⟨rfl, hbz⟩
      have HVz2 := Lib.hid (HVz1.out.below hbz)
      clear hbz k0 k1 k2 k3 k4
      have hdg : digZ z = true := HZW.out.resolve_left h45
      have HDg := Lib.hid (fun w => rdigit_b zl zh hdg w)
      have HNH : Hid (numHead R) := Lib.hid (numHead_of hz (.inr hdg))
      clear hdg hz
      go_wp2_with (go_at_call 46; refine (HDg.out _).mono ?_; rintro e w6 ⟨rfl, rfl⟩; refine Hid.out ?_)
      refine Lib.hid ?_
      have k0 := HVz2.out.1.1.cell 0
      have k1 := HVz2.out.1.1.cell 1
      have k2 := HVz2.out.1.1.cell 2
      have k3 := HVz2.out.1.1.cell 3
      have k4 := HVz2.out.1.1.cell 4
      go_wp2_with fail
      go_at_call 47; refine (HNUM.out _).mono ?_
      cases hnd : numD (rest t b) with
      | error bd =>
        rintro e w6 ⟨hb6, b6, k6, rfl, hb6t, hk6, hk6e⟩
        obtain ⟨x6, hx6⟩ : ∃ x6, t.size - bd.2 = x6 := ⟨_, rfl⟩
        rw [hx6]
        have HX6 := Lib.hid hx6
        have HK6 := Lib.hid hk6e
        clear hx6 hk6e
        have HV6 := Lib.hid (HVz2.out.below hb6)
        clear hb6 k0 k1 k2 k3 k4
        have HQ : Hid (valD d (rest t a) n = .error bd) := Lib.hid (by rw [HDE.out, valD_num (by have := HN1.out; omega) HRR.out HNH.out, ← HRb.out, hnd] <;> rfl)
        clear hnd
        have q0 := HV6.out.1.2.1.cell 0
        have q1 := HV6.out.1.2.1.cell 1
        have q2 := HV6.out.1.2.1.cell 2
        have q3 := HV6.out.1.2.1.cell 3
        have q4 := HV6.out.1.2.1.cell 4
        have g0 := HV6.out.1.2.1.frozen 0
        have g1 := HV6.out.1.2.1.frozen 1
        have g2 := HV6.out.1.2.1.frozen 2
        have g3 := HV6.out.1.2.1.frozen 3
        have g4 := HV6.out.1.2.1.frozen 4
        have p0 := HV6.out.2.cell 0
        have p1 := HV6.out.2.cell 1
        have p2 := HV6.out.2.cell 2
        have p3 := HV6.out.2.cell 3
        have p4 := HV6.out.2.cell 4
        have h0 := HV6.out.2.frozen 0
        have h1 := HV6.out.2.frozen 1
        have h2 := HV6.out.2.frozen 2
        have h3 := HV6.out.2.frozen 3
        have h4 := HV6.out.2.frozen 4
        go_wp2_with fail
        have hqe := (HV6.out).ends (.string t) (.int .i64 (b6 : Int)) (.int .i64 (n1 : Int)) (.int .i64 (k6 : Int)) (.int .i64 (x6 : Int)) (.int .i64 0) (.bool false) (.string ⟨#[]⟩) (.slice none 0 0) (.slice none 0 0)
        have r0 := hqe.1.cell 0
        have r1 := hqe.1.cell 1
        have r2 := hqe.1.cell 2
        have r3 := hqe.1.cell 3
        have r4 := hqe.1.cell 4
        have s0 := hqe.2.1.cell 0
        have s1 := hqe.2.1.cell 1
        have s2 := hqe.2.1.cell 2
        have s3 := hqe.2.1.cell 3
        have s4 := hqe.2.1.cell 4
        have HEND := Lib.hid hqe.2.2
        clear hqe
        refine bodyPost_ret (by simp [results, Tryz.results25, go_sem, r0, r1, r2, r3, r4, s0, s1, s2, s3, s4]; try rfl) rfl ?_
        rw [HQ.out]
        exact ⟨HEND.out, b6, n1, k6, _, _, by rw [HX6.out] <;> rfl, hb6t, hn1, hk6, HK6.out, nil_is _ _ _⟩
      | ok y =>
        obtain ⟨s6, R6⟩ := y
        rintro e w6 ⟨hb6, b6, rfl, hb6t, hR6⟩
        have HV6 := Lib.hid (HVz2.out.below hb6)
        clear hb6 k0 k1 k2 k3 k4
        have HQ : Hid (valD d (rest t a) n = .ok (intT s6, R6, n1)) := Lib.hid (by rw [HDE.out, valD_num (by have := HN1.out; omega) HRR.out HNH.out, ← HRb.out, hnd, ← HN1.out] <;> rfl)
        clear hnd
        have q0 := HV6.out.1.2.1.cell 0
        have q1 := HV6.out.1.2.1.cell 1
        have q2 := HV6.out.1.2.1.cell 2
        have q3 := HV6.out.1.2.1.cell 3
        have q4 := HV6.out.1.2.1.cell 4
        have g0 := HV6.out.1.2.1.frozen 0
        have g1 := HV6.out.1.2.1.frozen 1
        have g2 := HV6.out.1.2.1.frozen 2
        have g3 := HV6.out.1.2.1.frozen 3
        have g4 := HV6.out.1.2.1.frozen 4
        have p0 := HV6.out.2.cell 0
        have p1 := HV6.out.2.cell 1
        have p2 := HV6.out.2.cell 2
        have p3 := HV6.out.2.cell 3
        have p4 := HV6.out.2.cell 4
        have h0 := HV6.out.2.frozen 0
        have h1 := HV6.out.2.frozen 1
        have h2 := HV6.out.2.frozen 2
        have h3 := HV6.out.2.frozen 3
        have h4 := HV6.out.2.frozen 4
        go_wp2_with fail
        have hqe := (HV6.out).ends (.string t) (.int .i64 (b6 : Int)) (.int .i64 (n1 : Int)) (.int .i64 (c0 : Int)) (.int .i64 (x0 : Int)) (.int .i64 3) (.bool false) (.string s6) (.slice none 0 0) (.slice none 0 0)
        have r0 := hqe.1.cell 0
        have r1 := hqe.1.cell 1
        have r2 := hqe.1.cell 2
        have r3 := hqe.1.cell 3
        have r4 := hqe.1.cell 4
        have s0 := hqe.2.1.cell 0
        have s1 := hqe.2.1.cell 1
        have s2 := hqe.2.1.cell 2
        have s3 := hqe.2.1.cell 3
        have s4 := hqe.2.1.cell 4
        have HEND := Lib.hid hqe.2.2
        clear hqe
        refine bodyPost_ret (by simp [results, Tryz.results25, go_sem, r0, r1, r2, r3, r4, s0, s1, s2, s3, s4]; try rfl) rfl ?_
        rw [HQ.out]
        exact ⟨HEND.out, b6, _, rfl, hb6t, hR6, hn1, fresh_scal _ _ _ 3 false s6⟩
end Go.Proofs.YtnmfoedfllmclaaGreatDoor
