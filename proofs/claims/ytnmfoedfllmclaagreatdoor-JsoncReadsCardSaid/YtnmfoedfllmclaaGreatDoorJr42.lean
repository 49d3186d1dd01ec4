/- The document's own reader: a list -/
import Derived.Test.YtnmfoedfllmclaaGreatDoorJr41
namespace Go.Proofs.YtnmfoedfllmclaaGreatDoor
open Go.RowKit Go.Shelf Go.Sort
set_option linter.unusedVariables false

theorem listR_err {X : Except Bad (List VT × List UInt8 × Nat)} (bd : Bad) (h : X = .error bd) : listR X = .error bd := by rw [h]; rfl
theorem list_start (W : World) {t : ByteArray} {a n c x : Nat} (ha : a ≤ t.size) : DocV W ((((W.alloc (.cells #[.string t, .int .i64 (a : Int), .int .i64 (n : Int), .int .i64 (c : Int), .int .i64 (x : Int)] 56)).alloc (.cells #[.string ⟨#[]⟩, .int .i64 0, .int .i64 0, .int .i64 0, .int .i64 0] 56)).alloc (.cells #[.int .i64 0, .bool false, .string ⟨#[]⟩, .slice none 0 0, .slice none 0 0] 26)).alloc (.cells #[.int .i64 5, .bool false, .string ⟨#[]⟩, .slice none 0 0, .slice none 0 0] 26)) t a n c x ∧
    ListD W.heap.size ((((W.alloc (.cells #[.string t, .int .i64 (a : Int), .int .i64 (n : Int), .int .i64 (c : Int), .int .i64 (x : Int)] 56)).alloc (.cells #[.string ⟨#[]⟩, .int .i64 0, .int .i64 0, .int .i64 0, .int .i64 0] 56)).alloc (.cells #[.int .i64 0, .bool false, .string ⟨#[]⟩, .slice none 0 0, .slice none 0 0] 26)).alloc (.cells #[.int .i64 5, .bool false, .string ⟨#[]⟩, .slice none 0 0, .slice none 0 0] 26)) (.slice none 0 0) [] := by
  refine ⟨(DocV.start W ha).below (below_new0 _ _), ?_, ⟨rfl, .inl ⟨rfl, rfl⟩⟩, fun e he => by cases he⟩
  have := Blk.new (((W.alloc (.cells #[.string t, .int .i64 (a : Int), .int .i64 (n : Int), .int .i64 (c : Int), .int .i64 (x : Int)] 56)).alloc (.cells #[.string ⟨#[]⟩, .int .i64 0, .int .i64 0, .int .i64 0, .int .i64 0] 56)).alloc (.cells #[.int .i64 0, .bool false, .string ⟨#[]⟩, .slice none 0 0, .slice none 0 0] 26)) #[.int .i64 5, .bool false, .string ⟨#[]⟩, .slice none 0 0, .slice none 0 0] 26
  rw [World.size_alloc, World.size_alloc, World.size_alloc] at this
  exact this
set_option maxRecDepth 100000 in
set_option maxHeartbeats 16000000 in
theorem rmany_list {a n c0 x0 e : Nat} {dep : Int} {t : ByteArray} (h0 : c0 = 0) (ha : a < t.size) (hs : t.size ≤ 65536) (hn : n ≤ 2000) (hd0 : 0 ≤ dep) (hd1 : dep ≤ 100)
    (hv : ∀ (W : World) (a n : Nat), a ≤ t.size → n ≤ 2000 → Calls Tryz.prog 25 #[stV t a n c0 x0, .int .i64 (dep + 1)] W (VlE W t c0 x0 (valD e (rest t a) n))) (W : World) :
    Calls Tryz.prog 50 #[stV t a n c0 x0, .int .i64 dep, .bool false] W (VlE W t c0 x0 (listR (eachJ (itemJ (valD e)) 93 [] (rest t a) n))) := by
  have H0 := Lib.hid h0
  have HV := Lib.hid hv
  obtain ⟨iV, zV, hiV, hzV, hzV5, hsV, hbV⟩ := info_val
  obtain ⟨X, hX⟩ : ∃ X, eachJ (itemJ (valD e)) 93 [] (rest t a) n = X := ⟨_, rfl⟩
  have HX := Lib.hid hX
  rw [hX]
  clear hX h0 hv
  have HS := Lib.hid (list_start W (t := t) (n := n) (c := c0) (x := x0) (Nat.le_of_lt ha))
  go_enter Tryz.func50, Tryz.ntmps50
  go_upto_region 6 with fail
  obtain ⟨w1, hw1⟩ : ∃ w1, ((((W.alloc (.cells #[.string t, .int .i64 (a : Int), .int .i64 (n : Int), .int .i64 (c0 : Int), .int .i64 (x0 : Int)] 56)).alloc (.cells #[.string ⟨#[]⟩, .int .i64 0, .int .i64 0, .int .i64 0, .int .i64 0] 56)).alloc (.cells #[.int .i64 0, .bool false, .string ⟨#[]⟩, .slice none 0 0, .slice none 0 0] 26)).alloc (.cells #[.int .i64 5, .bool false, .string ⟨#[]⟩, .slice none 0 0, .slice none 0 0] 26)) = w1 := ⟨_, rfl⟩
  rw [hw1] at HS ⊢
  have HS1 := Lib.hid HS.out
  clear HS hw1
  have k1 := HS1.out.1.1.1.cell 1
  have f1 := HS1.out.1.1.1.frozen 1
  have i0 : (0 : Int) ≤ (a : Int) := by omega
  have HM1 : Hid (DocV W (w1.setCell ⟨W.heap.size, 1, none⟩ (.int .i64 ((a : Int) + 1))) t (a + 1) n c0 x0 ∧ ListD W.heap.size (w1.setCell ⟨W.heap.size, 1, none⟩ (.int .i64 ((a : Int) + 1))) (.slice none 0 0) []) := Lib.hid ⟨HS1.out.1.moves (b := a + 1) (by omega), HS1.out.2.keep ((Above.refl _ w1).set (.inl (by show W.heap.size < W.heap.size + 3; omega)) _)⟩
  go_upto_region 7 with fail
  obtain ⟨w2, hw2⟩ : ∃ w2, w1.setCell ⟨W.heap.size, 1, none⟩ (.int .i64 ((a : Int) + 1)) = w2 := ⟨_, rfl⟩
  rw [hw2] at HM1 ⊢
  have HS2 := Lib.hid HM1.out
  clear HM1 hw2 k1 f1 HS1
  have HBl := Lib.hid (rblanks_any (a := a + 1) (n := n) (c := c0) (x := x0) HS2.out.1.1.2.2.2 hs w2)
  have k0 := HS2.out.1.1.1.cell 0
  have k1 := HS2.out.1.1.1.cell 1
  have k2 := HS2.out.1.1.1.cell 2
  have k3 := HS2.out.1.1.1.cell 3
  have k4 := HS2.out.1.1.1.cell 4
  go_wp2_with fail
  go_at_call 26; refine HBl.out.mono ?_; rintro e wb ⟨b, rfl, hsk, hbtb, hbw⟩
  have HSKb := Lib.hid hsk
  have h1 := HS2.out.1.below hbw
  have h2 := h1.puts (b := b) (n' := n) (c' := c0) (x' := x0) hbtb
  have h3 := HS2.out.2.keep (((Above.refl _ w2).call hbw).set5 (B := W.heap.size) (.inl (by omega)) (.string t) (.int .i64 (b : Int)) (.int .i64 (n : Int)) (.int .i64 (c0 : Int)) (.int .i64 (x0 : Int)))
  have f0 := h1.1.1.frozen 0
  have f1 := h1.1.1.frozen 1
  have f2 := h1.1.1.frozen 2
  have f3 := h1.1.1.frozen 3
  have f4 := h1.1.1.frozen 4
  have HH := Lib.hid (And.intro h2 h3)
  clear k0 k1 k2 k3 k4 hsk HBl h2 h3
  have k0 := h1.1.1.cell 0
  have k1 := h1.1.1.cell 1
  have k2 := h1.1.1.cell 2
  have k3 := h1.1.1.cell 3
  have k4 := h1.1.1.cell 4
  clear h1 hbw
  go_upto_region 8 with fail
  obtain ⟨w3, hw2⟩ : ∃ w3, (((((wb.setCell ⟨W.heap.size, 0, none⟩ (.string t)).setCell ⟨W.heap.size, 1, none⟩ (.int .i64 (b : Int))).setCell ⟨W.heap.size, 2, none⟩ (.int .i64 (n : Int))).setCell ⟨W.heap.size, 3, none⟩ (.int .i64 (c0 : Int))).setCell ⟨W.heap.size, 4, none⟩ (.int .i64 (x0 : Int))) = w3 := ⟨_, rfl⟩
  rw [hw2] at HH ⊢
  have HS3 := Lib.hid HH.out
  clear HH hw2 f0 f1 f2 f3 f4 k0 k1 k2 k3 k4
  obtain ⟨z, hz⟩ : ∃ z, headZ (rest t b) = z := ⟨_, rfl⟩
  obtain ⟨zl, zh⟩ := hz ▸ headZ_bound (rest t b)
  have HZ := Lib.hid hz
  have HSKP : Hid (skipB ((rest t a).drop 1) = rest t b) := Lib.hid (by rw [HSKb.out, ← rest_add])
  clear hz HSKb HS2
  have HCz := Lib.hid (show Calls Tryz.prog 45 #[stV t b n c0 x0] w3 (fun e w' => e = .returned (.int .i64 z) ∧ Below w3.heap.size w3 w') from HZ.out ▸ rc_any (a := b) (n := n) (c := c0) (x := x0) HS3.out.1.1.2.2.2 hs w3)
  have k0 := HS3.out.1.1.1.cell 0
  have k1 := HS3.out.1.1.1.cell 1
  have k2 := HS3.out.1.1.1.cell 2
  have k3 := HS3.out.1.1.1.cell 3
  have k4 := HS3.out.1.1.1.cell 4
  go_wp2_with fail
  go_at_call 45; refine HCz.out.mono ?_; rintro e w4 ⟨rfl, hbz⟩
  have HS4 := Lib.hid (And.intro (HS3.out.1.below hbz) (HS3.out.2.keep ((Above.refl _ w3).call hbz)))
  clear hbz HCz k0 k1 k2 k3 k4
  by_cases h93 : z = 93
  · have e93 : (z == 93) = true := by simp [h93]
    have HG : Hid (Going t c0 x0 X (.ok (([] : List VT), (rest t b).drop 1, n)) True c0 x0) := Lib.hid (.inl ⟨rfl, rfl, by rw [← HX.out]; unfold eachJ; rw [HSKP.out, if_pos (pre_is (q := 93) (HZ.out.trans h93))], trivial⟩)
    have hbt2 : b < t.size := by
      obtain ⟨r, hr⟩ := head_is (q := 93) (HZ.out.trans h93)
      have := rest_length (t := t) (a := b)
      rw [hr] at this
      simp at this
      omega
    clear h93
    have k1 := HS4.out.1.1.1.cell 1
    have f1 := HS4.out.1.1.1.frozen 1
    have i9 : (0 : Int) ≤ (b : Int) := by omega
    have HM1 : Hid (DocV W (w4.setCell ⟨W.heap.size, 1, none⟩ (.int .i64 ((b : Int) + 1))) t (b + 1) n c0 x0 ∧ ListD W.heap.size (w4.setCell ⟨W.heap.size, 1, none⟩ (.int .i64 ((b : Int) + 1))) (.slice none 0 0) []) := Lib.hid ⟨HS4.out.1.moves (b := b + 1) (by omega), HS4.out.2.keep ((Above.refl _ w4).set (.inl (by show W.heap.size < W.heap.size + 3; omega)) _)⟩
    go_upto_region 10 with fail
    obtain ⟨w9, hw9⟩ : ∃ w9, w4.setCell ⟨W.heap.size, 1, none⟩ (.int .i64 ((b : Int) + 1)) = w9 := ⟨_, rfl⟩
    rw [hw9] at HM1 ⊢
    clear hw9 k1 f1
    have k0 := HM1.out.1.1.1.cell 0
    have k1 := HM1.out.1.1.1.cell 1
    have k2 := HM1.out.1.1.1.cell 2
    have k3 := HM1.out.1.1.1.cell 3
    have k4 := HM1.out.1.1.1.cell 4
    have v0 := HM1.out.2.box.cell 0
    have v1 := HM1.out.2.box.cell 1
    have v2 := HM1.out.2.box.cell 2
    have v3 := HM1.out.2.box.cell 3
    have v4 := HM1.out.2.box.cell 4
    have q0 := HM1.out.1.1.2.1.cell 0
    have q1 := HM1.out.1.1.2.1.cell 1
    have q2 := HM1.out.1.1.2.1.cell 2
    have q3 := HM1.out.1.1.2.1.cell 3
    have q4 := HM1.out.1.1.2.1.cell 4
    have g0 := HM1.out.1.1.2.1.frozen 0
    have g1 := HM1.out.1.1.2.1.frozen 1
    have g2 := HM1.out.1.1.2.1.frozen 2
    have g3 := HM1.out.1.1.2.1.frozen 3
    have g4 := HM1.out.1.1.2.1.frozen 4
    have p0 := HM1.out.1.2.cell 0
    have p1 := HM1.out.1.2.cell 1
    have p2 := HM1.out.1.2.cell 2
    have p3 := HM1.out.1.2.cell 3
    have p4 := HM1.out.1.2.cell 4
    have h0 := HM1.out.1.2.frozen 0
    have h1 := HM1.out.1.2.frozen 1
    have h2 := HM1.out.1.2.frozen 2
    have h3 := HM1.out.1.2.frozen 3
    have h4 := HM1.out.1.2.frozen 4
    go_region
    go_wp2_with fail
    have hqe := (HM1.out.1).ends (.string t) (.int .i64 ((b : Int) + 1)) (.int .i64 (n : Int)) (.int .i64 (c0 : Int)) (.int .i64 (x0 : Int)) (.int .i64 5) (.bool false) (.string ⟨#[]⟩) (.slice none 0 0) (.slice none 0 0)
    have r0 := hqe.1.cell 0
    have r1 := hqe.1.cell 1
    have r2 := hqe.1.cell 2
    have r3 := hqe.1.cell 3
    have r4 := hqe.1.cell 4
    have s0 := hqe.2.1.cell 0
    have s1 := hqe.2.1.cell 1
    have s2 := hqe.2.1.cell 2
    have s3 := hqe.2.1.cell 3
    have s4 := hqe.2.1.cell 4
    have HEND := Lib.hid hqe.2.2
    clear hqe
    have hab := (((Above.refl (W.heap.size + 3) w9).set5 (B := W.heap.size + 1) (.inl (by omega)) (.string t) (.int .i64 ((b : Int) + 1)) (.int .i64 (n : Int)) (.int .i64 (c0 : Int)) (.int .i64 (x0 : Int))).set5 (B := W.heap.size + 1 + 1) (.inl (by omega)) (.int .i64 5) (.bool false) (.string ⟨#[]⟩) (.slice none 0 0) (.slice none 0 0)).call (below_drew _)
    have HFR := Lib.hid ((HM1.out.2.keep hab).fresh (lo := W.heap.size) (by omega) (by simp))
    clear hab
    refine bodyPost_ret (by simp [results, Tryz.results50, go_sem, r0, r1, r2, r3, r4, s0, s1, s2, s3, s4]; try rfl) rfl ?_
    exact HG.out.done (b := b + 1) (fun hXX _ => by rw [hXX]; rfl) (rest_add _ _ _) (by omega) hn listR_err HEND.out.drew HFR.out
  have e93 : (z == 93) = false := by simp [h93]
  have HG0 : Hid (Going t c0 x0 X (seqJ (itemJ (valD e)) 93 (t.size - a) (([] : List It).map It.T) (rest t b) n) (([] : List It).length ≤ n ∧ (rest t b).length < t.size - a) c0 x0) := Lib.hid (.inl ⟨rfl, rfl, by rw [← HX.out]; unfold eachJ; rw [HSKP.out, if_neg (by rw [pre_not (q := 93) (fun e => h93 (HZ.out.symm.trans e))]; decide), rest_length]; rfl, Nat.zero_le _, by
    have h1 := skipB_le ((rest t a).drop 1)
    rw [HSKP.out, ← rest_add, rest_length, rest_length] at h1
    rw [rest_length]
    omega⟩)
  clear h93 HSKP HX
  go_wp2_with fail
  go_loopg [] (t.size - a) (fun gf wx => ∃ (b n c x f : Nat) (ad : Option Addr) (cap : Nat) (yy : List It), Hid (DocV W wx t b n c x ∧ ListD W.heap.size wx (.slice ad yy.length cap) yy) ∧ n ≤ 2000 ∧ yy.length ≤ 2001 ∧ f ≤ gf ∧ Hid (Going t c0 x0 X (seqJ (itemJ (valD e)) 93 f (yy.map It.T) (rest t b) n) (yy.length ≤ n ∧ (rest t b).length < f) c x))
  case atStart => exact ⟨b, n, c0, x0, t.size - a, none, 0, [], HS4, hn, by simp, Nat.le_refl _, HG0⟩
  case round =>
    obtain ⟨b1, n1, c1, x1, f, ad, cap, yy, HR, hn1, hy1, hf, HG⟩ := hrel
    clear HG0 HS4 HS3
    by_cases hc : c1 = 0
    · obtain ⟨hc1, hx1, hX1, hP1⟩ : c1 = c0 ∧ x1 = x0 ∧ X = seqJ (itemJ (valD e)) 93 f (yy.map It.T) (rest t b1) n1 ∧ (yy.length ≤ n1 ∧ (rest t b1).length < f) := by
        rcases HG.out with h | ⟨h, -⟩
        · exact h
        · exact absurd hc h
      subst hc1 hx1
      obtain ⟨f1, rfl⟩ : ∃ f1, f = f1 + 1 := ⟨f - 1, by omega⟩
      obtain ⟨g', rfl⟩ : ∃ g', gk = g' + 1 := ⟨gk - 1, by omega⟩
      have HX1 := Lib.hid hX1
      have HP1 := Lib.hid hP1
      have e0 : ((c1 : Int) == 0) = true := by simp [hc]
      have hb1 := HR.out.1.1.2.2.2
      have HVAL := Lib.hid (fun w => HV.out w b1 n1 hb1 hn1)
      clear hX1 hP1 hc HG
      have k0 := HR.out.1.1.1.cell 0
      have k1 := HR.out.1.1.1.cell 1
      have k2 := HR.out.1.1.1.cell 2
      have k3 := HR.out.1.1.1.cell 3
      have k4 := HR.out.1.1.1.cell 4
      have hwx : Above (W.heap.size + 3) wr (wr.alloc (.cells #[.int .i64 0, .bool false, .string ⟨#[]⟩, .slice none 0 0, .slice none 0 0] 26)) := (Above.refl _ wr).alloc _
      have HR2 : Hid ((DocV W (wr.alloc (.cells #[.int .i64 0, .bool false, .string ⟨#[]⟩, .slice none 0 0, .slice none 0 0] 26)) t b1 n1 c1 x1 ∧ ListD W.heap.size (wr.alloc (.cells #[.int .i64 0, .bool false, .string ⟨#[]⟩, .slice none 0 0, .slice none 0 0] 26)) (.slice ad yy.length cap) yy) ∧ Blk (wr.alloc (.cells #[.int .i64 0, .bool false, .string ⟨#[]⟩, .slice none 0 0, .slice none 0 0] 26)) wr.heap.size #[.int .i64 0, .bool false, .string ⟨#[]⟩, .slice none 0 0, .slice none 0 0] 26 ∧ Below wr.heap.size wr (wr.alloc (.cells #[.int .i64 0, .bool false, .string ⟨#[]⟩, .slice none 0 0, .slice none 0 0] 26))) := Lib.hid ⟨⟨HR.out.1.below (below_new0 _ _), HR.out.2.keep hwx⟩, Blk.new _ _ _, below_new0 _ _⟩
      clear hwx
      go_upto_region 26 with fail
      obtain ⟨wx1, hwx1⟩ : ∃ wx1, wr.alloc (.cells #[.int .i64 0, .bool false, .string ⟨#[]⟩, .slice none 0 0, .slice none 0 0] 26) = wx1 := ⟨_, rfl⟩
      rw [hwx1] at HR2 ⊢
      clear hwx1 k0 k1 k2 k3 k4
      obtain ⟨xb, hxb⟩ : ∃ xb, wr.heap.size = xb := ⟨_, rfl⟩
      rw [hxb] at HR2 ⊢
      have HXB := Lib.hid hxb
      clear hxb
      have k0 := HR2.out.1.1.1.1.cell 0
      have k1 := HR2.out.1.1.1.1.cell 1
      have k2 := HR2.out.1.1.1.1.cell 2
      have k3 := HR2.out.1.1.1.1.cell 3
      have k4 := HR2.out.1.1.1.1.cell 4
      go_wp2_with fail
      go_at_call 25; refine (HVAL.out _).mono ?_
      intro e8 w8 hv8
      obtain ⟨hb8, b8, n8, k8, x8, v8, T8, rfl, hF8, hbt8, hn8, hG8⟩ := hv8.going
      obtain ⟨vk, vb, vt, vad, vn, vcap, vadk, vnk, vcapk, rfl⟩ := hF8.shape
      obtain ⟨ex, hex⟩ : ∃ ex : It, ex = It.mk vk vb vt (.slice vad vn vcap) (.slice vadk vnk vcapk) T8 := ⟨_, rfl⟩
      have HEX : Hid (ex.cells = [.int .i64 vk, .bool vb, .string vt, .slice vad vn vcap, .slice vadk vnk vcapk] ∧ ex.T = T8) := Lib.hid (by rw [hex]; exact ⟨rfl, rfl⟩)
      have hxl : W.heap.size + 3 < xb := by have := HR.out.2.box.lt; have := HXB.out; omega
      have hxw := HR2.out.2.1.lt
      have hd8 := HR2.out.1.1.below hb8
      have hl8 := HR2.out.2.1.below hb8
      have HA : Hid ((DocV W ((((((((((w8.setCell ⟨W.heap.size, 0, none⟩ (.string t)).setCell ⟨W.heap.size, 1, none⟩ (.int .i64 (b8 : Int))).setCell ⟨W.heap.size, 2, none⟩ (.int .i64 (n8 : Int))).setCell ⟨W.heap.size, 3, none⟩ (.int .i64 (k8 : Int))).setCell ⟨W.heap.size, 4, none⟩ (.int .i64 (x8 : Int))).setCell ⟨xb, 0, none⟩ (.int .i64 vk)).setCell ⟨xb, 1, none⟩ (.bool vb)).setCell ⟨xb, 2, none⟩ (.string vt)).setCell ⟨xb, 3, none⟩ (.slice vad vn vcap)).setCell ⟨xb, 4, none⟩ (.slice vadk vnk vcapk)) t b8 n8 k8 x8 ∧ ListD W.heap.size ((((((((((w8.setCell ⟨W.heap.size, 0, none⟩ (.string t)).setCell ⟨W.heap.size, 1, none⟩ (.int .i64 (b8 : Int))).setCell ⟨W.heap.size, 2, none⟩ (.int .i64 (n8 : Int))).setCell ⟨W.heap.size, 3, none⟩ (.int .i64 (k8 : Int))).setCell ⟨W.heap.size, 4, none⟩ (.int .i64 (x8 : Int))).setCell ⟨xb, 0, none⟩ (.int .i64 vk)).setCell ⟨xb, 1, none⟩ (.bool vb)).setCell ⟨xb, 2, none⟩ (.string vt)).setCell ⟨xb, 3, none⟩ (.slice vad vn vcap)).setCell ⟨xb, 4, none⟩ (.slice vadk vnk vcapk)) (.slice ad yy.length cap) yy) ∧ Blk ((((((((((w8.setCell ⟨W.heap.size, 0, none⟩ (.string t)).setCell ⟨W.heap.size, 1, none⟩ (.int .i64 (b8 : Int))).setCell ⟨W.heap.size, 2, none⟩ (.int .i64 (n8 : Int))).setCell ⟨W.heap.size, 3, none⟩ (.int .i64 (k8 : Int))).setCell ⟨W.heap.size, 4, none⟩ (.int .i64 (x8 : Int))).setCell ⟨xb, 0, none⟩ (.int .i64 vk)).setCell ⟨xb, 1, none⟩ (.bool vb)).setCell ⟨xb, 2, none⟩ (.string vt)).setCell ⟨xb, 3, none⟩ (.slice vad vn vcap)).setCell ⟨xb, 4, none⟩ (.slice vadk vnk vcapk)) xb #[.int .i64 vk, .bool vb, .string vt, .slice vad vn vcap, .slice vadk vnk vcapk] 26 ∧ FarIt (W.heap.size + 3) ((((((((((w8.setCell ⟨W.heap.size, 0, none⟩ (.string t)).setCell ⟨W.heap.size, 1, none⟩ (.int .i64 (b8 : Int))).setCell ⟨W.heap.size, 2, none⟩ (.int .i64 (n8 : Int))).setCell ⟨W.heap.size, 3, none⟩ (.int .i64 (k8 : Int))).setCell ⟨W.heap.size, 4, none⟩ (.int .i64 (x8 : Int))).setCell ⟨xb, 0, none⟩ (.int .i64 vk)).setCell ⟨xb, 1, none⟩ (.bool vb)).setCell ⟨xb, 2, none⟩ (.string vt)).setCell ⟨xb, 3, none⟩ (.slice vad vn vcap)).setCell ⟨xb, 4, none⟩ (.slice vadk vnk vcapk)) (.slice none 0 0) (.slice ad yy.length cap) ex) := Lib.hid (by
        have hAb : Above (W.heap.size + 3) wr w8 := ((Above.refl _ wr).call (by rw [HXB.out]; exact HR2.out.2.2)).call hb8
        refine ⟨⟨(hd8.puts (b := b8) (n' := n8) (c' := k8) (x' := x8) hbt8).low (below_set5 (Below.refl _ _) (by omega) _ _ _ _ _), HR.out.2.keep ((hAb.set5 (B := W.heap.size) (.inl (by omega)) _ _ _ _ _).set5 (B := xb) (.inr (by have := HXB.out; omega)) _ _ _ _ _)⟩, (hl8.other5 (by omega) _ _ _ _ _).set5 _ _ _ _ _, ?_⟩
        refine ⟨wx1.heap.size, w8.heap.size, by omega, by simp, ?_, (fun q e => (by cases e)), (fun q e => .inl ?_)⟩
        · rw [hex]
          exact hF8.keep (fun q h1 h2 => by rw [heap5 _ (by omega), heap5 _ (by omega)]) (Nat.le_refl _) (Nat.le_refl _)
        · have := HR.out.2.base q e
          have := HXB.out
          omega)
      have HGI : Hid (Going t c1 x1 X (tailJ (itemJ (valD e)) 93 f1 ((yy ++ [ex]).map It.T) (rest t b8) n8) ((yy ++ [ex]).length ≤ n8 ∧ (rest t b8).length ≤ f1) k8 x8) := Lib.hid (by
        have h := Going.item (st := yy.map It.T) HX1.out (by rw [List.length_map]; exact HP1.out) hG8
        rw [List.map_append, List.map_cons, List.map_nil, HEX.out.2]
        simpa using h)
      have hyn : yy.length ≤ 2000 := by have := HP1.out; omega
      clear HX1 HP1 hex
      clear k0 k1 k2 k3 k4
      have k0 := hd8.1.1.cell 0
      have k1 := hd8.1.1.cell 1
      have k2 := hd8.1.1.cell 2
      have k3 := hd8.1.1.cell 3
      have k4 := hd8.1.1.cell 4
      have f0 := hd8.1.1.frozen 0
      have f1' := hd8.1.1.frozen 1
      have f2 := hd8.1.1.frozen 2
      have f3 := hd8.1.1.frozen 3
      have f4 := hd8.1.1.frozen 4
      have u0 := hl8.cell 0
      have u1 := hl8.cell 1
      have u2 := hl8.cell 2
      have u3 := hl8.cell 3
      have u4 := hl8.cell 4
      have y0 := hl8.frozen 0
      have y1 := hl8.frozen 1
      have y2 := hl8.frozen 2
      have y3 := hl8.frozen 3
      have y4 := hl8.frozen 4
      clear hb8 hF8 hG8 hv8 hd8 hl8 HVAL HR HR2 hxw HXB
      go_upto_region 29 with fail
      obtain ⟨w9, hw9⟩ : ∃ w9, ((((((((((w8.setCell ⟨W.heap.size, 0, none⟩ (.string t)).setCell ⟨W.heap.size, 1, none⟩ (.int .i64 (b8 : Int))).setCell ⟨W.heap.size, 2, none⟩ (.int .i64 (n8 : Int))).setCell ⟨W.heap.size, 3, none⟩ (.int .i64 (k8 : Int))).setCell ⟨W.heap.size, 4, none⟩ (.int .i64 (x8 : Int))).setCell ⟨xb, 0, none⟩ (.int .i64 vk)).setCell ⟨xb, 1, none⟩ (.bool vb)).setCell ⟨xb, 2, none⟩ (.string vt)).setCell ⟨xb, 3, none⟩ (.slice vad vn vcap)).setCell ⟨xb, 4, none⟩ (.slice vadk vnk vcapk)) = w9 := ⟨_, rfl⟩
      rw [hw9] at HA ⊢
      clear hw9 k0 k1 k2 k3 k4 f0 f1' f2 f3 f4 u0 u1 u2 u3 u4 y0 y1 y2 y3 y4
      have e0 := HA.out.2.1.cell 0
      have e1 := HA.out.2.1.cell 1
      have e2 := HA.out.2.1.cell 2
      have e3 := HA.out.2.1.cell 3
      have e4 := HA.out.2.1.cell 4
      have c3q := HA.out.1.2.box.cell 3
      have f3q := (HA.out.1.2.box.alloc (.cells #[.int .i64 vk, .bool vb, .string vt, .slice vad vn vcap, .slice vadk vnk vcapk] 26)).frozen 3
      have c3aq := (HA.out.1.2.box.alloc (.cells #[.int .i64 vk, .bool vb, .string vt, .slice vad vn vcap, .slice vadk vnk vcapk] 26)).cell 3
      have hrowq := HA.out.1.2.row.alloc (.cells #[.int .i64 vk, .bool vb, .string vt, .slice vad vn vcap, .slice vadk vnk vcapk] 26)
      have hblkq := World.alloc_heap_new w9 (.cells #[.int .i64 vk, .bool vb, .string vt, .slice vad vn vcap, .slice vadk vnk vcapk] 26)
      have hleq := HA.out.1.2.box.lt
      go_wp2_with (at_builtin; refine wpList_append_lies _ rfl (.tmp 94) (.tmp 96) 23 rfl (W.heap.size + 4) 26 iV zV 5 80 Tryz.underlying23 hiV hzV hsV hbV (by rw [hzV5]; rfl) (by decide) _ _ _ rfl hrowq ⟨w9.heap.size, 0, none⟩ 1 1 [.int .i64 vk, .bool vb, .string vt, .slice vad vn vcap, .slice vadk vnk vcapk] rfl rfl (World.news_of_block hblkq) (by intro u hu; simp at hu; rcases hu with rfl | rfl | rfl | rfl | rfl <;> rfl) (by decide) (by unfold maxLen; omega) (by omega) (by simp; omega) _ rfl ?_; intro gg2 cap2 w10 hown hgrow hat hlt; have hbx3 := (HA.out.1.2.box.alloc (.cells #[.int .i64 vk, .bool vb, .string vt, .slice vad vn vcap, .slice vadk vnk vcapk] 26)).grows hgrow (fun e => by have := HA.out.1.2.base _ e.symm; omega); have c33 := hbx3.cell 3; have f33 := hbx3.frozen 3; refine Hid.out ?_)
      refine Lib.hid ?_
      have HB : Hid (DocV W (w10.setCell ⟨W.heap.size + 3, 3, none⟩ (.slice (some ⟨gg2, 0, none⟩) (yy.length + 1) cap2)) t b8 n8 k8 x8 ∧ ListD W.heap.size (w10.setCell ⟨W.heap.size + 3, 3, none⟩ (.slice (some ⟨gg2, 0, none⟩) (yy.length + 1) cap2)) (.slice (some ⟨gg2, 0, none⟩) (yy.length + 1) cap2) (yy ++ [ex])) := Lib.hid ⟨HA.out.1.1.grown hgrow (fun q e => by have := HA.out.1.2.base q e; omega) _, HA.out.1.2.append HA.out.2.2 (by rw [HEX.out.1]; exact hown) hgrow hat⟩
      clear e0 e1 e2 e3 e4 c3q hrowq hblkq hgrow hown hat hlt HA hbx3 f3q c3aq
      go_upto_region 30 with fail
      obtain ⟨w11, hw11⟩ : ∃ w11, w10.setCell ⟨W.heap.size + 3, 3, none⟩ (.slice (some ⟨gg2, 0, none⟩) (yy.length + 1) cap2) = w11 := ⟨_, rfl⟩
      rw [hw11] at HB ⊢
      clear hw11 c33 f33
      obtain ⟨yz, hyz⟩ : ∃ yz, yy ++ [ex] = yz := ⟨_, rfl⟩
      have hyl : yy.length + 1 = yz.length := by rw [← hyz]; simp
      rw [hyz] at HB HGI
      have HYL := Lib.hid hyl
      have hyn2 : yz.length ≤ 2001 := by omega
      rw [hyl] at HB ⊢
      clear hyl hyz
      have HBl := Lib.hid (rblanks_any (a := b8) (n := n8) (c := k8) (x := x8) HB.out.1.1.2.2.2 hs w11)
      have k0 := HB.out.1.1.1.cell 0
      have k1 := HB.out.1.1.1.cell 1
      have k2 := HB.out.1.1.1.cell 2
      have k3 := HB.out.1.1.1.cell 3
      have k4 := HB.out.1.1.1.cell 4
      go_wp2_with fail
      go_at_call 26; refine HBl.out.mono ?_; rintro e wc ⟨b9, rfl, hsk, hbtb9, hbw⟩
      have HSKb9 := Lib.hid hsk
      have h1 := HB.out.1.below hbw
      have h2 := h1.puts (b := b9) (n' := n8) (c' := k8) (x' := x8) hbtb9
      have h3 := HB.out.2.keep (((Above.refl _ w11).call hbw).set5 (B := W.heap.size) (.inl (by omega)) (.string t) (.int .i64 (b9 : Int)) (.int .i64 (n8 : Int)) (.int .i64 (k8 : Int)) (.int .i64 (x8 : Int)))
      have f0 := h1.1.1.frozen 0
      have f1 := h1.1.1.frozen 1
      have f2 := h1.1.1.frozen 2
      have f3 := h1.1.1.frozen 3
      have f4 := h1.1.1.frozen 4
      have HH := Lib.hid (And.intro h2 h3)
      clear k0 k1 k2 k3 k4 hsk HBl h2 h3
      have k0 := h1.1.1.cell 0
      have k1 := h1.1.1.cell 1
      have k2 := h1.1.1.cell 2
      have k3 := h1.1.1.cell 3
      have k4 := h1.1.1.cell 4
      clear h1 hbw
      go_upto_region 31 with fail
      obtain ⟨w12, hw2⟩ : ∃ w12, (((((wc.setCell ⟨W.heap.size, 0, none⟩ (.string t)).setCell ⟨W.heap.size, 1, none⟩ (.int .i64 (b9 : Int))).setCell ⟨W.heap.size, 2, none⟩ (.int .i64 (n8 : Int))).setCell ⟨W.heap.size, 3, none⟩ (.int .i64 (k8 : Int))).setCell ⟨W.heap.size, 4, none⟩ (.int .i64 (x8 : Int))) = w12 := ⟨_, rfl⟩
      rw [hw2] at HH ⊢
      have HT3 := Lib.hid HH.out
      clear HH hw2 f0 f1 f2 f3 f4 k0 k1 k2 k3 k4
      have HS9 : Hid (skipB (rest t b8) = rest t b9) := Lib.hid HSKb9.out.symm
      obtain ⟨z9, hz9⟩ : ∃ z, headZ (rest t b9) = z := ⟨_, rfl⟩
      obtain ⟨zl9, zh9⟩ := hz9 ▸ headZ_bound (rest t b9)
      clear HZ
      have HZ := Lib.hid hz9
      have hb98 : b9 < t.size → (rest t (b9 + 1)).length < (rest t b8).length := fun h => by
        have h1 := skipB_le (rest t b8)
        rw [HS9.out, rest_length] at h1
        rw [rest_length]
        omega
      have HB98 := Lib.hid hb98
      clear hz9 HSKb9 HB hb98
      have HCz := Lib.hid (show Calls Tryz.prog 45 #[stV t b9 n8 k8 x8] w12 (fun e w' => e = .returned (.int .i64 z9) ∧ Below w12.heap.size w12 w') from HZ.out ▸ rc_any (a := b9) (n := n8) (c := k8) (x := x8) HT3.out.1.1.2.2.2 hs w12)
      have k0 := HT3.out.1.1.1.cell 0
      have k1 := HT3.out.1.1.1.cell 1
      have k2 := HT3.out.1.1.1.cell 2
      have k3 := HT3.out.1.1.1.cell 3
      have k4 := HT3.out.1.1.1.cell 4
      go_wp2_with fail
      go_at_call 45; refine HCz.out.mono ?_; rintro e w13 ⟨rfl, hbz⟩
      have HT4 := Lib.hid (And.intro (HT3.out.1.below hbz) (HT3.out.2.keep ((Above.refl _ w12).call hbz)))
      clear hbz HCz k0 k1 k2 k3 k4
      by_cases h93 : z9 = 93
      · have e93 : (z9 == 93) = true := by simp [h93]
        have HG : Hid (Going t c1 x1 X (.ok (yz.map It.T, (rest t b9).drop 1, n8)) True k8 x8) := Lib.hid (HGI.out.mono (fun hp => ⟨tailJ_end HS9.out (HZ.out.trans h93), trivial⟩))
        have hbt2 : b9 < t.size := by
          obtain ⟨r, hr⟩ := head_is (q := 93) (HZ.out.trans h93)
          have := rest_length (t := t) (a := b9)
          rw [hr] at this
          simp at this
          omega
        clear h93
        have k1 := HT4.out.1.1.1.cell 1
        have f1 := HT4.out.1.1.1.frozen 1
        have i9 : (0 : Int) ≤ (b9 : Int) := by omega
        have HM1 : Hid (DocV W (w13.setCell ⟨W.heap.size, 1, none⟩ (.int .i64 ((b9 : Int) + 1))) t (b9 + 1) n8 k8 x8 ∧ ListD W.heap.size (w13.setCell ⟨W.heap.size, 1, none⟩ (.int .i64 ((b9 : Int) + 1))) (.slice (some ⟨gg2, 0, none⟩) yz.length cap2) yz) := Lib.hid ⟨HT4.out.1.moves (b := b9 + 1) (by omega), HT4.out.2.keep ((Above.refl _ w13).set (.inl (by show W.heap.size < W.heap.size + 3; omega)) _)⟩
        go_upto_region 33 with fail
        obtain ⟨w9, hw9⟩ : ∃ w9, w13.setCell ⟨W.heap.size, 1, none⟩ (.int .i64 ((b9 : Int) + 1)) = w9 := ⟨_, rfl⟩
        rw [hw9] at HM1 ⊢
        clear hw9 k1 f1
        have k0 := HM1.out.1.1.1.cell 0
        have k1 := HM1.out.1.1.1.cell 1
        have k2 := HM1.out.1.1.1.cell 2
        have k3 := HM1.out.1.1.1.cell 3
        have k4 := HM1.out.1.1.1.cell 4
        have v0 := HM1.out.2.box.cell 0
        have v1 := HM1.out.2.box.cell 1
        have v2 := HM1.out.2.box.cell 2
        have v3 := HM1.out.2.box.cell 3
        have v4 := HM1.out.2.box.cell 4
        have q0 := HM1.out.1.1.2.1.cell 0
        have q1 := HM1.out.1.1.2.1.cell 1
        have q2 := HM1.out.1.1.2.1.cell 2
        have q3 := HM1.out.1.1.2.1.cell 3
        have q4 := HM1.out.1.1.2.1.cell 4
        have g0 := HM1.out.1.1.2.1.frozen 0
        have g1 := HM1.out.1.1.2.1.frozen 1
        have g2 := HM1.out.1.1.2.1.frozen 2
        have g3 := HM1.out.1.1.2.1.frozen 3
        have g4 := HM1.out.1.1.2.1.frozen 4
        have p0 := HM1.out.1.2.cell 0
        have p1 := HM1.out.1.2.cell 1
        have p2 := HM1.out.1.2.cell 2
        have p3 := HM1.out.1.2.cell 3
        have p4 := HM1.out.1.2.cell 4
        have h0 := HM1.out.1.2.frozen 0
        have h1 := HM1.out.1.2.frozen 1
        have h2 := HM1.out.1.2.frozen 2
        have h3 := HM1.out.1.2.frozen 3
        have h4 := HM1.out.1.2.frozen 4
        go_region
        go_wp2_with fail
        have hqe := (HM1.out.1).ends (.string t) (.int .i64 ((b9 : Int) + 1)) (.int .i64 (n8 : Int)) (.int .i64 (k8 : Int)) (.int .i64 (x8 : Int)) (.int .i64 5) (.bool false) (.string ⟨#[]⟩) (.slice (some ⟨gg2, 0, none⟩) yz.length cap2) (.slice none 0 0)
        have r0 := hqe.1.cell 0
        have r1 := hqe.1.cell 1
        have r2 := hqe.1.cell 2
        have r3 := hqe.1.cell 3
        have r4 := hqe.1.cell 4
        have s0 := hqe.2.1.cell 0
        have s1 := hqe.2.1.cell 1
        have s2 := hqe.2.1.cell 2
        have s3 := hqe.2.1.cell 3
        have s4 := hqe.2.1.cell 4
        have HEND := Lib.hid hqe.2.2
        clear hqe
        have hab := (((Above.refl (W.heap.size + 3) w9).set5 (B := W.heap.size + 1) (.inl (by omega)) (.string t) (.int .i64 ((b9 : Int) + 1)) (.int .i64 (n8 : Int)) (.int .i64 (k8 : Int)) (.int .i64 (x8 : Int))).set5 (B := W.heap.size + 1 + 1) (.inl (by omega)) (.int .i64 5) (.bool false) (.string ⟨#[]⟩) (.slice (some ⟨gg2, 0, none⟩) yz.length cap2) (.slice none 0 0)).call (below_drew _)
        have HFR := Lib.hid ((HM1.out.2.keep hab).fresh (lo := W.heap.size) (by omega) (by omega))
        clear hab
        refine bodyPost_ret (by simp [results, Tryz.results50, go_sem, r0, r1, r2, r3, r4, s0, s1, s2, s3, s4]; try rfl) rfl ?_
        exact HG.out.done (b := b9 + 1) (fun hXX _ => by rw [hXX]; rfl) (rest_add _ _ _) (by omega) hn8 listR_err HEND.out.drew HFR.out
      have e93' : (z9 == 93) = false := by simp [h93]
      have HCz := Lib.hid (show Calls Tryz.prog 45 #[stV t b9 n8 k8 x8] w13 (fun e w' => e = .returned (.int .i64 z9) ∧ Below w13.heap.size w13 w') from HZ.out ▸ rc_any (a := b9) (n := n8) (c := k8) (x := x8) HT4.out.1.1.2.2.2 hs w13)
      have k0 := HT4.out.1.1.1.cell 0
      have k1 := HT4.out.1.1.1.cell 1
      have k2 := HT4.out.1.1.1.cell 2
      have k3 := HT4.out.1.1.1.cell 3
      have k4 := HT4.out.1.1.1.cell 4
      go_wp2_with fail
      go_at_call 45; refine HCz.out.mono ?_; rintro e w14 ⟨rfl, hbz⟩
      have HT5 := Lib.hid (And.intro (HT4.out.1.below hbz) (HT4.out.2.keep ((Above.refl _ w13).call hbz)))
      clear hbz HCz k0 k1 k2 k3 k4
      by_cases h44 : z9 = 44
      · have e44 : (z9 != 44) = false := by simp [h44]
        have hbt2 : b9 < t.size := by
          obtain ⟨r, hr⟩ := head_is (q := 44) (HZ.out.trans h44)
          have := rest_length (t := t) (a := b9)
          rw [hr] at this
          simp at this
          omega
        have HGN : Hid (Going t c1 x1 X (seqJ (itemJ (valD e)) 93 f1 (yz.map It.T) (rest t (b9 + 1)) n8) (yz.length ≤ n8 ∧ (rest t (b9 + 1)).length < f1) k8 x8) := Lib.hid (HGI.out.mono (fun hp => ⟨by rw [tailJ_more (q := 93) HS9.out (fun e => h93 (HZ.out.symm.trans e)) (HZ.out.trans h44), ← rest_add], hp.1, by have := HB98.out hbt2; have := hp.2; omega⟩))
        clear h44 h93
        have k1 := HT5.out.1.1.1.cell 1
        have f1' := HT5.out.1.1.1.frozen 1
        have i9 : (0 : Int) ≤ (b9 : Int) := by omega
        have HM1 : Hid (DocV W (w14.setCell ⟨W.heap.size, 1, none⟩ (.int .i64 ((b9 : Int) + 1))) t (b9 + 1) n8 k8 x8 ∧ ListD W.heap.size (w14.setCell ⟨W.heap.size, 1, none⟩ (.int .i64 ((b9 : Int) + 1))) (.slice (some ⟨gg2, 0, none⟩) yz.length cap2) yz) := Lib.hid ⟨HT5.out.1.moves (b := b9 + 1) (by omega), HT5.out.2.keep ((Above.refl _ w14).set (.inl (by show W.heap.size < W.heap.size + 3; omega)) _)⟩
        go_wp2_with fail
        go_roundg g'
        case measure => omega
        case rel => exact ⟨b9 + 1, n8, k8, x8, f1, some ⟨gg2, 0, none⟩, cap2, yz, HM1, hn8, hyn2, by omega, HGN⟩
      have e44 : (z9 != 44) = true := by simp [h44]
      have HGF : Hid (Going t c1 x1 X (.error (30, t.size - b9)) True k8 x8) := Lib.hid (HGI.out.mono (fun hp => ⟨by rw [tailJ_bad (q := 93) HS9.out (fun e => h93 (HZ.out.symm.trans e)) (fun e => h44 (HZ.out.symm.trans e)), rest_length], trivial⟩))
      clear h44 h93
      obtain ⟨k', y', hfe, hk', hk2'⟩ := fail_both (t := t) (a := b9) (n := n8) (c := k8) (x := x8) 30 b9
      have HF : Hid (Calls Tryz.prog 27 #[stV t b9 n8 k8 x8, .int .i64 30, .int .i64 (b9 : Int)] w14 (fun e w' => e = .returned (stV t b9 n8 k' y') ∧ Below w14.heap.size w14 w')) := Lib.hid (by
        have h := rfail_any (t := t) (a := b9) (n := n8) (c := k8) (x := x8) (k := 30) (y := b9) w14
        rw [hfe] at h
        exact h)
      have HK := Lib.hid (And.intro hk' hk2')
      clear hfe hk' hk2'
      have k0 := HT5.out.1.1.1.cell 0
      have k1 := HT5.out.1.1.1.cell 1
      have k2 := HT5.out.1.1.1.cell 2
      have k3 := HT5.out.1.1.1.cell 3
      have k4 := HT5.out.1.1.1.cell 4
      go_wp2_with (go_at_call 27; refine HF.out.mono ?_; rintro e wf ⟨rfl, hbf⟩; refine Hid.out ?_)
      refine Lib.hid ?_
      have HVf := Lib.hid (And.intro (HT5.out.1.below hbf) (HT5.out.2.keep ((Above.refl _ w14).call hbf)))
      clear hbf k0 k1 k2 k3 k4 HF
      have q0 := HVf.out.1.1.2.1.cell 0
      have q1 := HVf.out.1.1.2.1.cell 1
      have q2 := HVf.out.1.1.2.1.cell 2
      have q3 := HVf.out.1.1.2.1.cell 3
      have q4 := HVf.out.1.1.2.1.cell 4
      have g0 := HVf.out.1.1.2.1.frozen 0
      have g1 := HVf.out.1.1.2.1.frozen 1
      have g2 := HVf.out.1.1.2.1.frozen 2
      have g3 := HVf.out.1.1.2.1.frozen 3
      have g4 := HVf.out.1.1.2.1.frozen 4
      have p0 := HVf.out.1.2.cell 0
      have p1 := HVf.out.1.2.cell 1
      have p2 := HVf.out.1.2.cell 2
      have p3 := HVf.out.1.2.cell 3
      have p4 := HVf.out.1.2.cell 4
      have h0 := HVf.out.1.2.frozen 0
      have h1 := HVf.out.1.2.frozen 1
      have h2 := HVf.out.1.2.frozen 2
      have h3 := HVf.out.1.2.frozen 3
      have h4 := HVf.out.1.2.frozen 4
      go_wp2_with fail
      have hqe := (HVf.out.1).ends (.string t) (.int .i64 (b9 : Int)) (.int .i64 (n8 : Int)) (.int .i64 (k' : Int)) (.int .i64 (y' : Int)) (.int .i64 0) (.bool false) (.string ⟨#[]⟩) (.slice none 0 0) (.slice none 0 0)
      have r0 := hqe.1.cell 0
      have r1 := hqe.1.cell 1
      have r2 := hqe.1.cell 2
      have r3 := hqe.1.cell 3
      have r4 := hqe.1.cell 4
      have s0 := hqe.2.1.cell 0
      have s1 := hqe.2.1.cell 1
      have s2 := hqe.2.1.cell 2
      have s3 := hqe.2.1.cell 3
      have s4 := hqe.2.1.cell 4
      have HEND := Lib.hid hqe.2.2
      clear hqe
      refine bodyPost_ret (by simp [results, Tryz.results50, go_sem, r0, r1, r2, r3, r4, s0, s1, s2, s3, s4]; try rfl) rfl ?_
      exact HGF.out.fails H0.out HK.out.1 HK.out.2 rfl HVf.out.1.1.2.2.2 (by omega) listR_err HEND.out (nil_is _ _ _)
    · have e0 : ((c1 : Int) == 0) = false := by simp; omega
      have HC := Lib.hid hc
      clear hc
      have k0 := HR.out.1.1.1.cell 0
      have k1 := HR.out.1.1.1.cell 1
      have k2 := HR.out.1.1.1.cell 2
      have k3 := HR.out.1.1.1.cell 3
      have k4 := HR.out.1.1.1.cell 4
      have q0 := HR.out.1.1.2.1.cell 0
      have q1 := HR.out.1.1.2.1.cell 1
      have q2 := HR.out.1.1.2.1.cell 2
      have q3 := HR.out.1.1.2.1.cell 3
      have q4 := HR.out.1.1.2.1.cell 4
      have g0 := HR.out.1.1.2.1.frozen 0
      have g1 := HR.out.1.1.2.1.frozen 1
      have g2 := HR.out.1.1.2.1.frozen 2
      have g3 := HR.out.1.1.2.1.frozen 3
      have g4 := HR.out.1.1.2.1.frozen 4
      have p0 := HR.out.1.2.cell 0
      have p1 := HR.out.1.2.cell 1
      have p2 := HR.out.1.2.cell 2
      have p3 := HR.out.1.2.cell 3
      have p4 := HR.out.1.2.cell 4
      have h0 := HR.out.1.2.frozen 0
      have h1 := HR.out.1.2.frozen 1
      have h2 := HR.out.1.2.frozen 2
      have h3 := HR.out.1.2.frozen 3
      have h4 := HR.out.1.2.frozen 4
      go_wp2_with fail
      have hqe := (HR.out.1).ends (.string t) (.int .i64 (b1 : Int)) (.int .i64 (n1 : Int)) (.int .i64 (c1 : Int)) (.int .i64 (x1 : Int)) (.int .i64 0) (.bool false) (.string ⟨#[]⟩) (.slice none 0 0) (.slice none 0 0)
      have r0 := hqe.1.cell 0
      have r1 := hqe.1.cell 1
      have r2 := hqe.1.cell 2
      have r3 := hqe.1.cell 3
      have r4 := hqe.1.cell 4
      have s0 := hqe.2.1.cell 0
      have s1 := hqe.2.1.cell 1
      have s2 := hqe.2.1.cell 2
      have s3 := hqe.2.1.cell 3
      have s4 := hqe.2.1.cell 4
      have HEND := Lib.hid hqe.2.2
      clear hqe
      refine bodyPost_ret (by simp [results, Tryz.results50, go_sem, r0, r1, r2, r3, r4, s0, s1, s2, s3, s4]; try rfl) rfl ?_
      exact HG.out.wrong H0.out HC.out HR.out.1.1.2.2.2 hn1 listR_err HEND.out (nil_is _ _ _)
end Go.Proofs.YtnmfoedfllmclaaGreatDoor
