/- The document's own reader: an object -/
import Derived.Test.YtnmfoedfllmclaaGreatDoorJr42
namespace Go.Proofs.YtnmfoedfllmclaaGreatDoor
open Go.RowKit Go.Shelf Go.Sort
set_option linter.unusedVariables false

theorem objR_err {X : Except Bad (List (ByteArray × VT) × List UInt8 × Nat)} (bd : Bad) (h : X = .error bd) : objR X = .error bd := by rw [h]; rfl
theorem obj_start (W : World) {t : ByteArray} {a n c0 x0 : Nat} (ha : a ≤ t.size) : DocV W ((((W.alloc (.cells #[.string t, .int .i64 (a : Int), .int .i64 (n : Int), .int .i64 (c0 : Int), .int .i64 (x0 : Int)] 56)).alloc (.cells #[.string ⟨#[]⟩, .int .i64 0, .int .i64 0, .int .i64 0, .int .i64 0] 56)).alloc (.cells #[.int .i64 0, .bool false, .string ⟨#[]⟩, .slice none 0 0, .slice none 0 0] 26)).alloc (.cells #[.int .i64 6, .bool false, .string ⟨#[]⟩, .slice none 0 0, .slice none 0 0] 26)) t a n c0 x0 ∧ ObjD W.heap.size ((((W.alloc (.cells #[.string t, .int .i64 (a : Int), .int .i64 (n : Int), .int .i64 (c0 : Int), .int .i64 (x0 : Int)] 56)).alloc (.cells #[.string ⟨#[]⟩, .int .i64 0, .int .i64 0, .int .i64 0, .int .i64 0] 56)).alloc (.cells #[.int .i64 0, .bool false, .string ⟨#[]⟩, .slice none 0 0, .slice none 0 0] 26)).alloc (.cells #[.int .i64 6, .bool false, .string ⟨#[]⟩, .slice none 0 0, .slice none 0 0] 26)) (.slice none 0 0) (.slice none 0 0) [] [] := by
  refine ⟨(DocV.start W ha).below (below_new0 _ _), ?_, ⟨⟨rfl, .inl ⟨rfl, rfl⟩⟩, ⟨rfl, .inl ⟨rfl, rfl⟩⟩⟩, (fun e he => by cases he), rfl⟩
  have := Blk.new (((W.alloc (.cells #[.string t, .int .i64 (a : Int), .int .i64 (n : Int), .int .i64 (c0 : Int), .int .i64 (x0 : Int)] 56)).alloc (.cells #[.string ⟨#[]⟩, .int .i64 0, .int .i64 0, .int .i64 0, .int .i64 0] 56)).alloc (.cells #[.int .i64 0, .bool false, .string ⟨#[]⟩, .slice none 0 0, .slice none 0 0] 26)) #[.int .i64 6, .bool false, .string ⟨#[]⟩, .slice none 0 0, .slice none 0 0] 26
  rw [World.size_alloc, World.size_alloc, World.size_alloc] at this
  exact this
theorem head_lt {t : ByteArray} {b : Nat} {q : UInt8} (h : headZ (rest t b) = (q.toNat : Int)) : b < t.size := by
  obtain ⟨r, hr⟩ := head_is h
  have := rest_length (t := t) (a := b)
  rw [hr] at this
  simp at this
  omega
set_option maxRecDepth 100000 in
set_option maxHeartbeats 16000000 in
theorem rmany_obj {a n c0 x0 e : Nat} {dep : Int} {t : ByteArray} (h0 : c0 = 0) (ha : a < t.size) (hs : t.size ≤ 65536) (hn : n ≤ 2000) (hd0 : 0 ≤ dep) (hd1 : dep ≤ 100)
    (hv : ∀ (W : World) (a n : Nat), a ≤ t.size → n ≤ 2000 → Calls Tryz.prog 25 #[stV t a n c0 x0, .int .i64 (dep + 1)] W (VlE W t c0 x0 (valD e (rest t a) n))) (W : World) :
    Calls Tryz.prog 50 #[stV t a n c0 x0, .int .i64 dep, .bool true] W (VlE W t c0 x0 (objR (eachJ (pairJ (valD e)) 125 [] (rest t a) n))) := by
  have H0 := Lib.hid h0
  have HV := Lib.hid hv
  obtain ⟨X, hX⟩ : ∃ X, eachJ (pairJ (valD e)) 125 [] (rest t a) n = X := ⟨_, rfl⟩
  have HX := Lib.hid hX
  rw [hX]
  clear hX h0 hv
  have HS := Lib.hid (obj_start W (t := t) (n := n) (c0 := c0) (x0 := x0) (Nat.le_of_lt ha))
  go_enter Tryz.func50, Tryz.ntmps50
  go_upto_region 6 with fail
  obtain ⟨w1, hw1⟩ : ∃ w1, ((((W.alloc (.cells #[.string t, .int .i64 (a : Int), .int .i64 (n : Int), .int .i64 (c0 : Int), .int .i64 (x0 : Int)] 56)).alloc (.cells #[.string ⟨#[]⟩, .int .i64 0, .int .i64 0, .int .i64 0, .int .i64 0] 56)).alloc (.cells #[.int .i64 0, .bool false, .string ⟨#[]⟩, .slice none 0 0, .slice none 0 0] 26)).alloc (.cells #[.int .i64 6, .bool false, .string ⟨#[]⟩, .slice none 0 0, .slice none 0 0] 26)) = w1 := ⟨_, rfl⟩
  rw [hw1] at HS ⊢
  have HS1 := Lib.hid HS.out
  clear HS hw1
  have i0 : (0 : Int) ≤ (a : Int) := by omega
  have k1 := HS1.out.1.1.1.cell 1
  have f1' := HS1.out.1.1.1.frozen 1
  have i9 : (0 : Int) ≤ (a : Int) := by omega
  have HM1 : Hid (DocV W (w1.setCell ⟨W.heap.size, 1, none⟩ (.int .i64 ((a : Int) + 1))) t (a + 1) n c0 x0 ∧ ObjD W.heap.size (w1.setCell ⟨W.heap.size, 1, none⟩ (.int .i64 ((a : Int) + 1))) (.slice none 0 0) (.slice none 0 0) [] []) := Lib.hid ⟨HS1.out.1.moves (b := a + 1) (by omega), HS1.out.2.keep ((Above.refl _ w1).set (.inl (by show W.heap.size < W.heap.size + 3; omega)) _)⟩
  go_upto_region 7 with fail
  obtain ⟨w2, hw2⟩ : ∃ w2, w1.setCell ⟨W.heap.size, 1, none⟩ (.int .i64 ((a : Int) + 1)) = w2 := ⟨_, rfl⟩
  rw [hw2] at HM1 ⊢
  have HS2 := Lib.hid HM1.out
  clear HM1 hw2 k1 f1' HS1
  have HBl := Lib.hid (rblanks_any (a := a + 1) (n := n) (c := c0) (x := x0) HS2.out.1.1.2.2.2 hs w2)
  have k0 := HS2.out.1.1.1.cell 0
  have k1 := HS2.out.1.1.1.cell 1
  have k2 := HS2.out.1.1.1.cell 2
  have k3 := HS2.out.1.1.1.cell 3
  have k4 := HS2.out.1.1.1.cell 4
  go_wp2_with fail
  go_at_call 26; refine HBl.out.mono ?_; rintro e wb ⟨b, rfl, hsk, hbtb, hbw⟩
  have HSKb := Lib.hid hsk
  have h1 := HS2.out.1.below hbw
  have h2 := h1.puts (b := b) (n' := n) (c' := c0) (x' := x0) hbtb
  have h3 := HS2.out.2.keep (((Above.refl _ w2).call hbw).set5 (B := W.heap.size) (.inl (by omega)) (.string t) (.int .i64 (b : Int)) (.int .i64 (n : Int)) (.int .i64 (c0 : Int)) (.int .i64 (x0 : Int)))
  have f0 := h1.1.1.frozen 0
  have f1 := h1.1.1.frozen 1
  have f2 := h1.1.1.frozen 2
  have f3 := h1.1.1.frozen 3
  have f4 := h1.1.1.frozen 4
  have HH := Lib.hid (And.intro h2 h3)
  clear k0 k1 k2 k3 k4 hsk HBl h2 h3
  have k0 := h1.1.1.cell 0
  have k1 := h1.1.1.cell 1
  have k2 := h1.1.1.cell 2
  have k3 := h1.1.1.cell 3
  have k4 := h1.1.1.cell 4
  clear h1 hbw
  go_upto_region 8 with fail
  obtain ⟨w3, hw2⟩ : ∃ w3, (((((wb.setCell ⟨W.heap.size, 0, none⟩ (.string t)).setCell ⟨W.heap.size, 1, none⟩ (.int .i64 (b : Int))).setCell ⟨W.heap.size, 2, none⟩ (.int .i64 (n : Int))).setCell ⟨W.heap.size, 3, none⟩ (.int .i64 (c0 : Int))).setCell ⟨W.heap.size, 4, none⟩ (.int .i64 (x0 : Int))) = w3 := ⟨_, rfl⟩
  rw [hw2] at HH ⊢
  have HS3 := Lib.hid HH.out
  clear HH hw2 f0 f1 f2 f3 f4 k0 k1 k2 k3 k4
  obtain ⟨z, hz⟩ : ∃ z, headZ (rest t b) = z := ⟨_, rfl⟩
  obtain ⟨zl, zh⟩ := hz ▸ headZ_bound (rest t b)
  have HZ := Lib.hid hz
  have HSKP : Hid (skipB ((rest t a).drop 1) = rest t b) := Lib.hid (by rw [HSKb.out, ← rest_add])
  clear hz HSKb HS2
  have HCz := Lib.hid (show Calls Tryz.prog 45 #[stV t b n c0 x0] w3 (fun e w' => e = .returned (.int .i64 z) ∧ Below w3.heap.size w3 w') from HZ.out ▸ rc_any (a := b) (n := n) (c := c0) (x := x0) HS3.out.1.1.2.2.2 hs w3)
  have k0 := HS3.out.1.1.1.cell 0
  have k1 := HS3.out.1.1.1.cell 1
  have k2 := HS3.out.1.1.1.cell 2
  have k3 := HS3.out.1.1.1.cell 3
  have k4 := HS3.out.1.1.1.cell 4
  go_wp2_with fail
  go_at_call 45; refine HCz.out.mono ?_; rintro e w4 ⟨rfl, hbz⟩
  have HS4 := Lib.hid (And.intro (HS3.out.1.below hbz) (HS3.out.2.keep ((Above.refl _ w3).call hbz)))
  clear hbz HCz k0 k1 k2 k3 k4
  by_cases h125 : z = 125
  · have e125 : (z == 125) = true := by simp [h125]
    have HG : Hid (Going t c0 x0 X (.ok (([] : List (ByteArray × VT)), (rest t b).drop 1, n)) True c0 x0) := Lib.hid (.inl ⟨rfl, rfl, by rw [← HX.out]; unfold eachJ; rw [HSKP.out, if_pos (pre_is (q := 125) (HZ.out.trans h125))], trivial⟩)
    have hbt2 : b < t.size := head_lt (q := 125) (HZ.out.trans h125)
    clear h125
    have k1 := HS4.out.1.1.1.cell 1
    have f1' := HS4.out.1.1.1.frozen 1
    have i9 : (0 : Int) ≤ (b : Int) := by omega
    have HM1 : Hid (DocV W (w4.setCell ⟨W.heap.size, 1, none⟩ (.int .i64 ((b : Int) + 1))) t (b + 1) n c0 x0 ∧ ObjD W.heap.size (w4.setCell ⟨W.heap.size, 1, none⟩ (.int .i64 ((b : Int) + 1))) (.slice none 0 0) (.slice none 0 0) [] []) := Lib.hid ⟨HS4.out.1.moves (b := b + 1) (by omega), HS4.out.2.keep ((Above.refl _ w4).set (.inl (by show W.heap.size < W.heap.size + 3; omega)) _)⟩
    go_upto_region 10 with fail
    obtain ⟨w9e, hw9⟩ : ∃ w9, w4.setCell ⟨W.heap.size, 1, none⟩ (.int .i64 ((b : Int) + 1)) = w9 := ⟨_, rfl⟩
    rw [hw9] at HM1 ⊢
    clear hw9 k1 f1'
    have k0 := HM1.out.1.1.1.cell 0
    have k1 := HM1.out.1.1.1.cell 1
    have k2 := HM1.out.1.1.1.cell 2
    have k3 := HM1.out.1.1.1.cell 3
    have k4 := HM1.out.1.1.1.cell 4
    have v0 := HM1.out.2.box.cell 0
    have v1 := HM1.out.2.box.cell 1
    have v2 := HM1.out.2.box.cell 2
    have v3 := HM1.out.2.box.cell 3
    have v4 := HM1.out.2.box.cell 4
    have q0 := HM1.out.1.1.2.1.cell 0
    have q1 := HM1.out.1.1.2.1.cell 1
    have q2 := HM1.out.1.1.2.1.cell 2
    have q3 := HM1.out.1.1.2.1.cell 3
    have q4 := HM1.out.1.1.2.1.cell 4
    have g0 := HM1.out.1.1.2.1.frozen 0
    have g1 := HM1.out.1.1.2.1.frozen 1
    have g2 := HM1.out.1.1.2.1.frozen 2
    have g3 := HM1.out.1.1.2.1.frozen 3
    have g4 := HM1.out.1.1.2.1.frozen 4
    have p0 := HM1.out.1.2.cell 0
    have p1 := HM1.out.1.2.cell 1
    have p2 := HM1.out.1.2.cell 2
    have p3 := HM1.out.1.2.cell 3
    have p4 := HM1.out.1.2.cell 4
    have h0 := HM1.out.1.2.frozen 0
    have h1 := HM1.out.1.2.frozen 1
    have h2 := HM1.out.1.2.frozen 2
    have h3 := HM1.out.1.2.frozen 3
    have h4 := HM1.out.1.2.frozen 4
    go_region
    go_wp2_with fail
    have hqe := (HM1.out.1).ends (.string t) (.int .i64 ((b : Int) + 1)) (.int .i64 (n : Int)) (.int .i64 (c0 : Int)) (.int .i64 (x0 : Int)) (.int .i64 6) (.bool false) (.string ⟨#[]⟩) (.slice none 0 0) (.slice none 0 0)
    have r0 := hqe.1.cell 0
    have r1 := hqe.1.cell 1
    have r2 := hqe.1.cell 2
    have r3 := hqe.1.cell 3
    have r4 := hqe.1.cell 4
    have s0 := hqe.2.1.cell 0
    have s1 := hqe.2.1.cell 1
    have s2 := hqe.2.1.cell 2
    have s3 := hqe.2.1.cell 3
    have s4 := hqe.2.1.cell 4
    have HEND := Lib.hid hqe.2.2
    clear hqe
    have hab := (((Above.refl (W.heap.size + 3) w9e).set5 (B := W.heap.size + 1) (.inl (by omega)) (.string t) (.int .i64 ((b : Int) + 1)) (.int .i64 (n : Int)) (.int .i64 (c0 : Int)) (.int .i64 (x0 : Int))).set5 (B := W.heap.size + 1 + 1) (.inl (by omega)) (.int .i64 6) (.bool false) (.string ⟨#[]⟩) (.slice none 0 0) (.slice none 0 0)).call (below_drew _)
    have HFR := Lib.hid ((HM1.out.2.keep hab).fresh (lo := W.heap.size) (by omega) (by simp))
    clear hab
    refine bodyPost_ret (by simp [results, Tryz.results50, go_sem, r0, r1, r2, r3, r4, s0, s1, s2, s3, s4]; try rfl) rfl ?_
    exact HG.out.done (b := b + 1) (fun hXX _ => by rw [hXX]; exact congrArg (fun T => Except.ok (T, (rest t b).drop 1, n)) KeysOf.nil.made) (rest_add _ _ _) (by omega) hn objR_err HEND.out.drew HFR.out
  have e125 : (z == 125) = false := by simp [h125]
  have HG0 : Hid (Going t c0 x0 X (seqJ (pairJ (valD e)) 125 (t.size - a) [] (rest t b) n) (KeysOf [] [] (([] : List It).map It.T) ∧ ([] : List It).length ≤ n ∧ (rest t b).length < t.size - a) c0 x0) := Lib.hid (.inl ⟨rfl, rfl, by rw [← HX.out]; unfold eachJ; rw [HSKP.out, if_neg (by rw [pre_not (q := 125) (fun e => h125 (HZ.out.symm.trans e))]; decide), rest_length], KeysOf.nil, Nat.zero_le _, by
    have h1 := skipB_le ((rest t a).drop 1)
    rw [HSKP.out, ← rest_add, rest_length, rest_length] at h1
    rw [rest_length]
    omega⟩)
  clear h125 HSKP HX
  go_wp2_with fail
  go_loopg [10, 11] (t.size - a) (fun gf s10 s11 wx => ∃ (b n c x f : Nat) (ad adk : Option Addr) (cap capk : Nat) (ks : List ByteArray) (yy : List It) (st : List (ByteArray × VT)), Hid (DocV W wx t b n c x ∧ ObjD W.heap.size wx (.slice ad yy.length cap) (.slice adk ks.length capk) ks yy) ∧ n ≤ 2000 ∧ yy.length ≤ 2001 ∧ f ≤ gf ∧ Hid (Going t c0 x0 X (seqJ (pairJ (valD e)) 125 f st (rest t b) n) (KeysOf st ks (yy.map It.T) ∧ yy.length ≤ n ∧ (rest t b).length < f) c x))
  case atStart => exact ⟨b, n, c0, x0, t.size - a, none, none, 0, 0, [], [], [], HS4, hn, by simp, Nat.le_refl _, HG0⟩
  case round =>
    obtain ⟨b1, n1, c1, x1, f, ad, adk, cap, capk, ks, yy, st, HR, hn1, hy1, hf, HG⟩ := hrel
    clear HG0 HS4 HS3
    by_cases hc : c1 = 0
    · obtain ⟨hc1, hx1, hX1, hP1⟩ : c1 = c0 ∧ x1 = x0 ∧ X = seqJ (pairJ (valD e)) 125 f st (rest t b1) n1 ∧ (KeysOf st ks (yy.map It.T) ∧ yy.length ≤ n1 ∧ (rest t b1).length < f) := by
        rcases HG.out with h | ⟨h, -⟩
        · exact h
        · exact absurd hc h
      subst hc1 hx1
      obtain ⟨f1, rfl⟩ : ∃ f1, f = f1 + 1 := ⟨f - 1, by omega⟩
      obtain ⟨g', rfl⟩ : ∃ g', gk = g' + 1 := ⟨gk - 1, by omega⟩
      have HX1 := Lib.hid hX1
      have HP1 := Lib.hid hP1
      have e0 : ((c1 : Int) == 0) = true := by simp [hc]
      have hyn : yy.length ≤ 2000 := by omega
      clear hX1 hP1 hc HG
      have k0 := HR.out.1.1.1.cell 0
      have k1 := HR.out.1.1.1.cell 1
      have k2 := HR.out.1.1.1.cell 2
      have k3 := HR.out.1.1.1.cell 3
      have k4 := HR.out.1.1.1.cell 4
      go_upto_if 35 with fail
      clear k0 k1 k2 k3 k4
      go_cut [10, 11] (fun s10 s11 wx => ∃ (s : ByteArray) (b k x : Nat), s10 = .string s ∧ Hid (DocV W wx t b n1 k x ∧ ObjD W.heap.size wx (.slice ad yy.length cap) (.slice adk ks.length capk) ks yy) ∧ Hid (Going t c1 x1 X (valTail e f1 st s (rest t b) n1) (s ∉ ks ∧ KeysOf st ks (yy.map It.T) ∧ yy.length ≤ n1 ∧ (rest t b).length ≤ f1) k x))
      case first =>
        have HBl := Lib.hid (rblanks_any (a := b1) (n := n1) (c := c1) (x := x1) HR.out.1.1.2.2.2 hs wr)
        have k0 := HR.out.1.1.1.cell 0
        have k1 := HR.out.1.1.1.cell 1
        have k2 := HR.out.1.1.1.cell 2
        have k3 := HR.out.1.1.1.cell 3
        have k4 := HR.out.1.1.1.cell 4
        go_wp2_with fail
        go_at_call 26; refine HBl.out.mono ?_; rintro e wc ⟨b2, rfl, hsk, hbtb2, hbw⟩
        have HSKb2 := Lib.hid hsk
        have h1 := HR.out.1.below hbw
        have h2 := h1.puts (b := b2) (n' := n1) (c' := c1) (x' := x1) hbtb2
        have h3 := HR.out.2.keep (((Above.refl _ wr).call hbw).set5 (B := W.heap.size) (.inl (by omega)) (.string t) (.int .i64 (b2 : Int)) (.int .i64 (n1 : Int)) (.int .i64 (c1 : Int)) (.int .i64 (x1 : Int)))
        have f0 := h1.1.1.frozen 0
        have f1 := h1.1.1.frozen 1
        have f2 := h1.1.1.frozen 2
        have f3 := h1.1.1.frozen 3
        have f4 := h1.1.1.frozen 4
        have HH := Lib.hid (And.intro h2 h3)
        clear k0 k1 k2 k3 k4 hsk HBl h2 h3
        have k0 := h1.1.1.cell 0
        have k1 := h1.1.1.cell 1
        have k2 := h1.1.1.cell 2
        have k3 := h1.1.1.cell 3
        have k4 := h1.1.1.cell 4
        clear h1 hbw
        go_upto_region 15 with fail
        obtain ⟨w12, hw2⟩ : ∃ w12, (((((wc.setCell ⟨W.heap.size, 0, none⟩ (.string t)).setCell ⟨W.heap.size, 1, none⟩ (.int .i64 (b2 : Int))).setCell ⟨W.heap.size, 2, none⟩ (.int .i64 (n1 : Int))).setCell ⟨W.heap.size, 3, none⟩ (.int .i64 (c1 : Int))).setCell ⟨W.heap.size, 4, none⟩ (.int .i64 (x1 : Int))) = w12 := ⟨_, rfl⟩
        rw [hw2] at HH ⊢
        have HQ1 := Lib.hid HH.out
        clear HH hw2 f0 f1 f2 f3 f4 k0 k1 k2 k3 k4
        have HS2 : Hid (skipB (rest t b1) = rest t b2) := Lib.hid HSKb2.out.symm
        obtain ⟨z2, hz2⟩ : ∃ z, headZ (rest t b2) = z := ⟨_, rfl⟩
        obtain ⟨zl2, zh2⟩ := hz2 ▸ headZ_bound (rest t b2)
        clear HZ
        have HZ := Lib.hid hz2
        have HL2 : Hid ((rest t b2).length ≤ (rest t b1).length) := Lib.hid (by rw [← HS2.out]; exact skipB_le _)
        clear hz2 HSKb2 HR
        have k1 := HQ1.out.1.1.1.cell 1
        go_upto_region 16 with fail
        clear k1
        have HCz := Lib.hid (show Calls Tryz.prog 45 #[stV t b2 n1 c1 x1] w12 (fun e w' => e = .returned (.int .i64 z2) ∧ Below w12.heap.size w12 w') from HZ.out ▸ rc_any (a := b2) (n := n1) (c := c1) (x := x1) HQ1.out.1.1.2.2.2 hs w12)
        have k0 := HQ1.out.1.1.1.cell 0
        have k1 := HQ1.out.1.1.1.cell 1
        have k2 := HQ1.out.1.1.1.cell 2
        have k3 := HQ1.out.1.1.1.cell 3
        have k4 := HQ1.out.1.1.1.cell 4
        go_wp2_with fail
        go_at_call 45; refine HCz.out.mono ?_; rintro e w13 ⟨rfl, hbz⟩
        have HQ2 := Lib.hid (And.intro (HQ1.out.1.below hbz) (HQ1.out.2.keep ((Above.refl _ w12).call hbz)))
        clear hbz HCz k0 k1 k2 k3 k4
        by_cases h34 : z2 = 34
        · have e34 : (z2 != 34) = false := by simp [h34]
          have hq34 : Hid (Lib.hasPrefix (skipB (rest t b1)) [34] = true) := Lib.hid (by rw [HS2.out]; exact pre_is (q := 34) (HZ.out.trans h34))
          have hbt2 : b2 < t.size := head_lt (q := 34) (HZ.out.trans h34)
          have HQU := Lib.hid (rquoted_any (x0 := x1) H0.out hbt2 hs hn1 w13)
          clear h34
          have k0 := HQ2.out.1.1.1.cell 0
          have k1 := HQ2.out.1.1.1.cell 1
          have k2 := HQ2.out.1.1.1.cell 2
          have k3 := HQ2.out.1.1.1.cell 3
          have k4 := HQ2.out.1.1.1.cell 4
          go_wp2_with fail
          go_at_call 48; refine HQU.out.mono ?_
          intro e6 w6 hq6
          obtain ⟨hb6, b3, k3', x3, s, rfl, hbt3, hG3⟩ := hq6.going
          have hd6 := HQ2.out.1.below hb6
          have hd7 := hd6.puts (b := b3) (n' := n1) (c' := k3') (x' := x3) hbt3
          have HH := Lib.hid (And.intro hd7 (HQ2.out.2.keep (((Above.refl _ w13).call hb6).set5 (B := W.heap.size) (.inl (by omega)) (.string t) (.int .i64 (b3 : Int)) (.int .i64 (n1 : Int)) (.int .i64 (k3' : Int)) (.int .i64 (x3 : Int)))))
          have HG3 := Lib.hid hG3
          clear k0 k1 k2 k3 k4
          have k0 := hd6.1.1.cell 0
          have k1 := hd6.1.1.cell 1
          have k2 := hd6.1.1.cell 2
          have k3 := hd6.1.1.cell 3
          have k4 := hd6.1.1.cell 4
          have f0 := hd6.1.1.frozen 0
          have f1' := hd6.1.1.frozen 1
          have f2 := hd6.1.1.frozen 2
          have f3 := hd6.1.1.frozen 3
          have f4 := hd6.1.1.frozen 4
          clear hq6 hb6 hG3 hd6 hd7 HQU HQ1
          go_upto_region 19 with fail
          obtain ⟨w7, hw7⟩ : ∃ w7, (((((w6.setCell ⟨W.heap.size, 0, none⟩ (.string t)).setCell ⟨W.heap.size, 1, none⟩ (.int .i64 (b3 : Int))).setCell ⟨W.heap.size, 2, none⟩ (.int .i64 (n1 : Int))).setCell ⟨W.heap.size, 3, none⟩ (.int .i64 (k3' : Int))).setCell ⟨W.heap.size, 4, none⟩ (.int .i64 (x3 : Int))) = w7 := ⟨_, rfl⟩
          rw [hw7] at HH ⊢
          have HQ3 := Lib.hid HH.out
          clear HH hw7 k0 k1 k2 k3 k4 f0 f1' f2 f3 f4 HQ2
          by_cases hk0 : k3' = 0
          · obtain ⟨hk1, hx1, hq1⟩ : k3' = c1 ∧ x3 = x1 ∧ quotedJ (rest t b2) = .ok (s, rest t b3) := by
              rcases HG3.out with ⟨h1, h2, h3, -⟩ | ⟨h, -⟩
              · exact ⟨h1, h2, h3⟩
              · exact absurd hk0 h
            subst hk1 hx1
            have HQJ := Lib.hid hq1
            have e3 : ((k3' : Int) == 0) = true := by simp [hk0]
            have HAT := Lib.hid (rAt_any (k := 6) (b := false) (t := ⟨#[]⟩) (key := s) (ad := ad) (len := yy.length) (cap := cap) (HQ3.out.2.strs (by omega)) w7 (Below.refl _ _) (Nat.le_refl _))
            clear hq1 hk0
            have k3 := HQ3.out.1.1.1.cell 3
            have v0 := HQ3.out.2.box.cell 0
            have v1 := HQ3.out.2.box.cell 1
            have v2 := HQ3.out.2.box.cell 2
            have v3 := HQ3.out.2.box.cell 3
            have v4 := HQ3.out.2.box.cell 4
            go_wp2_with fail
            go_at_call 67; refine HAT.out.mono ?_; rintro e7 w8 ⟨⟨r, rfl, hr⟩, hb8⟩
            have HQ4 := Lib.hid (And.intro (HQ3.out.1.below hb8) (HQ3.out.2.keep ((Above.refl _ w7).call hb8)))
            have HRR := Lib.hid hr
            clear hb8 hr HAT k3 v0 v1 v2 v3 v4 HQ3
            by_cases hr0 : 0 ≤ r
            · have hr1 : r ≥ 0 := hr0
              have HXE : Hid (X = .error (2, t.size - b2)) := Lib.hid (by
                rw [HX1.out]
                refine seqJ_err (pairJ_key ?_)
                rw [keyJ_twice hq34.out (by rw [HS2.out]; exact HQJ.out) (contains_mem (HP1.out.1.mem.1 (at_yes HRR.out hr0))), HS2.out, rest_length])
              have HF := Lib.hid (fail_to (t := t) (a := b3) (n := n1) (x := x3) H0.out 2 b2 w8)
              clear HG3
              have k0 := HQ4.out.1.1.1.cell 0
              have k1 := HQ4.out.1.1.1.cell 1
              have k2 := HQ4.out.1.1.1.cell 2
              have k3 := HQ4.out.1.1.1.cell 3
              have k4 := HQ4.out.1.1.1.cell 4
              go_wp2_with (go_at_call 27; refine HF.out.mono ?_; rintro e wf ⟨rfl, hbf⟩; refine Hid.out ?_)
              refine Lib.hid ?_
              have HVf := Lib.hid (And.intro (HQ4.out.1.below hbf) (HQ4.out.2.keep ((Above.refl _ w8).call hbf)))
              clear hbf k0 k1 k2 k3 k4 HF
              have q0 := HVf.out.1.1.2.1.cell 0
              have q1 := HVf.out.1.1.2.1.cell 1
              have q2 := HVf.out.1.1.2.1.cell 2
              have q3 := HVf.out.1.1.2.1.cell 3
              have q4 := HVf.out.1.1.2.1.cell 4
              have g0 := HVf.out.1.1.2.1.frozen 0
              have g1 := HVf.out.1.1.2.1.frozen 1
              have g2 := HVf.out.1.1.2.1.frozen 2
              have g3 := HVf.out.1.1.2.1.frozen 3
              have g4 := HVf.out.1.1.2.1.frozen 4
              have p0 := HVf.out.1.2.cell 0
              have p1 := HVf.out.1.2.cell 1
              have p2 := HVf.out.1.2.cell 2
              have p3 := HVf.out.1.2.cell 3
              have p4 := HVf.out.1.2.cell 4
              have h0 := HVf.out.1.2.frozen 0
              have h1 := HVf.out.1.2.frozen 1
              have h2 := HVf.out.1.2.frozen 2
              have h3 := HVf.out.1.2.frozen 3
              have h4 := HVf.out.1.2.frozen 4
              go_wp2_with fail
              have hqe := (HVf.out.1).ends (.string t) (.int .i64 (b3 : Int)) (.int .i64 (n1 : Int)) (.int .i64 2) (.int .i64 (b2 : Int)) (.int .i64 0) (.bool false) (.string ⟨#[]⟩) (.slice none 0 0) (.slice none 0 0)
              have r0 := hqe.1.cell 0
              have r1 := hqe.1.cell 1
              have r2 := hqe.1.cell 2
              have r3 := hqe.1.cell 3
              have r4 := hqe.1.cell 4
              have s0 := hqe.2.1.cell 0
              have s1 := hqe.2.1.cell 1
              have s2 := hqe.2.1.cell 2
              have s3 := hqe.2.1.cell 3
              have s4 := hqe.2.1.cell 4
              have HEND := Lib.hid hqe.2.2
              clear hqe
              refine bodyPost_ret (by simp [results, Tryz.results50, go_sem, r0, r1, r2, r3, r4, s0, s1, s2, s3, s4]; try rfl) rfl ?_
              rw [objR_err _ HXE.out]
              exact ⟨HEND.out, b3, n1, 2, _, _, by rw [show t.size - (t.size - b2) = b2 by omega] <;> rfl, HVf.out.1.1.2.2.2, hn1, by decide, rfl, nil_is _ _ _⟩
            · have hr1 : ¬ r ≥ 0 := hr0
              have HNK : Hid (s ∉ ks) := Lib.hid (at_low HRR.out hr0)
              have HGK : Hid (Going t k3' x3 X (keyTail e f1 st s (rest t b3) n1) (s ∉ ks ∧ KeysOf st ks (yy.map It.T) ∧ yy.length ≤ n1 ∧ (rest t b3).length ≤ f1) k3' x3) := Lib.hid (.inl ⟨rfl, rfl, by
                rw [HX1.out]
                refine seqJ_pair (keyJ_ok hq34.out (by rw [HS2.out]; exact HQJ.out) ?_)
                exact contains_no (fun h => HNK.out (HP1.out.1.mem.2 h)), HNK.out, HP1.out.1, HP1.out.2.1, by
                have h1 := quotedJ_len HQJ.out
                have := HL2.out
                have := HP1.out.2.2
                omega⟩)
              clear hr0 HG3
              have HBl := Lib.hid (rblanks_any (a := b3) (n := n1) (c := k3') (x := x3) HQ4.out.1.1.2.2.2 hs w8)
              have k0 := HQ4.out.1.1.1.cell 0
              have k1 := HQ4.out.1.1.1.cell 1
              have k2 := HQ4.out.1.1.1.cell 2
              have k3 := HQ4.out.1.1.1.cell 3
              have k4 := HQ4.out.1.1.1.cell 4
              go_wp2_with fail
              go_at_call 26; refine HBl.out.mono ?_; rintro e wk ⟨b4, rfl, hsk, hbtb4, hbw⟩
              have HSKb4 := Lib.hid hsk
              have h1 := HQ4.out.1.below hbw
              have h2 := h1.puts (b := b4) (n' := n1) (c' := k3') (x' := x3) hbtb4
              have h3 := HQ4.out.2.keep (((Above.refl _ w8).call hbw).set5 (B := W.heap.size) (.inl (by omega)) (.string t) (.int .i64 (b4 : Int)) (.int .i64 (n1 : Int)) (.int .i64 (k3' : Int)) (.int .i64 (x3 : Int)))
              have f0 := h1.1.1.frozen 0
              have f1 := h1.1.1.frozen 1
              have f2 := h1.1.1.frozen 2
              have f3 := h1.1.1.frozen 3
              have f4 := h1.1.1.frozen 4
              have HH := Lib.hid (And.intro h2 h3)
              clear k0 k1 k2 k3 k4 hsk HBl h2 h3
              have k0 := h1.1.1.cell 0
              have k1 := h1.1.1.cell 1
              have k2 := h1.1.1.cell 2
              have k3 := h1.1.1.cell 3
              have k4 := h1.1.1.cell 4
              clear h1 hbw
              go_upto_region 22 with fail
              obtain ⟨w15, hw2⟩ : ∃ w15, (((((wk.setCell ⟨W.heap.size, 0, none⟩ (.string t)).setCell ⟨W.heap.size, 1, none⟩ (.int .i64 (b4 : Int))).setCell ⟨W.heap.size, 2, none⟩ (.int .i64 (n1 : Int))).setCell ⟨W.heap.size, 3, none⟩ (.int .i64 (k3' : Int))).setCell ⟨W.heap.size, 4, none⟩ (.int .i64 (x3 : Int))) = w15 := ⟨_, rfl⟩
              rw [hw2] at HH ⊢
              have HC1 := Lib.hid HH.out
              clear HH hw2 f0 f1 f2 f3 f4 k0 k1 k2 k3 k4
              have HS4' : Hid (skipB (rest t b3) = rest t b4) := Lib.hid HSKb4.out.symm
              obtain ⟨z4, hz4⟩ : ∃ z, headZ (rest t b4) = z := ⟨_, rfl⟩
              obtain ⟨zl4, zh4⟩ := hz4 ▸ headZ_bound (rest t b4)
              clear HZ
              have HZ := Lib.hid hz4
              have HL4 : Hid ((rest t b4).length ≤ (rest t b3).length) := Lib.hid (by rw [← HS4'.out]; exact skipB_le _)
              clear hz4 HSKb4 HQ4
              have HCz := Lib.hid (show Calls Tryz.prog 45 #[stV t b4 n1 k3' x3] w15 (fun e w' => e = .returned (.int .i64 z4) ∧ Below w15.heap.size w15 w') from HZ.out ▸ rc_any (a := b4) (n := n1) (c := k3') (x := x3) HC1.out.1.1.2.2.2 hs w15)
              have k0 := HC1.out.1.1.1.cell 0
              have k1 := HC1.out.1.1.1.cell 1
              have k2 := HC1.out.1.1.1.cell 2
              have k3 := HC1.out.1.1.1.cell 3
              have k4 := HC1.out.1.1.1.cell 4
              go_wp2_with fail
              go_at_call 45; refine HCz.out.mono ?_; rintro e w16 ⟨rfl, hbz⟩
              have HC2 := Lib.hid (And.intro (HC1.out.1.below hbz) (HC1.out.2.keep ((Above.refl _ w15).call hbz)))
              clear hbz HCz k0 k1 k2 k3 k4
              by_cases h58 : z4 = 58
              · have e58 : (z4 != 58) = false := by simp [h58]
                have hbt4 : b4 < t.size := head_lt (q := 58) (HZ.out.trans h58)
                have HGV : Hid (Going t k3' x3 X (valTail e f1 st s (rest t (b4 + 1)) n1) (s ∉ ks ∧ KeysOf st ks (yy.map It.T) ∧ yy.length ≤ n1 ∧ (rest t (b4 + 1)).length ≤ f1) k3' x3) := Lib.hid (HGK.out.mono (fun hp => ⟨by unfold keyTail; rw [HS4'.out, if_pos (pre_is (q := 58) (HZ.out.trans h58)), ← rest_add], hp.1, hp.2.1, hp.2.2.1, by
                  have h1 := HL4.out
                  have h2 := hp.2.2.2
                  rw [rest_length] at h1 ⊢
                  omega⟩))
                clear h58
                have k1 := HC2.out.1.1.1.cell 1
                have f1' := HC2.out.1.1.1.frozen 1
                have i9 : (0 : Int) ≤ (b4 : Int) := by omega
                have HM1 : Hid (DocV W (w16.setCell ⟨W.heap.size, 1, none⟩ (.int .i64 ((b4 : Int) + 1))) t (b4 + 1) n1 k3' x3 ∧ ObjD W.heap.size (w16.setCell ⟨W.heap.size, 1, none⟩ (.int .i64 ((b4 : Int) + 1))) (.slice ad yy.length cap) (.slice adk ks.length capk) ks yy) := Lib.hid ⟨HC2.out.1.moves (b := b4 + 1) (by omega), HC2.out.2.keep ((Above.refl _ w16).set (.inl (by show W.heap.size < W.heap.size + 3; omega)) _)⟩
                go_wp2_with fail
                go_meet
                exact ⟨s, b4 + 1, k3', x3, rfl, HM1, HGV⟩
              have e58 : (z4 != 58) = true := by simp [h58]
              have HGF : Hid (Going t k3' x3 X (.error (30, t.size - b4)) True k3' x3) := Lib.hid (HGK.out.mono (fun hp => ⟨by unfold keyTail; rw [HS4'.out, if_neg (by rw [pre_not (q := 58) (fun e => h58 (HZ.out.symm.trans e))]; decide), rest_length], trivial⟩))
              clear h58
              obtain ⟨k', y', hfe, hk', hk2'⟩ := fail_both (t := t) (a := b4) (n := n1) (c := k3') (x := x3) 30 b4
              have HF : Hid (Calls Tryz.prog 27 #[stV t b4 n1 k3' x3, .int .i64 30, .int .i64 (b4 : Int)] w16 (fun e w' => e = .returned (stV t b4 n1 k' y') ∧ Below w16.heap.size w16 w')) := Lib.hid (by
                have h := rfail_any (t := t) (a := b4) (n := n1) (c := k3') (x := x3) (k := 30) (y := b4) w16
                rw [hfe] at h
                exact h)
              have HK := Lib.hid (And.intro hk' hk2')
              clear hfe hk' hk2'
              have k0 := HC2.out.1.1.1.cell 0
              have k1 := HC2.out.1.1.1.cell 1
              have k2 := HC2.out.1.1.1.cell 2
              have k3 := HC2.out.1.1.1.cell 3
              have k4 := HC2.out.1.1.1.cell 4
              go_wp2_with (go_at_call 27; refine HF.out.mono ?_; rintro e wf ⟨rfl, hbf⟩; refine Hid.out ?_)
              refine Lib.hid ?_
              have HVf := Lib.hid (And.intro (HC2.out.1.below hbf) (HC2.out.2.keep ((Above.refl _ w16).call hbf)))
              clear hbf k0 k1 k2 k3 k4 HF
              have q0 := HVf.out.1.1.2.1.cell 0
              have q1 := HVf.out.1.1.2.1.cell 1
              have q2 := HVf.out.1.1.2.1.cell 2
              have q3 := HVf.out.1.1.2.1.cell 3
              have q4 := HVf.out.1.1.2.1.cell 4
              have g0 := HVf.out.1.1.2.1.frozen 0
              have g1 := HVf.out.1.1.2.1.frozen 1
              have g2 := HVf.out.1.1.2.1.frozen 2
              have g3 := HVf.out.1.1.2.1.frozen 3
              have g4 := HVf.out.1.1.2.1.frozen 4
              have p0 := HVf.out.1.2.cell 0
              have p1 := HVf.out.1.2.cell 1
              have p2 := HVf.out.1.2.cell 2
              have p3 := HVf.out.1.2.cell 3
              have p4 := HVf.out.1.2.cell 4
              have h0 := HVf.out.1.2.frozen 0
              have h1 := HVf.out.1.2.frozen 1
              have h2 := HVf.out.1.2.frozen 2
              have h3 := HVf.out.1.2.frozen 3
              have h4 := HVf.out.1.2.frozen 4
              go_wp2_with fail
              have hqe := (HVf.out.1).ends (.string t) (.int .i64 (b4 : Int)) (.int .i64 (n1 : Int)) (.int .i64 (k' : Int)) (.int .i64 (y' : Int)) (.int .i64 0) (.bool false) (.string ⟨#[]⟩) (.slice none 0 0) (.slice none 0 0)
              have r0 := hqe.1.cell 0
              have r1 := hqe.1.cell 1
              have r2 := hqe.1.cell 2
              have r3 := hqe.1.cell 3
              have r4 := hqe.1.cell 4
              have s0 := hqe.2.1.cell 0
              have s1 := hqe.2.1.cell 1
              have s2 := hqe.2.1.cell 2
              have s3 := hqe.2.1.cell 3
              have s4 := hqe.2.1.cell 4
              have HEND := Lib.hid hqe.2.2
              clear hqe
              refine bodyPost_ret (by simp [results, Tryz.results50, go_sem, r0, r1, r2, r3, r4, s0, s1, s2, s3, s4]; try rfl) rfl ?_
              exact HGF.out.fails H0.out HK.out.1 HK.out.2 rfl HVf.out.1.1.2.2.2 (by omega) objR_err HEND.out (nil_is _ _ _)
          · have e3 : ((k3' : Int) == 0) = false := by simp; omega
            have HGK : Hid (Going t c1 x1 X (keyTail e f1 st s (rest t b3) n1) (s ∉ ks ∧ KeysOf st ks (yy.map It.T) ∧ yy.length ≤ n1 ∧ (rest t b3).length ≤ f1) k3' x3) := Lib.hid (by
              rcases HG3.out with ⟨h1, h2, h3, -⟩ | ⟨h1, bd, h2, h3, h4⟩
              · exact absurd (h1.trans H0.out) hk0
              · refine .inr ⟨h1, bd, ?_, h3, h4⟩
                rw [HX1.out]
                exact seqJ_err (pairJ_key (keyJ_err hq34.out (by rw [HS2.out]; exact h2))))
            clear hk0 HG3
            have k3 := HQ3.out.1.1.1.cell 3
            go_upto_region 21 with fail
            clear k3
            have HBl := Lib.hid (rblanks_any (a := b3) (n := n1) (c := k3') (x := x3) HQ3.out.1.1.2.2.2 hs w7)
            have k0 := HQ3.out.1.1.1.cell 0
            have k1 := HQ3.out.1.1.1.cell 1
            have k2 := HQ3.out.1.1.1.cell 2
            have k3 := HQ3.out.1.1.1.cell 3
            have k4 := HQ3.out.1.1.1.cell 4
            go_wp2_with fail
            go_at_call 26; refine HBl.out.mono ?_; rintro e wk ⟨b4, rfl, hsk, hbtb4, hbw⟩
            have HSKb4 := Lib.hid hsk
            have h1 := HQ3.out.1.below hbw
            have h2 := h1.puts (b := b4) (n' := n1) (c' := k3') (x' := x3) hbtb4
            have h3 := HQ3.out.2.keep (((Above.refl _ w7).call hbw).set5 (B := W.heap.size) (.inl (by omega)) (.string t) (.int .i64 (b4 : Int)) (.int .i64 (n1 : Int)) (.int .i64 (k3' : Int)) (.int .i64 (x3 : Int)))
            have f0 := h1.1.1.frozen 0
            have f1 := h1.1.1.frozen 1
            have f2 := h1.1.1.frozen 2
            have f3 := h1.1.1.frozen 3
            have f4 := h1.1.1.frozen 4
            have HH := Lib.hid (And.intro h2 h3)
            clear k0 k1 k2 k3 k4 hsk HBl h2 h3
            have k0 := h1.1.1.cell 0
            have k1 := h1.1.1.cell 1
            have k2 := h1.1.1.cell 2
            have k3 := h1.1.1.cell 3
            have k4 := h1.1.1.cell 4
            clear h1 hbw
            go_upto_region 22 with fail
            obtain ⟨w15, hw2⟩ : ∃ w15, (((((wk.setCell ⟨W.heap.size, 0, none⟩ (.string t)).setCell ⟨W.heap.size, 1, none⟩ (.int .i64 (b4 : Int))).setCell ⟨W.heap.size, 2, none⟩ (.int .i64 (n1 : Int))).setCell ⟨W.heap.size, 3, none⟩ (.int .i64 (k3' : Int))).setCell ⟨W.heap.size, 4, none⟩ (.int .i64 (x3 : Int))) = w15 := ⟨_, rfl⟩
            rw [hw2] at HH ⊢
            have HC1 := Lib.hid HH.out
            clear HH hw2 f0 f1 f2 f3 f4 k0 k1 k2 k3 k4
            have HS4' : Hid (skipB (rest t b3) = rest t b4) := Lib.hid HSKb4.out.symm
            obtain ⟨z4, hz4⟩ : ∃ z, headZ (rest t b4) = z := ⟨_, rfl⟩
            obtain ⟨zl4, zh4⟩ := hz4 ▸ headZ_bound (rest t b4)
            clear HZ
            have HZ := Lib.hid hz4
            have HL4 : Hid ((rest t b4).length ≤ (rest t b3).length) := Lib.hid (by rw [← HS4'.out]; exact skipB_le _)
            clear hz4 HSKb4 HQ3
            have HCz := Lib.hid (show Calls Tryz.prog 45 #[stV t b4 n1 k3' x3] w15 (fun e w' => e = .returned (.int .i64 z4) ∧ Below w15.heap.size w15 w') from HZ.out ▸ rc_any (a := b4) (n := n1) (c := k3') (x := x3) HC1.out.1.1.2.2.2 hs w15)
            have k0 := HC1.out.1.1.1.cell 0
            have k1 := HC1.out.1.1.1.cell 1
            have k2 := HC1.out.1.1.1.cell 2
            have k3 := HC1.out.1.1.1.cell 3
            have k4 := HC1.out.1.1.1.cell 4
            go_wp2_with fail
            go_at_call 45; refine HCz.out.mono ?_; rintro e w16 ⟨rfl, hbz⟩
            have HC2 := Lib.hid (And.intro (HC1.out.1.below hbz) (HC1.out.2.keep ((Above.refl _ w15).call hbz)))
            clear hbz HCz k0 k1 k2 k3 k4
            by_cases h58 : z4 = 58
            · have e58 : (z4 != 58) = false := by simp [h58]
              have hbt4 : b4 < t.size := head_lt (q := 58) (HZ.out.trans h58)
              have HGV : Hid (Going t c1 x1 X (valTail e f1 st s (rest t (b4 + 1)) n1) (s ∉ ks ∧ KeysOf st ks (yy.map It.T) ∧ yy.length ≤ n1 ∧ (rest t (b4 + 1)).length ≤ f1) k3' x3) := Lib.hid (HGK.out.mono (fun hp => ⟨by unfold keyTail; rw [HS4'.out, if_pos (pre_is (q := 58) (HZ.out.trans h58)), ← rest_add], hp.1, hp.2.1, hp.2.2.1, by
                have h1 := HL4.out
                have h2 := hp.2.2.2
                rw [rest_length] at h1 ⊢
                omega⟩))
              clear h58
              have k1 := HC2.out.1.1.1.cell 1
              have f1' := HC2.out.1.1.1.frozen 1
              have i9 : (0 : Int) ≤ (b4 : Int) := by omega
              have HM1 : Hid (DocV W (w16.setCell ⟨W.heap.size, 1, none⟩ (.int .i64 ((b4 : Int) + 1))) t (b4 + 1) n1 k3' x3 ∧ ObjD W.heap.size (w16.setCell ⟨W.heap.size, 1, none⟩ (.int .i64 ((b4 : Int) + 1))) (.slice ad yy.length cap) (.slice adk ks.length capk) ks yy) := Lib.hid ⟨HC2.out.1.moves (b := b4 + 1) (by omega), HC2.out.2.keep ((Above.refl _ w16).set (.inl (by show W.heap.size < W.heap.size + 3; omega)) _)⟩
              go_wp2_with fail
              go_meet
              exact ⟨s, b4 + 1, k3', x3, rfl, HM1, HGV⟩
            have e58 : (z4 != 58) = true := by simp [h58]
            have HGF : Hid (Going t c1 x1 X (.error (30, t.size - b4)) True k3' x3) := Lib.hid (HGK.out.mono (fun hp => ⟨by unfold keyTail; rw [HS4'.out, if_neg (by rw [pre_not (q := 58) (fun e => h58 (HZ.out.symm.trans e))]; decide), rest_length], trivial⟩))
            clear h58
            obtain ⟨k', y', hfe, hk', hk2'⟩ := fail_both (t := t) (a := b4) (n := n1) (c := k3') (x := x3) 30 b4
            have HF : Hid (Calls Tryz.prog 27 #[stV t b4 n1 k3' x3, .int .i64 30, .int .i64 (b4 : Int)] w16 (fun e w' => e = .returned (stV t b4 n1 k' y') ∧ Below w16.heap.size w16 w')) := Lib.hid (by
              have h := rfail_any (t := t) (a := b4) (n := n1) (c := k3') (x := x3) (k := 30) (y := b4) w16
              rw [hfe] at h
              exact h)
            have HK := Lib.hid (And.intro hk' hk2')
            clear hfe hk' hk2'
            have k0 := HC2.out.1.1.1.cell 0
            have k1 := HC2.out.1.1.1.cell 1
            have k2 := HC2.out.1.1.1.cell 2
            have k3 := HC2.out.1.1.1.cell 3
            have k4 := HC2.out.1.1.1.cell 4
            go_wp2_with (go_at_call 27; refine HF.out.mono ?_; rintro e wf ⟨rfl, hbf⟩; refine Hid.out ?_)
            refine Lib.hid ?_
            have HVf := Lib.hid (And.intro (HC2.out.1.below hbf) (HC2.out.2.keep ((Above.refl _ w16).call hbf)))
            clear hbf k0 k1 k2 k3 k4 HF
            have q0 := HVf.out.1.1.2.1.cell 0
            have q1 := HVf.out.1.1.2.1.cell 1
            have q2 := HVf.out.1.1.2.1.cell 2
            have q3 := HVf.out.1.1.2.1.cell 3
            have q4 := HVf.out.1.1.2.1.cell 4
            have g0 := HVf.out.1.1.2.1.frozen 0
            have g1 := HVf.out.1.1.2.1.frozen 1
            have g2 := HVf.out.1.1.2.1.frozen 2
            have g3 := HVf.out.1.1.2.1.frozen 3
            have g4 := HVf.out.1.1.2.1.frozen 4
            have p0 := HVf.out.1.2.cell 0
            have p1 := HVf.out.1.2.cell 1
            have p2 := HVf.out.1.2.cell 2
            have p3 := HVf.out.1.2.cell 3
            have p4 := HVf.out.1.2.cell 4
            have h0 := HVf.out.1.2.frozen 0
            have h1 := HVf.out.1.2.frozen 1
            have h2 := HVf.out.1.2.frozen 2
            have h3 := HVf.out.1.2.frozen 3
            have h4 := HVf.out.1.2.frozen 4
            go_wp2_with fail
            have hqe := (HVf.out.1).ends (.string t) (.int .i64 (b4 : Int)) (.int .i64 (n1 : Int)) (.int .i64 (k' : Int)) (.int .i64 (y' : Int)) (.int .i64 0) (.bool false) (.string ⟨#[]⟩) (.slice none 0 0) (.slice none 0 0)
            have r0 := hqe.1.cell 0
            have r1 := hqe.1.cell 1
            have r2 := hqe.1.cell 2
            have r3 := hqe.1.cell 3
            have r4 := hqe.1.cell 4
            have s0 := hqe.2.1.cell 0
            have s1 := hqe.2.1.cell 1
            have s2 := hqe.2.1.cell 2
            have s3 := hqe.2.1.cell 3
            have s4 := hqe.2.1.cell 4
            have HEND := Lib.hid hqe.2.2
            clear hqe
            refine bodyPost_ret (by simp [results, Tryz.results50, go_sem, r0, r1, r2, r3, r4, s0, s1, s2, s3, s4]; try rfl) rfl ?_
            exact HGF.out.fails H0.out HK.out.1 HK.out.2 rfl HVf.out.1.1.2.2.2 (by omega) objR_err HEND.out (nil_is _ _ _)
        have e34 : (z2 != 34) = true := by simp [h34]
        have HGF : Hid (Going t c1 x1 X (.error (30, t.size - b2)) True c1 x1) := Lib.hid (.inl ⟨rfl, rfl, by
          rw [HX1.out]
          refine seqJ_err (pairJ_key ?_)
          rw [keyJ_none (by rw [HS2.out]; exact pre_not (q := 34) (fun e => h34 (HZ.out.symm.trans e))), HS2.out, rest_length], trivial⟩)
        clear h34
        obtain ⟨k', y', hfe, hk', hk2'⟩ := fail_both (t := t) (a := b2) (n := n1) (c := c1) (x := x1) 30 b2
        have HF : Hid (Calls Tryz.prog 27 #[stV t b2 n1 c1 x1, .int .i64 30, .int .i64 (b2 : Int)] w13 (fun e w' => e = .returned (stV t b2 n1 k' y') ∧ Below w13.heap.size w13 w')) := Lib.hid (by
          have h := rfail_any (t := t) (a := b2) (n := n1) (c := c1) (x := x1) (k := 30) (y := b2) w13
          rw [hfe] at h
          exact h)
        have HK := Lib.hid (And.intro hk' hk2')
        clear hfe hk' hk2'
        have k0 := HQ2.out.1.1.1.cell 0
        have k1 := HQ2.out.1.1.1.cell 1
        have k2 := HQ2.out.1.1.1.cell 2
        have k3 := HQ2.out.1.1.1.cell 3
        have k4 := HQ2.out.1.1.1.cell 4
        go_wp2_with (go_at_call 27; refine HF.out.mono ?_; rintro e wf ⟨rfl, hbf⟩; refine Hid.out ?_)
        refine Lib.hid ?_
        have HVf := Lib.hid (And.intro (HQ2.out.1.below hbf) (HQ2.out.2.keep ((Above.refl _ w13).call hbf)))
        clear hbf k0 k1 k2 k3 k4 HF
        have q0 := HVf.out.1.1.2.1.cell 0
        have q1 := HVf.out.1.1.2.1.cell 1
        have q2 := HVf.out.1.1.2.1.cell 2
        have q3 := HVf.out.1.1.2.1.cell 3
        have q4 := HVf.out.1.1.2.1.cell 4
        have g0 := HVf.out.1.1.2.1.frozen 0
        have g1 := HVf.out.1.1.2.1.frozen 1
        have g2 := HVf.out.1.1.2.1.frozen 2
        have g3 := HVf.out.1.1.2.1.frozen 3
        have g4 := HVf.out.1.1.2.1.frozen 4
        have p0 := HVf.out.1.2.cell 0
        have p1 := HVf.out.1.2.cell 1
        have p2 := HVf.out.1.2.cell 2
        have p3 := HVf.out.1.2.cell 3
        have p4 := HVf.out.1.2.cell 4
        have h0 := HVf.out.1.2.frozen 0
        have h1 := HVf.out.1.2.frozen 1
        have h2 := HVf.out.1.2.frozen 2
        have h3 := HVf.out.1.2.frozen 3
        have h4 := HVf.out.1.2.frozen 4
        go_wp2_with fail
        have hqe := (HVf.out.1).ends (.string t) (.int .i64 (b2 : Int)) (.int .i64 (n1 : Int)) (.int .i64 (k' : Int)) (.int .i64 (y' : Int)) (.int .i64 0) (.bool false) (.string ⟨#[]⟩) (.slice none 0 0) (.slice none 0 0)
        have r0 := hqe.1.cell 0
        have r1 := hqe.1.cell 1
        have r2 := hqe.1.cell 2
        have r3 := hqe.1.cell 3
        have r4 := hqe.1.cell 4
        have s0 := hqe.2.1.cell 0
        have s1 := hqe.2.1.cell 1
        have s2 := hqe.2.1.cell 2
        have s3 := hqe.2.1.cell 3
        have s4 := hqe.2.1.cell 4
        have HEND := Lib.hid hqe.2.2
        clear hqe
        refine bodyPost_ret (by simp [results, Tryz.results50, go_sem, r0, r1, r2, r3, r4, s0, s1, s2, s3, s4]; try rfl) rfl ?_
        exact HGF.out.fails H0.out HK.out.1 HK.out.2 rfl HVf.out.1.1.2.2.2 (by omega) objR_err HEND.out (nil_is _ _ _)
      case rest =>
        obtain ⟨s, b3, k3', x3, rfl, HR3, HGV⟩ := hcut
        obtain ⟨w20, hw20⟩ : ∃ w20 : World, w20 = wc := ⟨_, rfl⟩
        subst hw20
        have hb3 := HR3.out.1.1.2.2.2
        have HVAL := Lib.hid (fun w => val_both hb3 hs hn1 H0.out HV.out HGV.out w)
        clear HX1 HP1 HR HGV
        have hwx : Above (W.heap.size + 3) w20 (w20.alloc (.cells #[.int .i64 0, .bool false, .string ⟨#[]⟩, .slice none 0 0, .slice none 0 0] 26)) := (Above.refl _ w20).alloc _
        have HR2 : Hid ((DocV W (w20.alloc (.cells #[.int .i64 0, .bool false, .string ⟨#[]⟩, .slice none 0 0, .slice none 0 0] 26)) t b3 n1 k3' x3 ∧ ObjD W.heap.size (w20.alloc (.cells #[.int .i64 0, .bool false, .string ⟨#[]⟩, .slice none 0 0, .slice none 0 0] 26)) (.slice ad yy.length cap) (.slice adk ks.length capk) ks yy) ∧ Blk (w20.alloc (.cells #[.int .i64 0, .bool false, .string ⟨#[]⟩, .slice none 0 0, .slice none 0 0] 26)) w20.heap.size #[.int .i64 0, .bool false, .string ⟨#[]⟩, .slice none 0 0, .slice none 0 0] 26 ∧ Below w20.heap.size w20 (w20.alloc (.cells #[.int .i64 0, .bool false, .string ⟨#[]⟩, .slice none 0 0, .slice none 0 0] 26))) := Lib.hid ⟨⟨HR3.out.1.below (below_new0 _ _), HR3.out.2.keep hwx⟩, Blk.new _ _ _, below_new0 _ _⟩
        clear hwx
        go_upto_region 26 with fail
        obtain ⟨wx1, hwx1⟩ : ∃ wx1, w20.alloc (.cells #[.int .i64 0, .bool false, .string ⟨#[]⟩, .slice none 0 0, .slice none 0 0] 26) = wx1 := ⟨_, rfl⟩
        rw [hwx1] at HR2 ⊢
        clear hwx1
        obtain ⟨xb, hxb⟩ : ∃ xb, w20.heap.size = xb := ⟨_, rfl⟩
        rw [hxb] at HR2 ⊢
        have HXB := Lib.hid hxb
        clear hxb
        have k0 := HR2.out.1.1.1.1.cell 0
        have k1 := HR2.out.1.1.1.1.cell 1
        have k2 := HR2.out.1.1.1.1.cell 2
        have k3 := HR2.out.1.1.1.1.cell 3
        have k4 := HR2.out.1.1.1.1.cell 4
        go_wp2_with fail
        go_at_call 25; refine (HVAL.out _).mono ?_
        rintro e8 w8 ⟨hb8, b8, n8, k8, x8, v8, T8, rfl, hF8, hbt8, hn8, hG8⟩
        obtain ⟨vk, vb, vt, vad, vn, vcap, vadk, vnk, vcapk, rfl⟩ := hF8.shape
        obtain ⟨ex, hex⟩ : ∃ ex : It, ex = It.mk vk vb vt (.slice vad vn vcap) (.slice vadk vnk vcapk) T8 := ⟨_, rfl⟩
        have HEX : Hid (ex.val = .agg #[.int .i64 vk, .bool vb, .string vt, .slice vad vn vcap, .slice vadk vnk vcapk] ∧ ex.T = T8) := Lib.hid (by rw [hex]; exact ⟨rfl, rfl⟩)
        have hxl : W.heap.size + 3 < xb := by have := HR3.out.2.box.lt; have := HXB.out; omega
        have hxw := HR2.out.2.1.lt
        have hd8 := HR2.out.1.1.below hb8
        have hl8 := HR2.out.2.1.below hb8
        have HA : Hid ((DocV W ((((((((((w8.setCell ⟨W.heap.size, 0, none⟩ (.string t)).setCell ⟨W.heap.size, 1, none⟩ (.int .i64 (b8 : Int))).setCell ⟨W.heap.size, 2, none⟩ (.int .i64 (n8 : Int))).setCell ⟨W.heap.size, 3, none⟩ (.int .i64 (k8 : Int))).setCell ⟨W.heap.size, 4, none⟩ (.int .i64 (x8 : Int))).setCell ⟨xb, 0, none⟩ (.int .i64 vk)).setCell ⟨xb, 1, none⟩ (.bool vb)).setCell ⟨xb, 2, none⟩ (.string vt)).setCell ⟨xb, 3, none⟩ (.slice vad vn vcap)).setCell ⟨xb, 4, none⟩ (.slice vadk vnk vcapk)) t b8 n8 k8 x8 ∧ ObjD W.heap.size ((((((((((w8.setCell ⟨W.heap.size, 0, none⟩ (.string t)).setCell ⟨W.heap.size, 1, none⟩ (.int .i64 (b8 : Int))).setCell ⟨W.heap.size, 2, none⟩ (.int .i64 (n8 : Int))).setCell ⟨W.heap.size, 3, none⟩ (.int .i64 (k8 : Int))).setCell ⟨W.heap.size, 4, none⟩ (.int .i64 (x8 : Int))).setCell ⟨xb, 0, none⟩ (.int .i64 vk)).setCell ⟨xb, 1, none⟩ (.bool vb)).setCell ⟨xb, 2, none⟩ (.string vt)).setCell ⟨xb, 3, none⟩ (.slice vad vn vcap)).setCell ⟨xb, 4, none⟩ (.slice vadk vnk vcapk)) (.slice ad yy.length cap) (.slice adk ks.length capk) ks yy) ∧ Blk ((((((((((w8.setCell ⟨W.heap.size, 0, none⟩ (.string t)).setCell ⟨W.heap.size, 1, none⟩ (.int .i64 (b8 : Int))).setCell ⟨W.heap.size, 2, none⟩ (.int .i64 (n8 : Int))).setCell ⟨W.heap.size, 3, none⟩ (.int .i64 (k8 : Int))).setCell ⟨W.heap.size, 4, none⟩ (.int .i64 (x8 : Int))).setCell ⟨xb, 0, none⟩ (.int .i64 vk)).setCell ⟨xb, 1, none⟩ (.bool vb)).setCell ⟨xb, 2, none⟩ (.string vt)).setCell ⟨xb, 3, none⟩ (.slice vad vn vcap)).setCell ⟨xb, 4, none⟩ (.slice vadk vnk vcapk)) xb #[.int .i64 vk, .bool vb, .string vt, .slice vad vn vcap, .slice vadk vnk vcapk] 26 ∧ Fresh (W.heap.size + 4) ((((((((((w8.setCell ⟨W.heap.size, 0, none⟩ (.string t)).setCell ⟨W.heap.size, 1, none⟩ (.int .i64 (b8 : Int))).setCell ⟨W.heap.size, 2, none⟩ (.int .i64 (n8 : Int))).setCell ⟨W.heap.size, 3, none⟩ (.int .i64 (k8 : Int))).setCell ⟨W.heap.size, 4, none⟩ (.int .i64 (x8 : Int))).setCell ⟨xb, 0, none⟩ (.int .i64 vk)).setCell ⟨xb, 1, none⟩ (.bool vb)).setCell ⟨xb, 2, none⟩ (.string vt)).setCell ⟨xb, 3, none⟩ (.slice vad vn vcap)).setCell ⟨xb, 4, none⟩ (.slice vadk vnk vcapk)).heap.size ((((((((((w8.setCell ⟨W.heap.size, 0, none⟩ (.string t)).setCell ⟨W.heap.size, 1, none⟩ (.int .i64 (b8 : Int))).setCell ⟨W.heap.size, 2, none⟩ (.int .i64 (n8 : Int))).setCell ⟨W.heap.size, 3, none⟩ (.int .i64 (k8 : Int))).setCell ⟨W.heap.size, 4, none⟩ (.int .i64 (x8 : Int))).setCell ⟨xb, 0, none⟩ (.int .i64 vk)).setCell ⟨xb, 1, none⟩ (.bool vb)).setCell ⟨xb, 2, none⟩ (.string vt)).setCell ⟨xb, 3, none⟩ (.slice vad vn vcap)).setCell ⟨xb, 4, none⟩ (.slice vadk vnk vcapk)) ex.val ex.T) := Lib.hid (by
          have hAb : Above (W.heap.size + 3) w20 w8 := ((Above.refl _ w20).call (by rw [HXB.out]; exact HR2.out.2.2)).call hb8
          refine ⟨⟨(hd8.puts (b := b8) (n' := n8) (c' := k8) (x' := x8) hbt8).low (below_set5 (Below.refl _ _) (by omega) _ _ _ _ _), HR3.out.2.keep ((hAb.set5 (B := W.heap.size) (.inl (by omega)) _ _ _ _ _).set5 (B := xb) (.inr (by have := HXB.out; omega)) _ _ _ _ _)⟩, (hl8.other5 (by omega) _ _ _ _ _).set5 _ _ _ _ _, ?_⟩
          rw [hex]
          exact hF8.keep (fun q h1 h2 => by rw [heap5 _ (by omega), heap5 _ (by omega)]) (by omega) (by simp))
        have HG8 := Lib.hid hG8
        clear hex hG8
        clear k0 k1 k2 k3 k4
        have k0 := hd8.1.1.cell 0
        have k1 := hd8.1.1.cell 1
        have k2 := hd8.1.1.cell 2
        have k3 := hd8.1.1.cell 3
        have k4 := hd8.1.1.cell 4
        have f0 := hd8.1.1.frozen 0
        have f1' := hd8.1.1.frozen 1
        have f2 := hd8.1.1.frozen 2
        have f3 := hd8.1.1.frozen 3
        have f4 := hd8.1.1.frozen 4
        have u0 := hl8.cell 0
        have u1 := hl8.cell 1
        have u2 := hl8.cell 2
        have u3 := hl8.cell 3
        have u4 := hl8.cell 4
        have y0 := hl8.frozen 0
        have y1 := hl8.frozen 1
        have y2 := hl8.frozen 2
        have y3 := hl8.frozen 3
        have y4 := hl8.frozen 4
        clear hb8 hF8 hd8 hl8 HVAL HR3 HR2 hxw HXB
        go_upto_region 28 with fail
        obtain ⟨w9, hw9⟩ : ∃ w9, ((((((((((w8.setCell ⟨W.heap.size, 0, none⟩ (.string t)).setCell ⟨W.heap.size, 1, none⟩ (.int .i64 (b8 : Int))).setCell ⟨W.heap.size, 2, none⟩ (.int .i64 (n8 : Int))).setCell ⟨W.heap.size, 3, none⟩ (.int .i64 (k8 : Int))).setCell ⟨W.heap.size, 4, none⟩ (.int .i64 (x8 : Int))).setCell ⟨xb, 0, none⟩ (.int .i64 vk)).setCell ⟨xb, 1, none⟩ (.bool vb)).setCell ⟨xb, 2, none⟩ (.string vt)).setCell ⟨xb, 3, none⟩ (.slice vad vn vcap)).setCell ⟨xb, 4, none⟩ (.slice vadk vnk vcapk)) = w9 := ⟨_, rfl⟩
        rw [hw9] at HA ⊢
        clear hw9 k0 k1 k2 k3 k4 f0 f1' f2 f3 f4 u0 u1 u2 u3 u4 y0 y1 y2 y3 y4
        have e0' := HA.out.2.1.cell 0
        have e1 := HA.out.2.1.cell 1
        have e2 := HA.out.2.1.cell 2
        have e3 := HA.out.2.1.cell 3
        have e4 := HA.out.2.1.cell 4
        have v0 := HA.out.1.2.box.cell 0
        have v1 := HA.out.1.2.box.cell 1
        have v2 := HA.out.1.2.box.cell 2
        have v3 := HA.out.1.2.box.cell 3
        have v4 := HA.out.1.2.box.cell 4
        have HPUT : Hid (Calls Tryz.prog 68 #[.agg #[.int .i64 6, .bool false, .string ⟨#[]⟩, .slice ad yy.length cap, .slice adk ks.length capk], .string s, .agg #[.int .i64 vk, .bool vb, .string vt, .slice vad vn vcap, .slice vadk vnk vcapk]] w9 (fun e w' => ∃ kv' iv', e = .returned (.agg #[.int .i64 6, .bool false, .string ⟨#[]⟩, iv', kv']) ∧ Grown w9.heap.size w' kv' iv' (insK s (dropK s ks)) (insI s ex (dropK s ks) (dropI s ks yy)) ∧ Below w9.heap.size w9 w')) := Lib.hid (by
          rw [← HEX.out.1]
          exact rPut_obj (HA.out.1.2.strs (by omega)) (HA.out.1.2.items (by omega)) HA.out.1.2.len (by have := HA.out.1.2.len; omega) (HA.out.2.2.at) w9 (Below.refl _ _) (Nat.le_refl _))
        go_wp2_with fail
        go_at_call 68; refine HPUT.out.mono ?_
        rintro e9 w10 ⟨kv', iv', rfl, hg, hb10⟩
        obtain ⟨⟨gad, gcap, rfl⟩, gadk, gcapk, rfl⟩ := hg.slices
        have hlen : (insI s ex (dropK s ks) (dropI s ks yy)).length ≤ yy.length + 1 := by
          rw [insI_length _ _ _ _ (dropI_length s ks yy HA.out.1.2.len).symm, insK_length]
          have := dropK_le s ks
          have := HA.out.1.2.len
          omega
        have hbx := HA.out.1.2.box.below hb10
        have HB := Lib.hid (And.intro ((HA.out.1.1.below hb10).low (below_set5 (Below.refl _ _) (B := W.heap.size + 3) (Nat.le_refl _) (.int .i64 6) (.bool false) (.string ⟨#[]⟩) (.slice gad (insI s ex (dropK s ks) (dropI s ks yy)).length gcap) (.slice gadk (insK s (dropK s ks)).length gcapk))) (HA.out.1.2.put HA.out.2.2 hb10 hg))
        have HGI : Hid (Going t c1 x1 X (tailJ (pairJ (valD e)) 125 f1 (st ++ [(s, T8)]) (rest t b8) n8) (KeysOf (st ++ [(s, T8)]) (insK s (dropK s ks)) ((insI s ex (dropK s ks) (dropI s ks yy)).map It.T) ∧ (insI s ex (dropK s ks) (dropI s ks yy)).length ≤ n8 ∧ (rest t b8).length ≤ f1) k8 x8) := Lib.hid (HG8.out.mono (fun hp => ⟨rfl, by
          rw [insI_map, dropI_map, HEX.out.2]
          exact hp.1.2.1.put hp.1.1 T8, by have := hp.1.2.2.1; have := hp.2.1; omega, by have := hp.1.2.2.2; have := hp.2.2; omega⟩))
        obtain ⟨yz, hyz⟩ : ∃ yz, insI s ex (dropK s ks) (dropI s ks yy) = yz := ⟨_, rfl⟩
        obtain ⟨kz, hkz⟩ : ∃ kz, insK s (dropK s ks) = kz := ⟨_, rfl⟩
        obtain ⟨sz, hsz⟩ : ∃ sz, st ++ [(s, T8)] = sz := ⟨_, rfl⟩
        rw [hyz, hkz] at HB HGI
        rw [hyz] at hlen
        rw [hsz] at HGI
        rw [hyz, hkz]
        have hyn2 : yz.length ≤ 2001 := by omega
        clear e0' e1 e2 e3 e4 v0 v1 v2 v3 v4 hg hlen hyz hkz hsz HPUT HG8
        have v0 := hbx.cell 0
        have v1 := hbx.cell 1
        have v2 := hbx.cell 2
        have v3 := hbx.cell 3
        have v4 := hbx.cell 4
        have f0 := hbx.frozen 0
        have f1' := hbx.frozen 1
        have f2 := hbx.frozen 2
        have f3 := hbx.frozen 3
        have f4 := hbx.frozen 4
        clear hbx hb10 HA
        go_upto_region 30 with fail
        obtain ⟨w11, hw11⟩ : ∃ w11, (((((w10.setCell ⟨W.heap.size + 3, 0, none⟩ (.int .i64 6)).setCell ⟨W.heap.size + 3, 1, none⟩ (.bool false)).setCell ⟨W.heap.size + 3, 2, none⟩ (.string ⟨#[]⟩)).setCell ⟨W.heap.size + 3, 3, none⟩ (.slice gad yz.length gcap)).setCell ⟨W.heap.size + 3, 4, none⟩ (.slice gadk kz.length gcapk)) = w11 := ⟨_, rfl⟩
        rw [hw11] at HB ⊢
        clear hw11 v0 v1 v2 v3 v4 f0 f1' f2 f3 f4
        have HBl := Lib.hid (rblanks_any (a := b8) (n := n8) (c := k8) (x := x8) HB.out.1.1.2.2.2 hs w11)
        have k0 := HB.out.1.1.1.cell 0
        have k1 := HB.out.1.1.1.cell 1
        have k2 := HB.out.1.1.1.cell 2
        have k3 := HB.out.1.1.1.cell 3
        have k4 := HB.out.1.1.1.cell 4
        go_wp2_with fail
        go_at_call 26; refine HBl.out.mono ?_; rintro e wt ⟨b9, rfl, hsk, hbtb9, hbw⟩
        have HSKb9 := Lib.hid hsk
        have h1 := HB.out.1.below hbw
        have h2 := h1.puts (b := b9) (n' := n8) (c' := k8) (x' := x8) hbtb9
        have h3 := HB.out.2.keep (((Above.refl _ w11).call hbw).set5 (B := W.heap.size) (.inl (by omega)) (.string t) (.int .i64 (b9 : Int)) (.int .i64 (n8 : Int)) (.int .i64 (k8 : Int)) (.int .i64 (x8 : Int)))
        have f0 := h1.1.1.frozen 0
        have f1 := h1.1.1.frozen 1
        have f2 := h1.1.1.frozen 2
        have f3 := h1.1.1.frozen 3
        have f4 := h1.1.1.frozen 4
        have HH := Lib.hid (And.intro h2 h3)
        clear k0 k1 k2 k3 k4 hsk HBl h2 h3
        have k0 := h1.1.1.cell 0
        have k1 := h1.1.1.cell 1
        have k2 := h1.1.1.cell 2
        have k3 := h1.1.1.cell 3
        have k4 := h1.1.1.cell 4
        clear h1 hbw
        go_upto_region 31 with fail
        obtain ⟨w12, hw2⟩ : ∃ w12, (((((wt.setCell ⟨W.heap.size, 0, none⟩ (.string t)).setCell ⟨W.heap.size, 1, none⟩ (.int .i64 (b9 : Int))).setCell ⟨W.heap.size, 2, none⟩ (.int .i64 (n8 : Int))).setCell ⟨W.heap.size, 3, none⟩ (.int .i64 (k8 : Int))).setCell ⟨W.heap.size, 4, none⟩ (.int .i64 (x8 : Int))) = w12 := ⟨_, rfl⟩
        rw [hw2] at HH ⊢
        have HT3 := Lib.hid HH.out
        clear HH hw2 f0 f1 f2 f3 f4 k0 k1 k2 k3 k4
        have HS9 : Hid (skipB (rest t b8) = rest t b9) := Lib.hid HSKb9.out.symm
        obtain ⟨z9, hz9⟩ : ∃ z, headZ (rest t b9) = z := ⟨_, rfl⟩
        obtain ⟨zl9, zh9⟩ := hz9 ▸ headZ_bound (rest t b9)
        clear HZ
        have HZ := Lib.hid hz9
        have hb98 : b9 < t.size → (rest t (b9 + 1)).length < (rest t b8).length := fun h => by
          have h1 := skipB_le (rest t b8)
          rw [HS9.out, rest_length] at h1
          rw [rest_length]
          omega
        have HB98 := Lib.hid hb98
        clear hz9 HSKb9 HB hb98
        have HCz := Lib.hid (show Calls Tryz.prog 45 #[stV t b9 n8 k8 x8] w12 (fun e w' => e = .returned (.int .i64 z9) ∧ Below w12.heap.size w12 w') from HZ.out ▸ rc_any (a := b9) (n := n8) (c := k8) (x := x8) HT3.out.1.1.2.2.2 hs w12)
        have k0 := HT3.out.1.1.1.cell 0
        have k1 := HT3.out.1.1.1.cell 1
        have k2 := HT3.out.1.1.1.cell 2
        have k3 := HT3.out.1.1.1.cell 3
        have k4 := HT3.out.1.1.1.cell 4
        go_wp2_with fail
        go_at_call 45; refine HCz.out.mono ?_; rintro e w13 ⟨rfl, hbz⟩
        have HT4 := Lib.hid (And.intro (HT3.out.1.below hbz) (HT3.out.2.keep ((Above.refl _ w12).call hbz)))
        clear hbz HCz k0 k1 k2 k3 k4
        by_cases h125 : z9 = 125
        · have e125 : (z9 == 125) = true := by simp [h125]
          have HG : Hid (Going t c1 x1 X (.ok (sz, (rest t b9).drop 1, n8)) (KeysOf sz kz (yz.map It.T)) k8 x8) := Lib.hid (HGI.out.mono (fun hp => ⟨tailJ_end HS9.out (HZ.out.trans h125), hp.1⟩))
          have hbt2 : b9 < t.size := head_lt (q := 125) (HZ.out.trans h125)
          clear h125
          have k1 := HT4.out.1.1.1.cell 1
          have f1' := HT4.out.1.1.1.frozen 1
          have i9 : (0 : Int) ≤ (b9 : Int) := by omega
          have HM1 : Hid (DocV W (w13.setCell ⟨W.heap.size, 1, none⟩ (.int .i64 ((b9 : Int) + 1))) t (b9 + 1) n8 k8 x8 ∧ ObjD W.heap.size (w13.setCell ⟨W.heap.size, 1, none⟩ (.int .i64 ((b9 : Int) + 1))) (.slice gad yz.length gcap) (.slice gadk kz.length gcapk) kz yz) := Lib.hid ⟨HT4.out.1.moves (b := b9 + 1) (by omega), HT4.out.2.keep ((Above.refl _ w13).set (.inl (by show W.heap.size < W.heap.size + 3; omega)) _)⟩
          go_upto_region 33 with fail
          obtain ⟨w9e, hw9⟩ : ∃ w9, w13.setCell ⟨W.heap.size, 1, none⟩ (.int .i64 ((b9 : Int) + 1)) = w9 := ⟨_, rfl⟩
          rw [hw9] at HM1 ⊢
          clear hw9 k1 f1'
          have k0 := HM1.out.1.1.1.cell 0
          have k1 := HM1.out.1.1.1.cell 1
          have k2 := HM1.out.1.1.1.cell 2
          have k3 := HM1.out.1.1.1.cell 3
          have k4 := HM1.out.1.1.1.cell 4
          have v0 := HM1.out.2.box.cell 0
          have v1 := HM1.out.2.box.cell 1
          have v2 := HM1.out.2.box.cell 2
          have v3 := HM1.out.2.box.cell 3
          have v4 := HM1.out.2.box.cell 4
          have q0 := HM1.out.1.1.2.1.cell 0
          have q1 := HM1.out.1.1.2.1.cell 1
          have q2 := HM1.out.1.1.2.1.cell 2
          have q3 := HM1.out.1.1.2.1.cell 3
          have q4 := HM1.out.1.1.2.1.cell 4
          have g0 := HM1.out.1.1.2.1.frozen 0
          have g1 := HM1.out.1.1.2.1.frozen 1
          have g2 := HM1.out.1.1.2.1.frozen 2
          have g3 := HM1.out.1.1.2.1.frozen 3
          have g4 := HM1.out.1.1.2.1.frozen 4
          have p0 := HM1.out.1.2.cell 0
          have p1 := HM1.out.1.2.cell 1
          have p2 := HM1.out.1.2.cell 2
          have p3 := HM1.out.1.2.cell 3
          have p4 := HM1.out.1.2.cell 4
          have h0 := HM1.out.1.2.frozen 0
          have h1 := HM1.out.1.2.frozen 1
          have h2 := HM1.out.1.2.frozen 2
          have h3 := HM1.out.1.2.frozen 3
          have h4 := HM1.out.1.2.frozen 4
          go_region
          go_wp2_with fail
          have hqe := (HM1.out.1).ends (.string t) (.int .i64 ((b9 : Int) + 1)) (.int .i64 (n8 : Int)) (.int .i64 (k8 : Int)) (.int .i64 (x8 : Int)) (.int .i64 6) (.bool false) (.string ⟨#[]⟩) (.slice gad yz.length gcap) (.slice gadk kz.length gcapk)
          have r0 := hqe.1.cell 0
          have r1 := hqe.1.cell 1
          have r2 := hqe.1.cell 2
          have r3 := hqe.1.cell 3
          have r4 := hqe.1.cell 4
          have s0 := hqe.2.1.cell 0
          have s1 := hqe.2.1.cell 1
          have s2 := hqe.2.1.cell 2
          have s3 := hqe.2.1.cell 3
          have s4 := hqe.2.1.cell 4
          have HEND := Lib.hid hqe.2.2
          clear hqe
          have hab := (((Above.refl (W.heap.size + 3) w9e).set5 (B := W.heap.size + 1) (.inl (by omega)) (.string t) (.int .i64 ((b9 : Int) + 1)) (.int .i64 (n8 : Int)) (.int .i64 (k8 : Int)) (.int .i64 (x8 : Int))).set5 (B := W.heap.size + 1 + 1) (.inl (by omega)) (.int .i64 6) (.bool false) (.string ⟨#[]⟩) (.slice gad yz.length gcap) (.slice gadk kz.length gcapk)).call (below_drew _)
          have HFR := Lib.hid ((HM1.out.2.keep hab).fresh (lo := W.heap.size) (by omega) (by omega))
          clear hab
          refine bodyPost_ret (by simp [results, Tryz.results50, go_sem, r0, r1, r2, r3, r4, s0, s1, s2, s3, s4]; try rfl) rfl ?_
          exact HG.out.done (b := b9 + 1) (fun hXX hK => by rw [hXX]; exact congrArg (fun T => Except.ok (T, (rest t b9).drop 1, n8)) hK.made) (rest_add _ _ _) (by omega) hn8 objR_err HEND.out.drew HFR.out
        have e125' : (z9 == 125) = false := by simp [h125]
        have HCz := Lib.hid (show Calls Tryz.prog 45 #[stV t b9 n8 k8 x8] w13 (fun e w' => e = .returned (.int .i64 z9) ∧ Below w13.heap.size w13 w') from HZ.out ▸ rc_any (a := b9) (n := n8) (c := k8) (x := x8) HT4.out.1.1.2.2.2 hs w13)
        have k0 := HT4.out.1.1.1.cell 0
        have k1 := HT4.out.1.1.1.cell 1
        have k2 := HT4.out.1.1.1.cell 2
        have k3 := HT4.out.1.1.1.cell 3
        have k4 := HT4.out.1.1.1.cell 4
        go_wp2_with fail
        go_at_call 45; refine HCz.out.mono ?_; rintro e w14 ⟨rfl, hbz⟩
        have HT5 := Lib.hid (And.intro (HT4.out.1.below hbz) (HT4.out.2.keep ((Above.refl _ w13).call hbz)))
        clear hbz HCz k0 k1 k2 k3 k4
        by_cases h44 : z9 = 44
        · have e44 : (z9 != 44) = false := by simp [h44]
          have hbt2 : b9 < t.size := head_lt (q := 44) (HZ.out.trans h44)
          have HGN : Hid (Going t c1 x1 X (seqJ (pairJ (valD e)) 125 f1 sz (rest t (b9 + 1)) n8) (KeysOf sz kz (yz.map It.T) ∧ yz.length ≤ n8 ∧ (rest t (b9 + 1)).length < f1) k8 x8) := Lib.hid (HGI.out.mono (fun hp => ⟨by rw [tailJ_more (q := 125) HS9.out (fun e => h125 (HZ.out.symm.trans e)) (HZ.out.trans h44), ← rest_add], hp.1, hp.2.1, by have := HB98.out hbt2; have := hp.2.2; omega⟩))
          clear h44 h125
          have k1 := HT5.out.1.1.1.cell 1
          have f1' := HT5.out.1.1.1.frozen 1
          have i9 : (0 : Int) ≤ (b9 : Int) := by omega
          have HM1 : Hid (DocV W (w14.setCell ⟨W.heap.size, 1, none⟩ (.int .i64 ((b9 : Int) + 1))) t (b9 + 1) n8 k8 x8 ∧ ObjD W.heap.size (w14.setCell ⟨W.heap.size, 1, none⟩ (.int .i64 ((b9 : Int) + 1))) (.slice gad yz.length gcap) (.slice gadk kz.length gcapk) kz yz) := Lib.hid ⟨HT5.out.1.moves (b := b9 + 1) (by omega), HT5.out.2.keep ((Above.refl _ w14).set (.inl (by show W.heap.size < W.heap.size + 3; omega)) _)⟩
          go_wp2_with fail
          go_roundg g'
          case measure => omega
          case rel => exact ⟨b9 + 1, n8, k8, x8, f1, gad, gadk, gcap, gcapk, kz, yz, sz, HM1, hn8, hyn2, by omega, HGN⟩
        have e44 : (z9 != 44) = true := by simp [h44]
        have HGF : Hid (Going t c1 x1 X (.error (30, t.size - b9)) True k8 x8) := Lib.hid (HGI.out.mono (fun hp => ⟨by rw [tailJ_bad (q := 125) HS9.out (fun e => h125 (HZ.out.symm.trans e)) (fun e => h44 (HZ.out.symm.trans e)), rest_length], trivial⟩))
        clear h44 h125
        obtain ⟨k', y', hfe, hk', hk2'⟩ := fail_both (t := t) (a := b9) (n := n8) (c := k8) (x := x8) 30 b9
        have HF : Hid (Calls Tryz.prog 27 #[stV t b9 n8 k8 x8, .int .i64 30, .int .i64 (b9 : Int)] w14 (fun e w' => e = .returned (stV t b9 n8 k' y') ∧ Below w14.heap.size w14 w')) := Lib.hid (by
          have h := rfail_any (t := t) (a := b9) (n := n8) (c := k8) (x := x8) (k := 30) (y := b9) w14
          rw [hfe] at h
          exact h)
        have HK := Lib.hid (And.intro hk' hk2')
        clear hfe hk' hk2'
        have k0 := HT5.out.1.1.1.cell 0
        have k1 := HT5.out.1.1.1.cell 1
        have k2 := HT5.out.1.1.1.cell 2
        have k3 := HT5.out.1.1.1.cell 3
        have k4 := HT5.out.1.1.1.cell 4
        go_wp2_with (go_at_call 27; refine HF.out.mono ?_; rintro e wf ⟨rfl, hbf⟩; refine Hid.out ?_)
        refine Lib.hid ?_
        have HVf := Lib.hid (And.intro (HT5.out.1.below hbf) (HT5.out.2.keep ((Above.refl _ w14).call hbf)))
        clear hbf k0 k1 k2 k3 k4 HF
        have q0 := HVf.out.1.1.2.1.cell 0
        have q1 := HVf.out.1.1.2.1.cell 1
        have q2 := HVf.out.1.1.2.1.cell 2
        have q3 := HVf.out.1.1.2.1.cell 3
        have q4 := HVf.out.1.1.2.1.cell 4
        have g0 := HVf.out.1.1.2.1.frozen 0
        have g1 := HVf.out.1.1.2.1.frozen 1
        have g2 := HVf.out.1.1.2.1.frozen 2
        have g3 := HVf.out.1.1.2.1.frozen 3
        have g4 := HVf.out.1.1.2.1.frozen 4
        have p0 := HVf.out.1.2.cell 0
        have p1 := HVf.out.1.2.cell 1
        have p2 := HVf.out.1.2.cell 2
        have p3 := HVf.out.1.2.cell 3
        have p4 := HVf.out.1.2.cell 4
        have h0 := HVf.out.1.2.frozen 0
        have h1 := HVf.out.1.2.frozen 1
        have h2 := HVf.out.1.2.frozen 2
        have h3 := HVf.out.1.2.frozen 3
        have h4 := HVf.out.1.2.frozen 4
        go_wp2_with fail
        have hqe := (HVf.out.1).ends (.string t) (.int .i64 (b9 : Int)) (.int .i64 (n8 : Int)) (.int .i64 (k' : Int)) (.int .i64 (y' : Int)) (.int .i64 0) (.bool false) (.string ⟨#[]⟩) (.slice none 0 0) (.slice none 0 0)
        have r0 := hqe.1.cell 0
        have r1 := hqe.1.cell 1
        have r2 := hqe.1.cell 2
        have r3 := hqe.1.cell 3
        have r4 := hqe.1.cell 4
        have s0 := hqe.2.1.cell 0
        have s1 := hqe.2.1.cell 1
        have s2 := hqe.2.1.cell 2
        have s3 := hqe.2.1.cell 3
        have s4 := hqe.2.1.cell 4
        have HEND := Lib.hid hqe.2.2
        clear hqe
        refine bodyPost_ret (by simp [results, Tryz.results50, go_sem, r0, r1, r2, r3, r4, s0, s1, s2, s3, s4]; try rfl) rfl ?_
        exact HGF.out.fails H0.out HK.out.1 HK.out.2 rfl HVf.out.1.1.2.2.2 (by omega) objR_err HEND.out (nil_is _ _ _)
    · have e0 : ((c1 : Int) == 0) = false := by simp; omega
      have HC := Lib.hid hc
      clear hc
      have k0 := HR.out.1.1.1.cell 0
      have k1 := HR.out.1.1.1.cell 1
      have k2 := HR.out.1.1.1.cell 2
      have k3 := HR.out.1.1.1.cell 3
      have k4 := HR.out.1.1.1.cell 4
      have q0 := HR.out.1.1.2.1.cell 0
      have q1 := HR.out.1.1.2.1.cell 1
      have q2 := HR.out.1.1.2.1.cell 2
      have q3 := HR.out.1.1.2.1.cell 3
      have q4 := HR.out.1.1.2.1.cell 4
      have g0 := HR.out.1.1.2.1.frozen 0
      have g1 := HR.out.1.1.2.1.frozen 1
      have g2 := HR.out.1.1.2.1.frozen 2
      have g3 := HR.out.1.1.2.1.frozen 3
      have g4 := HR.out.1.1.2.1.frozen 4
      have p0 := HR.out.1.2.cell 0
      have p1 := HR.out.1.2.cell 1
      have p2 := HR.out.1.2.cell 2
      have p3 := HR.out.1.2.cell 3
      have p4 := HR.out.1.2.cell 4
      have h0 := HR.out.1.2.frozen 0
      have h1 := HR.out.1.2.frozen 1
      have h2 := HR.out.1.2.frozen 2
      have h3 := HR.out.1.2.frozen 3
      have h4 := HR.out.1.2.frozen 4
      go_wp2_with fail
      have hqe := (HR.out.1).ends (.string t) (.int .i64 (b1 : Int)) (.int .i64 (n1 : Int)) (.int .i64 (c1 : Int)) (.int .i64 (x1 : Int)) (.int .i64 0) (.bool false) (.string ⟨#[]⟩) (.slice none 0 0) (.slice none 0 0)
      have r0 := hqe.1.cell 0
      have r1 := hqe.1.cell 1
      have r2 := hqe.1.cell 2
      have r3 := hqe.1.cell 3
      have r4 := hqe.1.cell 4
      have s0 := hqe.2.1.cell 0
      have s1 := hqe.2.1.cell 1
      have s2 := hqe.2.1.cell 2
      have s3 := hqe.2.1.cell 3
      have s4 := hqe.2.1.cell 4
      have HEND := Lib.hid hqe.2.2
      clear hqe
      refine bodyPost_ret (by simp [results, Tryz.results50, go_sem, r0, r1, r2, r3, r4, s0, s1, s2, s3, s4]; try rfl) rfl ?_
      exact HG.out.wrong H0.out HC.out HR.out.1.1.2.2.2 hn1 objR_err HEND.out (nil_is _ _ _)
end Go.Proofs.YtnmfoedfllmclaaGreatDoor
