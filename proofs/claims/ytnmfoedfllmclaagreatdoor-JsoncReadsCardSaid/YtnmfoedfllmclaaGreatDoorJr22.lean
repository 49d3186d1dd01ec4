/- The document's own reader: a text between its quotes -/
import Derived.Test.YtnmfoedfllmclaaGreatDoorJr14
import Derived.Test.YtnmfoedfllmclaaGreatDoorJr17
import Derived.Test.YtnmfoedfllmclaaGreatDoorJr21
namespace Go.Proofs.YtnmfoedfllmclaaGreatDoor
open Go.RowKit Go.Shelf
set_option linter.unusedVariables false

theorem DocJ.start (W : World) {t : ByteArray} {a n c x : Nat} (ha : a ≤ t.size) : DocJ W ((W.alloc (.cells #[.string t, .int .i64 (a : Int), .int .i64 (n : Int), .int .i64 (c : Int), .int .i64 (x : Int)] 56)).alloc (.cells #[.string ⟨#[]⟩, .int .i64 0, .int .i64 0, .int .i64 0, .int .i64 0] 56)) t a n c x := by
  refine ⟨?_, ?_, by go_grown, ha⟩
  · exact (Blk.new _ _ _).alloc _
  · have := Blk.new (W.alloc (.cells #[.string t, .int .i64 (a : Int), .int .i64 (n : Int), .int .i64 (c : Int), .int .i64 (x : Int)] 56)) #[.string ⟨#[]⟩, .int .i64 0, .int .i64 0, .int .i64 0, .int .i64 0] 56
    rw [World.size_alloc] at this
    exact this
theorem DocJ.oth {W wx w' : World} {t : ByteArray} {a n c x : Nat} (h : DocJ W wx t a n c x) (hb : Below W.heap.size wx w') (ho : Oth wx w') : DocJ W w' t a n c x :=
  ⟨ho.blk h.1 (by decide), ho.blk h.2.1 (by decide), h.2.2.1.trans hb, h.2.2.2⟩
theorem Row.far {B k j : Nat} {w : World} {v : Value} {L : List UInt8} {cs : Array Value} {ty : TypeId} (h : Row B w v L) (hk : Blk w k cs ty) (ht : ty ≠ 5) (u : Value) : Row B (w.setCell ⟨k, j, none⟩ u) v L := by
  obtain ⟨h1, h2⟩ := h
  refine ⟨h1, ?_⟩
  rcases h2 with h2 | ⟨g, cap, cur, rfl, h3, h4, h5⟩
  · exact .inl h2
  · have hne : g ≠ k := by
      rintro rfl
      have h6 : w.heap[g]? = some (.cells cs ty) := hk
      rw [h4] at h6
      cases h6
      exact ht rfl
    refine .inr ⟨g, cap, cur, rfl, h3, ?_, h5⟩
    rw [Below.heap_setCell w ⟨k, j, none⟩ u g hne]
    exact h4
theorem Row.far5 {B k : Nat} {w : World} {v : Value} {L : List UInt8} {cs : Array Value} {ty : TypeId} (h : Row B w v L) (hk : Blk w k cs ty) (ht : ty ≠ 5) (u0 u1 u2 u3 u4 : Value) : Row B (((((w.setCell ⟨k, 0, none⟩ u0).setCell ⟨k, 1, none⟩ u1).setCell ⟨k, 2, none⟩ u2).setCell ⟨k, 3, none⟩ u3).setCell ⟨k, 4, none⟩ u4) v L :=
  ((((h.far hk ht u0).far (hk.set 0 u0) ht u1).far ((hk.set 0 u0).set 1 u1) ht u2).far (((hk.set 0 u0).set 1 u1).set 2 u2) ht u3).far ((((hk.set 0 u0).set 1 u1).set 2 u2).set 3 u3) ht u4
theorem drew_end {W w : World} {a0 a1 a2 a3 a4 : Value} {ty : TypeId} (h : Blk w (W.heap.size + 1) #[a0, a1, a2, a3, a4] ty) (hb : Below W.heap.size W w) (b0 b1 b2 b3 b4 : Value) : Blk ((((((w.setCell ⟨W.heap.size + 1, 0, none⟩ b0).setCell ⟨W.heap.size + 1, 1, none⟩ b1).setCell ⟨W.heap.size + 1, 2, none⟩ b2).setCell ⟨W.heap.size + 1, 3, none⟩ b3).setCell ⟨W.heap.size + 1, 4, none⟩ b4).drew) (W.heap.size + 1) #[b0, b1, b2, b3, b4] ty ∧ Below W.heap.size W ((((((w.setCell ⟨W.heap.size + 1, 0, none⟩ b0).setCell ⟨W.heap.size + 1, 1, none⟩ b1).setCell ⟨W.heap.size + 1, 2, none⟩ b2).setCell ⟨W.heap.size + 1, 3, none⟩ b3).setCell ⟨W.heap.size + 1, 4, none⟩ b4).drew) :=
  ⟨(h.set5 b0 b1 b2 b3 b4).below (below_drew _), (below_set5 hb (Nat.le_succ _) b0 b1 b2 b3 b4).drew⟩
theorem fail_to {t : ByteArray} {a n c x : Nat} (h0 : c = 0) (k y : Nat) (W : World) : Calls Tryz.prog 27 #[stV t a n c x, .int .i64 (k : Int), .int .i64 (y : Int)] W fun e w' => e = .returned (stV t a n k y) ∧ Below W.heap.size W w' := by
  have h := rfail_any (t := t) (a := a) (n := n) (c := c) (x := x) (k := k) (y := y) W
  unfold failS at h
  rw [if_pos h0] at h
  exact h
/-- How quoted ends. -/
def QdE (W : World) (t : ByteArray) (n c0 x0 : Nat) (r : Except Bad (ByteArray × List UInt8)) (e : Ending) (w' : World) : Prop := Below W.heap.size W w' ∧ match r with
  | .ok (s, R') => ∃ b, e = .returned (.tuple #[stV t b n c0 x0, .string s]) ∧ b ≤ t.size ∧ rest t b = R'
  | .error bd => ∃ b k : Nat, e = .returned (.tuple #[stV t b n k (t.size - bd.2), .string ⟨#[]⟩]) ∧ b ≤ t.size ∧ k ≠ 0 ∧ (k : Int) = bd.1
theorem rune_doc (t : ByteArray) (d : Nat) : docRune (headZ (rest t d)) (headZ (rest t (d + 1))) (headZ (rest t (d + 2))) (headZ (rest t (d + 3))) = if rest t d = [] then 0 else if Lib.decodeL (rest t d) = (65533, 1) then 0 else (Lib.decodeL (rest t d)).2 := by
  rw [rest_add, rest_add, rest_add]
  exact docRune_L (rest t d)
theorem headZ_pre {R : List UInt8} {q : UInt8} (h : headZ R = (q.toNat : Int)) : Lib.hasPrefix R [q] = true := by
  cases R with
  | nil =>
    have h : (-1 : Int) = (q.toNat : Int) := h
    omega
  | cons c r =>
    have h : (c.toNat : Int) = (q.toNat : Int) := h
    obtain rfl : c = q := UInt8.toNat_inj.1 (by omega)
    simp [Lib.hasPrefix, List.isPrefixOf]
theorem headZ_npre {R : List UInt8} {q : UInt8} (h : headZ R ≠ (q.toNat : Int)) : Lib.hasPrefix R [q] = false := by
  cases R with
  | nil => rfl
  | cons c r =>
    have h : (c.toNat : Int) ≠ (q.toNat : Int) := h
    have : ¬ q = c := by rintro rfl; exact h rfl
    simp [Lib.hasPrefix, List.isPrefixOf, this]
theorem runeJ_ctl {R : List UInt8} (h0 : 0 ≤ headZ R) (h : headZ R < 32) : runeJ R = .error 30 := by
  cases R with
  | nil => rfl
  | cons c r =>
    have h : (c.toNat : Int) < 32 := h
    exact runeJ_low (show c.toNat < 32 by omega)
theorem runeJ_raw {R : List UInt8} (h : ¬ headZ R < 32) (h92 : headZ R ≠ 92) : runeJ R = if Lib.decodeL R = (65533, 1) then .error 31 else .ok (((Lib.decodeL R).1 : Int), R.drop (Lib.decodeL R).2) := by
  cases R with
  | nil => exact absurd (show (-1 : Int) < 32 by decide) h
  | cons c r =>
    have h : ¬ (c.toNat : Int) < 32 := h
    have h92 : (c.toNat : Int) ≠ 92 := h92
    rw [runeJ_more (R := c :: r) (show ¬ c.toNat < 32 by omega) (show c.toNat ≠ 92 by omega)]
    have hd : Utf8.decode ⟨(c :: r).toArray⟩ 0 = Lib.decodeL (c :: r) := rfl
    rw [hd]
    by_cases hb : (Lib.decodeL (c :: r)).1 = 65533 ∧ (Lib.decodeL (c :: r)).2 = 1
    · rw [if_pos hb, if_pos (Prod.ext hb.1 hb.2)]
    · rw [if_neg hb, if_neg (fun e => hb ⟨by rw [e], by rw [e]⟩)]
theorem headZ_back {t : ByteArray} {d : Nat} (h : headZ (rest t d) = 92) : ∃ h : d < t.size, t[d]'h = 92 := by
  by_cases hlt : d < t.size
  · refine ⟨hlt, ?_⟩
    rw [rest_cons hlt] at h
    have h : ((t[d]'hlt).toNat : Int) = 92 := h
    apply UInt8.toNat_inj.1
    have : (92 : UInt8).toNat = 92 := rfl
    omega
  · rw [rest_nil (by omega)] at h
    exact absurd h (by decide)
theorem pairL_30 {R : List UInt8} {c : Int} (h : pairL R = .error c) : c = 30 := by
  unfold pairL at h
  split at h
  · cases h
  · split at h
    · cases h; rfl
    · cases h
theorem escJ_30 {R : List UInt8} {c : Int} (h : escJ R = .error c) : c = 30 := by
  unfold escJ at h
  split at h
  · split at h
    · cases h
    · split at h
      · cases h
      · exact pairL_30 h
  · exact pairL_30 h
theorem enc_len (x : Int) : (Lib.encodeRune x).length ≤ 4 := by
  have := (Lib.encodeRuneZ_length x).2
  unfold Lib.encodeRune
  simp
  omega
theorem decodeL_four (R : List UInt8) : (Lib.decodeL R).2 ≤ 4 := by
  rw [Lib.decodeL_N]
  rcases Lib.decodeN_shape R.length (R.getD 0 0).toNat (R.getD 1 0).toNat (R.getD 2 0).toNat (R.getD 3 0).toNat with ⟨_, e⟩ | ⟨_, _, _, _, e⟩ | ⟨_, _, _, _, _, _, e⟩ | ⟨_, _, _, _, _, _, _, e⟩ | e <;> rw [e] <;> simp
set_option maxRecDepth 100000 in
set_option maxHeartbeats 8000000 in
theorem rquoted_any {a n c0 x0 : Nat} {t : ByteArray} (h0 : c0 = 0) (ha : a < t.size) (hs : t.size ≤ 65536) (hn : n ≤ 2000) (W : World) : Calls Tryz.prog 48 #[stV t a n c0 x0] W (QdE W t n c0 x0 (quotedJ (rest t a))) := by
  have H0 := Lib.hid h0
  clear h0
  have hD := DocJ.start W (n := n) (c := c0) (x := x0) (Nat.le_of_lt ha)
  have HD := Lib.hid hD
  have k0 := HD.out.1.cell 0
  have k1 := HD.out.1.cell 1
  have k2 := HD.out.1.cell 2
  have k3 := HD.out.1.cell 3
  have k4 := HD.out.1.cell 4
  have f1 := HD.out.1.frozen 1
  have i0 : (0 : Int) ≤ (a : Int) := by omega
  obtain ⟨X, hX⟩ : ∃ X, textJ (rest t a).length ((rest t a).drop 1) [] = X := ⟨_, rfl⟩
  have HX := Lib.hid hX
  have hlen := rest_length t a
  have HM := Lib.hid (DocJ.start W (t := t) (a := a + 1) (n := n) (c := c0) (x := x0) (by omega))
  clear hX hD
  go_enter Tryz.func48, Tryz.ntmps48
  go_wp2_with fail
  go_loopg [5] (t.size - a) (fun gf s5 wx => ∃ (d : Nat) (acc : List UInt8), Hid (DocJ W wx t d n c0 x0) ∧ Hid (Row W.heap.size wx s5 acc) ∧ Hid (textJ gf (rest t d) acc = X) ∧ t.size - d < gf ∧ a ≤ d ∧ acc.length ≤ 12 * (d - a))
  case atStart => exact ⟨a + 1, [], HM, Lib.hid (row_nil _ _), Lib.hid (by rw [← HX.out, hlen, rest_add]), by omega, by omega, by simp⟩
  case round =>
    obtain ⟨d, acc, HD0, HR0, HE, hg, had, hacc⟩ := hrel
    obtain ⟨g', rfl⟩ : ∃ g', gk = g' + 1 := ⟨gk - 1, by omega⟩
    obtain ⟨z, hz⟩ : ∃ z, headZ (rest t d) = z := ⟨_, rfl⟩
    obtain ⟨zl, zh⟩ := hz ▸ headZ_bound (rest t d)
    have hdt : d ≤ t.size := HD0.out.2.2.2
    have i1 : (0 : Int) ≤ (d : Int) := by omega
    obtain ⟨w0, hw0⟩ : ∃ w0, w0 = wr := ⟨_, rfl⟩
    rw [← hw0] at HD0 HR0 ⊢
    clear hw0 HM HD
    have HC0 := Lib.hid (hz ▸ rc_any (a := d) (n := n) (c := c0) (x := x0) HD0.out.2.2.2 hs w0)
    have k0 := HD0.out.1.cell 0
    have k1 := HD0.out.1.cell 1
    have k2 := HD0.out.1.cell 2
    have k3 := HD0.out.1.cell 3
    have k4 := HD0.out.1.cell 4
    go_wp2_with fail
    go_at_call 45; refine HC0.out.mono ?_; rintro e w1 ⟨rfl, hb⟩
    have HD1 := Lib.hid (HD0.out.below hb)
    have HR1 := Lib.hid (HR0.out.below hb)
    clear hb k0 k1 k2 k3 k4 HC0
    by_cases h34 : z = 34
    · have HP : Hid (Lib.hasPrefix (rest t d) [34] = true) := Lib.hid (headZ_pre (q := 34) (by rw [hz, h34]; rfl))
      have HXA : Hid (X = .ok (acc, (rest t d).drop 1)) := Lib.hid (by rw [← HE.out, textJ_end HP.out])
      have hlt : d < t.size := by
        have h1 := pre_le (p := ⟨#[34]⟩) HP.out
        have : (⟨#[34]⟩ : ByteArray).size = 1 := rfl
        omega
      clear HE
      subst h34
      obtain ⟨adr, capr, hv⟩ := row_shape HR1.out
      have HRV := Lib.hid HR1.out
      have HMV : Hid (DocJ W (w1.setCell ⟨W.heap.size, 1, none⟩ (.int .i64 ((d : Int) + 1))) t (d + 1) n c0 x0) := Lib.hid (HD1.out.moves (b := d + 1) (by omega))
      have HRM : Hid (Row W.heap.size (w1.setCell ⟨W.heap.size, 1, none⟩ (.int .i64 ((d : Int) + 1))) u5 acc) := Lib.hid (HR1.out.far (j := 1) HD1.out.1 (by decide) (.int .i64 ((d : Int) + 1)))
      subst hv
      have f1 := HD1.out.1.frozen 1
      have k0 := HD1.out.1.cell 0
      have k1 := HD1.out.1.cell 1
      have k2 := HD1.out.1.cell 2
      have k3 := HD1.out.1.cell 3
      have k4 := HD1.out.1.cell 4
      by_cases hl : 16384 < acc.length
      · have HQ : Hid (quotedJ (rest t a) = .error (3, (rest t a).length)) := Lib.hid (quotedJ_long (HX.out.trans HXA.out) hl)
        have j0 : (16384 : Int) < (acc.length : Int) := by omega
        have HF : Hid (Calls Tryz.prog 27 #[.agg #[.string t, .int .i64 ((d : Int) + 1), .int .i64 (n : Int), .int .i64 (c0 : Int), .int .i64 (x0 : Int)], .int .i64 3, .int .i64 (a : Int)] (w1.setCell ⟨W.heap.size, 1, none⟩ (.int .i64 ((d : Int) + 1))) fun e w' => e = .returned (.agg #[.string t, .int .i64 ((d : Int) + 1), .int .i64 (n : Int), .int .i64 3, .int .i64 (a : Int)]) ∧ Below (w1.setCell ⟨W.heap.size, 1, none⟩ (.int .i64 ((d : Int) + 1))).heap.size (w1.setCell ⟨W.heap.size, 1, none⟩ (.int .i64 ((d : Int) + 1))) w') := Lib.hid (fail_to (t := t) (a := d + 1) (n := n) (x := x0) H0.out 3 a (w1.setCell ⟨W.heap.size, 1, none⟩ (.int .i64 ((d : Int) + 1))))
        go_wp2_with (go_at_call 27; refine HF.out.mono ?_; rintro e wf ⟨rfl, hbf⟩; refine Hid.out ?_)
        refine Lib.hid ?_
        have HDf := Lib.hid (HMV.out.below hbf)
        clear hbf
        have q0 := HDf.out.2.1.cell 0
        have q1 := HDf.out.2.1.cell 1
        have q2 := HDf.out.2.1.cell 2
        have q3 := HDf.out.2.1.cell 3
        have q4 := HDf.out.2.1.cell 4
        have g0 := HDf.out.2.1.frozen 0
        have g1 := HDf.out.2.1.frozen 1
        have g2 := HDf.out.2.1.frozen 2
        have g3 := HDf.out.2.1.frozen 3
        have g4 := HDf.out.2.1.frozen 4
        go_wp2_with fail
        have hq5 := HDf.out.2.1.set5 (.string t) (.int .i64 ((d : Int) + 1)) (.int .i64 (n : Int)) (.int .i64 3) (.int .i64 (a : Int))
        have r0 := hq5.cell 0
        have r1 := hq5.cell 1
        have r2 := hq5.cell 2
        have r3 := hq5.cell 3
        have r4 := hq5.cell 4
        refine bodyPost_ret (by simp [results, Tryz.results48, go_sem, r0, r1, r2, r3, r4]; try rfl) rfl ?_
        rw [HQ.out]
        exact ⟨below_set5 HDf.out.2.2.1 (Nat.le_succ _) _ _ _ _ _, d + 1, 3, by rw [rest_length, show t.size - (t.size - a) = a by omega] <;> rfl, by omega, by decide, rfl⟩
      · have HQ : Hid (quotedJ (rest t a) = .ok (⟨acc.toArray⟩, (rest t d).drop 1)) := Lib.hid (quotedJ_ok (HX.out.trans HXA.out) hl)
        have j0 : ¬ (16384 : Int) < (acc.length : Int) := by omega
        have hcv := conv_row (HRM.out.below (below_drew _))
        have hcv2 := conv_row ((HRM.out.far5 HMV.out.2.1 (by decide) (.string t) (.int .i64 ((d : Int) + 1)) (.int .i64 (n : Int)) (.int .i64 (c0 : Int)) (.int .i64 (x0 : Int))).below (below_drew _))
        have m0 := HMV.out.1.cell 0
        have m1 := HMV.out.1.cell 1
        have m2 := HMV.out.1.cell 2
        have m3 := HMV.out.1.cell 3
        have m4 := HMV.out.1.cell 4
        have q0 := HMV.out.2.1.cell 0
        have q1 := HMV.out.2.1.cell 1
        have q2 := HMV.out.2.1.cell 2
        have q3 := HMV.out.2.1.cell 3
        have q4 := HMV.out.2.1.cell 4
        have g0 := HMV.out.2.1.frozen 0
        have g1 := HMV.out.2.1.frozen 1
        have g2 := HMV.out.2.1.frozen 2
        have g3 := HMV.out.2.1.frozen 3
        have g4 := HMV.out.2.1.frozen 4
        go_wp2_with fail
        go_region
        go_wp2_with fail
        have hqb := drew_end HMV.out.2.1 HMV.out.2.2.1 (.string t) (.int .i64 ((d : Int) + 1)) (.int .i64 (n : Int)) (.int .i64 (c0 : Int)) (.int .i64 (x0 : Int))
        have hq5 := hqb.1
        have HB5 := Lib.hid hqb.2
        clear hqb
        have r0 := hq5.cell 0
        have r1 := hq5.cell 1
        have r2 := hq5.cell 2
        have r3 := hq5.cell 3
        have r4 := hq5.cell 4
        refine bodyPost_ret (by simp [results, Tryz.results48, go_sem, r0, r1, r2, r3, r4]; try rfl) rfl ?_
        rw [HQ.out]
        exact ⟨HB5.out, d + 1, rfl, by omega, by rw [rest_add]⟩
    · have HP : Hid (Lib.hasPrefix (rest t d) [34] = false) := Lib.hid (headZ_npre (q := 34) (by rw [hz]; exact h34))
      obtain ⟨kr, hkr⟩ : ∃ kr, docRune (headZ (rest t d)) (headZ (rest t (d + 1))) (headZ (rest t (d + 2))) (headZ (rest t (d + 3))) = kr := ⟨_, rfl⟩
      have HRu : Hid (RuneIs t d kr) := Lib.hid (hkr ▸ rrune_any (a := d) (t := t) (by omega) hs)
      have HKR : Hid (kr = if rest t d = [] then 0 else if Lib.decodeL (rest t d) = (65533, 1) then 0 else (Lib.decodeL (rest t d)).2) := Lib.hid (by rw [← hkr, rune_doc])
      clear hkr
      have k0 := HD1.out.1.cell 0
      have k1 := HD1.out.1.cell 1
      have k2 := HD1.out.1.cell 2
      have k3 := HD1.out.1.cell 3
      have k4 := HD1.out.1.cell 4
      go_wp2_with fail
      go_at_call 56; refine (HRu.out _).mono ?_; rintro e wz ⟨rfl, hwz⟩
      subst hwz
      clear k0 k1 k2 k3 k4
      have HC1 := Lib.hid (hz ▸ rc_any (a := d) (n := n) (c := c0) (x := x0) HD1.out.2.2.2 hs w1)
      have k0 := HD1.out.1.cell 0
      have k1 := HD1.out.1.cell 1
      have k2 := HD1.out.1.cell 2
      have k3 := HD1.out.1.cell 3
      have k4 := HD1.out.1.cell 4
      go_wp2_with fail
      go_at_call 45; refine HC1.out.mono ?_; rintro e w2 ⟨rfl, hb⟩
      have HD2 := Lib.hid (HD1.out.below hb)
      have HR2 := Lib.hid (HR1.out.below hb)
      clear hb k0 k1 k2 k3 k4 HC1
      by_cases hneg : z < 0
      · have hnil : rest t d = [] := by
          cases hR : rest t d with
          | nil => rfl
          | cons c r =>
            rw [hR] at hz
            have hz : (c.toNat : Int) = z := hz
            omega
        have HQ : Hid (quotedJ (rest t a) = .error (30, 0)) := Lib.hid (quotedJ_err (by rw [HX.out, ← HE.out, textJ_err HP.out (by rw [hnil]; rfl), hnil]; rfl))
        clear HE hnil
        have HF := Lib.hid (fail_to (t := t) (a := d) (n := n) (x := x0) H0.out 30 t.size w2)
        have k0 := HD2.out.1.cell 0
        have k1 := HD2.out.1.cell 1
        have k2 := HD2.out.1.cell 2
        have k3 := HD2.out.1.cell 3
        have k4 := HD2.out.1.cell 4
        go_wp2_with (go_at_call 27; refine HF.out.mono ?_; rintro e wf ⟨rfl, hbf⟩; refine Hid.out ?_)
        refine Lib.hid ?_
        have HDf := Lib.hid (HD2.out.below hbf)
        clear hbf k0 k1 k2 k3 k4
        have q0 := HDf.out.2.1.cell 0
        have q1 := HDf.out.2.1.cell 1
        have q2 := HDf.out.2.1.cell 2
        have q3 := HDf.out.2.1.cell 3
        have q4 := HDf.out.2.1.cell 4
        have g0 := HDf.out.2.1.frozen 0
        have g1 := HDf.out.2.1.frozen 1
        have g2 := HDf.out.2.1.frozen 2
        have g3 := HDf.out.2.1.frozen 3
        have g4 := HDf.out.2.1.frozen 4
        go_wp2_with fail
        have hq5 := HDf.out.2.1.set5 (.string t) (.int .i64 (d : Int)) (.int .i64 (n : Int)) (.int .i64 30) (.int .i64 (t.size : Int))
        have r0 := hq5.cell 0
        have r1 := hq5.cell 1
        have r2 := hq5.cell 2
        have r3 := hq5.cell 3
        have r4 := hq5.cell 4
        refine bodyPost_ret (by simp [results, Tryz.results48, go_sem, r0, r1, r2, r3, r4]; try rfl) rfl ?_
        rw [HQ.out]
        exact ⟨below_set5 HDf.out.2.2.1 (Nat.le_succ _) _ _ _ _ _, d, 30, rfl, hdt, by decide, rfl⟩
      have HC2 := Lib.hid (hz ▸ rc_any (a := d) (n := n) (c := c0) (x := x0) HD2.out.2.2.2 hs w2)
      have k0 := HD2.out.1.cell 0
      have k1 := HD2.out.1.cell 1
      have k2 := HD2.out.1.cell 2
      have k3 := HD2.out.1.cell 3
      have k4 := HD2.out.1.cell 4
      go_wp2_with fail
      go_at_call 45; refine HC2.out.mono ?_; rintro e w3 ⟨rfl, hb⟩
      have HD3 := Lib.hid (HD2.out.below hb)
      have HR3 := Lib.hid (HR2.out.below hb)
      clear hb k0 k1 k2 k3 k4 HC2
      by_cases h92 : z = 92
      · have e92 : (z == 92) = true := by simp [h92]
        obtain ⟨hlt, hq⟩ := headZ_back (hz.trans h92)
        have HS := Lib.hid (resc_any hlt hq hs w3)
        have HB := Lib.hid (runeJ_back (show headN (rest t d) = 92 by rw [rest_cons hlt, hq]; rfl))
        clear hq
        have k0 := HD3.out.1.cell 0
        have k1 := HD3.out.1.cell 1
        have k2 := HD3.out.1.cell 2
        have k3 := HD3.out.1.cell 3
        have k4 := HD3.out.1.cell 4
        go_wp2_with fail
        go_at_call 66; refine HS.out.mono ?_
        cases he : escJ (rest t d) with
        | error ce =>
          rintro e w4 ⟨⟨s, rfl⟩, hb⟩
          have HD4 := Lib.hid (HD3.out.below hb)
          have HQ : Hid (quotedJ (rest t a) = .error (30, (rest t d).length)) := Lib.hid (quotedJ_err (by rw [HX.out, ← HE.out, textJ_err HP.out (by rw [HB.out, he, escJ_30 he])]))
          clear hb he HE k0 k1 k2 k3 k4
          have HF := Lib.hid (fail_to (t := t) (a := d) (n := n) (x := x0) H0.out 30 d w4)
          have k0 := HD4.out.1.cell 0
          have k1 := HD4.out.1.cell 1
          have k2 := HD4.out.1.cell 2
          have k3 := HD4.out.1.cell 3
          have k4 := HD4.out.1.cell 4
          go_wp2_with (go_at_call 27; refine HF.out.mono ?_; rintro e wf ⟨rfl, hbf⟩; refine Hid.out ?_)
          refine Lib.hid ?_
          have HDf := Lib.hid (HD4.out.below hbf)
          clear hbf k0 k1 k2 k3 k4
          have q0 := HDf.out.2.1.cell 0
          have q1 := HDf.out.2.1.cell 1
          have q2 := HDf.out.2.1.cell 2
          have q3 := HDf.out.2.1.cell 3
          have q4 := HDf.out.2.1.cell 4
          have g0 := HDf.out.2.1.frozen 0
          have g1 := HDf.out.2.1.frozen 1
          have g2 := HDf.out.2.1.frozen 2
          have g3 := HDf.out.2.1.frozen 3
          have g4 := HDf.out.2.1.frozen 4
          go_wp2_with fail
          have hq5 := HDf.out.2.1.set5 (.string t) (.int .i64 (d : Int)) (.int .i64 (n : Int)) (.int .i64 30) (.int .i64 (d : Int))
          have r0 := hq5.cell 0
          have r1 := hq5.cell 1
          have r2 := hq5.cell 2
          have r3 := hq5.cell 3
          have r4 := hq5.cell 4
          refine bodyPost_ret (by simp [results, Tryz.results48, go_sem, r0, r1, r2, r3, r4]; try rfl) rfl ?_
          rw [HQ.out]
          exact ⟨below_set5 HDf.out.2.2.1 (Nat.le_succ _) _ _ _ _ _, d, 30, by rw [rest_length, show t.size - (t.size - d) = d by omega] <;> rfl, hdt, by decide, rfl⟩
        | ok y =>
          obtain ⟨x, R'⟩ := y
          rintro e w4 ⟨⟨ke, rfl, hke, hkl, hR'⟩, hb⟩
          have HD4 := Lib.hid (HD3.out.below hb)
          have HR4 := Lib.hid (HR3.out.below hb)
          have HE2 : Hid (textJ g' (rest t (d + ke)) (acc ++ Lib.encodeRune x) = X) := Lib.hid (by rw [← HE.out, textJ_ok HP.out (by rw [HB.out, he]), hR', rest_add])
          have hx4 : (Lib.encodeRune x).length ≤ 4 := enc_len x
          rw [rest_length] at hkl
          have hkd : ke ≤ t.size - d := hkl
          have q0 : ¬ (ke : Int) = 0 := by omega
          obtain ⟨S, hS⟩ : ∃ S : ByteArray, (⟨(Lib.encodeRune x).toArray⟩ : ByteArray) = S := ⟨_, rfl⟩
          rw [hS]
          have hSl : S.data.toList = Lib.encodeRune x := by rw [← hS]
          have hSs : S.size ≤ 4 := by rw [Lib.size_eq, hSl]; exact hx4
          have HSL := Lib.hid hSl
          have hszB := HD4.out.2.2.1.size
          clear hb he HE k0 k1 k2 k3 k4 hS hSl hR' hkl
          go_wp2_with (at_builtin; refine app_str (t := S) rfl rfl rfl rfl HR4.out (by omega) hszB ?_; intro v5 w5 ho5 hb5 hq5; refine Hid.out ?_)
          refine Lib.hid ?_
          have HD5 := Lib.hid (HD4.out.oth hb5 hq5)
          have HR5 := Lib.hid (HSL.out ▸ ho5)
          clear ho5 hb5 hq5
          have k0 := HD5.out.1.cell 0
          have k1 := HD5.out.1.cell 1
          have k2 := HD5.out.1.cell 2
          have k3 := HD5.out.1.cell 3
          have k4 := HD5.out.1.cell 4
          have f1 := HD5.out.1.frozen 1
          have HM5 : Hid (DocJ W (w5.setCell ⟨W.heap.size, 1, none⟩ (.int .i64 ((d : Int) + (ke : Int)))) t (d + ke) n c0 x0) := Lib.hid (HD5.out.moves (b := d + ke) (by omega))
          have HRM5 := Lib.hid (HR5.out.far (j := 1) HD5.out.1 (by decide) (.int .i64 ((d : Int) + (ke : Int))))
          go_wp2_with fail
          go_roundg g'
          case measure => omega
          case rel => exact ⟨d + ke, acc ++ Lib.encodeRune x, HM5, HRM5, HE2, by omega, by omega, by rw [List.length_append]; omega⟩
      have e92 : (z == 92) = false := by simp [h92]
      have HC3 := Lib.hid (hz ▸ rc_any (a := d) (n := n) (c := c0) (x := x0) HD3.out.2.2.2 hs w3)
      have k0 := HD3.out.1.cell 0
      have k1 := HD3.out.1.cell 1
      have k2 := HD3.out.1.cell 2
      have k3 := HD3.out.1.cell 3
      have k4 := HD3.out.1.cell 4
      go_wp2_with fail
      go_at_call 45; refine HC3.out.mono ?_; rintro e w4 ⟨rfl, hb⟩
      have HD4 := Lib.hid (HD3.out.below hb)
      have HR4 := Lib.hid (HR3.out.below hb)
      clear hb k0 k1 k2 k3 k4 HC3
      by_cases hlow : z < 32
      · have HQ : Hid (quotedJ (rest t a) = .error (30, (rest t d).length)) := Lib.hid (quotedJ_err (by rw [HX.out, ← HE.out, textJ_err HP.out (runeJ_ctl (by rw [hz]; omega) (by rw [hz]; exact hlow))]))
        clear HE
        have HF := Lib.hid (fail_to (t := t) (a := d) (n := n) (x := x0) H0.out 30 d w4)
        have k0 := HD4.out.1.cell 0
        have k1 := HD4.out.1.cell 1
        have k2 := HD4.out.1.cell 2
        have k3 := HD4.out.1.cell 3
        have k4 := HD4.out.1.cell 4
        go_wp2_with (go_at_call 27; refine HF.out.mono ?_; rintro e wf ⟨rfl, hbf⟩; refine Hid.out ?_)
        refine Lib.hid ?_
        have HDf := Lib.hid (HD4.out.below hbf)
        clear hbf k0 k1 k2 k3 k4
        have q0 := HDf.out.2.1.cell 0
        have q1 := HDf.out.2.1.cell 1
        have q2 := HDf.out.2.1.cell 2
        have q3 := HDf.out.2.1.cell 3
        have q4 := HDf.out.2.1.cell 4
        have g0 := HDf.out.2.1.frozen 0
        have g1 := HDf.out.2.1.frozen 1
        have g2 := HDf.out.2.1.frozen 2
        have g3 := HDf.out.2.1.frozen 3
        have g4 := HDf.out.2.1.frozen 4
        go_wp2_with fail
        have hq5 := HDf.out.2.1.set5 (.string t) (.int .i64 (d : Int)) (.int .i64 (n : Int)) (.int .i64 30) (.int .i64 (d : Int))
        have r0 := hq5.cell 0
        have r1 := hq5.cell 1
        have r2 := hq5.cell 2
        have r3 := hq5.cell 3
        have r4 := hq5.cell 4
        refine bodyPost_ret (by simp [results, Tryz.results48, go_sem, r0, r1, r2, r3, r4]; try rfl) rfl ?_
        rw [HQ.out]
        exact ⟨below_set5 HDf.out.2.2.1 (Nat.le_succ _) _ _ _ _ _, d, 30, by rw [rest_length, show t.size - (t.size - d) = d by omega] <;> rfl, hdt, by decide, rfl⟩
      have hraw := runeJ_raw (R := rest t d) (by rw [hz]; exact hlow) (by rw [hz]; exact h92)
      have hne : rest t d ≠ [] := by
        intro e
        rw [e] at hz
        have hz : (-1 : Int) = z := hz
        omega
      by_cases hbad : Lib.decodeL (rest t d) = (65533, 1)
      · have hk : kr = 0 := by rw [HKR.out, if_neg hne, if_pos hbad]
        have HQ : Hid (quotedJ (rest t a) = .error (31, (rest t d).length)) := Lib.hid (quotedJ_err (by rw [HX.out, ← HE.out, textJ_err HP.out (by rw [hraw, if_pos hbad])]))
        subst hk
        clear HE hraw hne hbad
        have HF := Lib.hid (fail_to (t := t) (a := d) (n := n) (x := x0) H0.out 31 d w4)
        have k0 := HD4.out.1.cell 0
        have k1 := HD4.out.1.cell 1
        have k2 := HD4.out.1.cell 2
        have k3 := HD4.out.1.cell 3
        have k4 := HD4.out.1.cell 4
        go_wp2_with (go_at_call 27; refine HF.out.mono ?_; rintro e wf ⟨rfl, hbf⟩; refine Hid.out ?_)
        refine Lib.hid ?_
        have HDf := Lib.hid (HD4.out.below hbf)
        clear hbf k0 k1 k2 k3 k4
        have q0 := HDf.out.2.1.cell 0
        have q1 := HDf.out.2.1.cell 1
        have q2 := HDf.out.2.1.cell 2
        have q3 := HDf.out.2.1.cell 3
        have q4 := HDf.out.2.1.cell 4
        have g0 := HDf.out.2.1.frozen 0
        have g1 := HDf.out.2.1.frozen 1
        have g2 := HDf.out.2.1.frozen 2
        have g3 := HDf.out.2.1.frozen 3
        have g4 := HDf.out.2.1.frozen 4
        go_wp2_with fail
        have hq5 := HDf.out.2.1.set5 (.string t) (.int .i64 (d : Int)) (.int .i64 (n : Int)) (.int .i64 31) (.int .i64 (d : Int))
        have r0 := hq5.cell 0
        have r1 := hq5.cell 1
        have r2 := hq5.cell 2
        have r3 := hq5.cell 3
        have r4 := hq5.cell 4
        refine bodyPost_ret (by simp [results, Tryz.results48, go_sem, r0, r1, r2, r3, r4]; try rfl) rfl ?_
        rw [HQ.out]
        exact ⟨below_set5 HDf.out.2.2.1 (Nat.le_succ _) _ _ _ _ _, d, 31, by rw [rest_length, show t.size - (t.size - d) = d by omega] <;> rfl, hdt, by decide, rfl⟩
      · have hk : kr = (Lib.decodeL (rest t d)).2 := by rw [HKR.out, if_neg hne, if_neg hbad]
        have hw1 : 1 ≤ kr := by rw [hk]; exact decodeL_pos hne
        have hw2 : kr ≤ t.size - d := by rw [hk, ← rest_length]; exact Lib.decodeL_le _ hne
        have hw4 : kr ≤ 4 := by rw [hk]; exact decodeL_four _
        have HE2 : Hid (textJ g' (rest t (d + kr)) (acc ++ (rest t d).take kr) = X) := Lib.hid (by rw [← HE.out, textJ_ok HP.out (by rw [hraw, if_neg hbad]), Lib.encode_decode _ hne (fun e => hbad (Prod.ext e.1 e.2)), ← hk, rest_add])
        have HSL : Hid ((t.extract d (d + kr)).data.toList = (rest t d).take kr) := Lib.hid (extract_take t d kr)
        have hSs : (t.extract d (d + kr)).size ≤ 4 := by rw [Lib.size_eq, HSL.out, List.length_take]; omega
        have e0 : (((kr : Nat) : Int) == 0) = false := by rw [beq_eq_false_iff_ne]; omega
        have q0 : ¬ (kr : Int) = 0 := by omega
        have q1 : (d : Int) ≤ (d : Int) + (kr : Int) := by omega
        have q2 : (d : Int) + (kr : Int) ≤ (t.size : Int) := by omega
        have hszB := HD4.out.2.2.1.size
        clear HE hraw hne hbad hk HKR HRu
        have k0 := HD4.out.1.cell 0
        have k1 := HD4.out.1.cell 1
        have k2 := HD4.out.1.cell 2
        have k3 := HD4.out.1.cell 3
        have k4 := HD4.out.1.cell 4
        go_wp2_with (at_builtin; refine app_str (t := t.extract d (d + kr)) rfl rfl rfl rfl HR4.out (by omega) hszB ?_; intro v5 w5 ho5 hb5 hq5; refine Hid.out ?_)
        refine Lib.hid ?_
        have HD5 := Lib.hid (HD4.out.oth hb5 hq5)
        have HR5 := Lib.hid (HSL.out ▸ ho5)
        clear ho5 hb5 hq5 k0 k1 k2 k3 k4
        have k0 := HD5.out.1.cell 0
        have k1 := HD5.out.1.cell 1
        have k2 := HD5.out.1.cell 2
        have k3 := HD5.out.1.cell 3
        have k4 := HD5.out.1.cell 4
        have f1 := HD5.out.1.frozen 1
        have HM5 : Hid (DocJ W (w5.setCell ⟨W.heap.size, 1, none⟩ (.int .i64 ((d : Int) + (kr : Int)))) t (d + kr) n c0 x0) := Lib.hid (HD5.out.moves (b := d + kr) (by omega))
        have HRM5 := Lib.hid (HR5.out.far (j := 1) HD5.out.1 (by decide) (.int .i64 ((d : Int) + (kr : Int))))
        go_wp2_with fail
        go_roundg g'
        case measure => omega
        case rel => exact ⟨d + kr, acc ++ (rest t d).take kr, HM5, HRM5, HE2, by omega, by omega, by rw [List.length_append, List.length_take]; omega⟩
end Go.Proofs.YtnmfoedfllmclaaGreatDoor
