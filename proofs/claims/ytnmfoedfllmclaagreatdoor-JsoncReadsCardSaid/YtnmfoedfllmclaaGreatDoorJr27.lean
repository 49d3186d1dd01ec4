/- value: whatever stands there, by the depth that is left -/
import Derived.Test.YtnmfoedfllmclaaGreatDoorJr03
import Derived.Test.YtnmfoedfllmclaaGreatDoorJr26
namespace Go.Proofs.YtnmfoedfllmclaaGreatDoor
open Go.RowKit Go.Shelf Go.Sort
set_option linter.unusedVariables false

def txtR (n : Nat) (r : Except Bad (ByteArray × List UInt8)) : Except Bad (VT × List UInt8 × Nat) := match r with
  | .error e => .error e
  | .ok (s, R') => .ok (textT s, R', n)
def oneR (n : Nat) (r : Except Bad (VT × List UInt8)) : Except Bad (VT × List UInt8 × Nat) := match r with
  | .error e => .error e
  | .ok (T, R') => .ok (T, R', n)
def objR (r : Except Bad (List (ByteArray × VT) × List UInt8 × Nat)) : Except Bad (VT × List UInt8 × Nat) := match r with
  | .error e => .error e
  | .ok (l, R', n') => .ok (madeT l, R', n')
theorem valJ_long {d n : Nat} {R : List UInt8} (h : n = 2000) : valJ (d + 1) R n = .error (3, (skipB R).length) := by
  unfold valJ; rw [if_pos h]
theorem valJ_text {d n : Nat} {R r : List UInt8} (h : ¬ n = 2000) (hs : skipB R = 34 :: r) : valJ (d + 1) R n = txtR (n + 1) (quotedJ (34 :: r)) := by
  unfold valJ; rw [if_neg h, hs]; rfl
theorem valJ_list {d n : Nat} {R r : List UInt8} (h : ¬ n = 2000) (hs : skipB R = 91 :: r) : valJ (d + 1) R n = listR (eachJ (itemJ (valJ d)) 93 [] (91 :: r) (n + 1)) := by
  conv => lhs; unfold valJ
  rw [if_neg h, hs]; rfl
theorem valJ_obj {d n : Nat} {R r : List UInt8} (h : ¬ n = 2000) (hs : skipB R = 123 :: r) : valJ (d + 1) R n = objR (eachJ (pairJ (valJ d)) 125 [] (123 :: r) (n + 1)) := by
  conv => lhs; unfold valJ
  rw [if_neg h, hs]; rfl
theorem valJ_num {d n : Nat} {R : List UInt8} {x : Nat} (h : ¬ n = 2000) (hx : headN (skipB R) = x) (h1 : ¬ x = 34) (h2 : ¬ x = 91) (h3 : ¬ x = 123) (h4 : x = 45 ∨ digN x = true) : valJ (d + 1) R n = oneR (n + 1) (intR (numJ (skipB R))) := by
  have hd := headN_any (skipB R)
  unfold valJ
  rw [if_neg h]
  cases hs : skipB R with
  | nil =>
    rw [hs] at hx hd
    subst hx
    rcases h4 with h4 | h4
    · cases h4
    · rw [show digN (headN []) = false from rfl] at h4; cases h4
  | cons c r =>
    rw [hs] at hx hd
    have hc : c.toNat = x := hx
    have e : ∀ q : UInt8, ¬ x = q.toNat → ¬ c = q := fun q hq e => hq (by rw [← hc, e])
    have e4 : c = 45 ∨ digJ c = true := by
      rcases h4 with h4 | h4
      · exact .inl (UInt8.toNat_inj.1 (hc.trans h4))
      · right
        have hd' : digJ c = digN (headN (c :: r)) := by simpa using hd
        rw [hd', hx]; exact h4
    simp only
    rw [if_neg (e 34 h1), if_neg (e 91 h2), if_neg (e 123 h3), if_pos e4]
    cases numJ (c :: r) <;> rfl
theorem valJ_word {d n : Nat} {R : List UInt8} {x : Nat} (h : ¬ n = 2000) (hx : headN (skipB R) = x) (h1 : ¬ x = 34) (h2 : ¬ x = 91) (h3 : ¬ x = 123) (h4 : ¬ x = 45) (h5 : digN x = false) : valJ (d + 1) R n = oneR (n + 1) (wordJ (skipB R)) := by
  have hd := headN_any (skipB R)
  unfold valJ
  rw [if_neg h]
  cases hs : skipB R with
  | nil => rfl
  | cons c r =>
    rw [hs] at hx hd
    have hc : c.toNat = x := hx
    have e : ∀ q : UInt8, ¬ x = q.toNat → ¬ c = q := fun q hq e => hq (by rw [← hc, e])
    have e5 : ¬ (c = 45 ∨ digJ c = true) := by
      rintro (h6 | h6)
      · exact e 45 h4 h6
      · have hd' : digJ c = digN (headN (c :: r)) := by simpa using hd
        rw [hd', hx, h5] at h6
        cases h6
    simp only
    rw [if_neg (e 34 h1), if_neg (e 91 h2), if_neg (e 123 h3), if_neg e5]
    cases wordJ (c :: r) <;> rfl
/-- A scalar in no memory. -/
theorem fresh_scal (lo B : Nat) (W : World) (k : Int) (b : Bool) (t : ByteArray) : Fresh lo B W (.agg #[.int .i64 k, .bool b, .string t, .slice none 0 0, .slice none 0 0]) (.node k b t [] []) := by
  exact Fresh.mk k b t [] [] none 0 (.slice none 0 0) 0 0 (fun _ => 0) (fun _ => false) (fun _ => ⟨#[]⟩) (fun _ => undef) (fun _ => undef) ⟨none, 0, rfl, by simp, by simp, fun h => absurd h (by simp)⟩ (by simp) (by simp) (fun h => absurd h (by simp)) (fun j h => absurd h (by simp)) (fun j i h => absurd h (by simp)) (fun j h => absurd h (by simp))
theorem head_cons {R : List UInt8} {q : UInt8} (hq : q ≠ 0) (h : headN R = q.toNat) : ∃ r, R = q :: r := by
  cases R with
  | nil => exact absurd (UInt8.toNat_inj.1 (show (0 : UInt8).toNat = q.toNat from h)).symm hq
  | cons c r => exact ⟨r, by rw [UInt8.toNat_inj.1 h]⟩
set_option maxRecDepth 100000 in
set_option maxHeartbeats 4000000 in
theorem value_deep {W : World} {P a n d : Nat} {dep : Int} {t : ByteArray} (h : Rdr W P t a n) (hR : ReadyJ W) (hP7 : 7 ≤ P) (hd : 24 < dep) :
    Calls Tryz.prog 41 #[.pointer (some ⟨P, 0, none⟩), .int .i64 dep] W (VEnds W P t (.error (7, (skipB (rest t a)).length))) := by
  have hb0 := below_new0 W (.cells #[.int .i64 0, .bool false, .string ⟨#[]⟩, .slice none 0 0, .slice none 0 0] 26)
  have HB := Lib.hid (blanks_any (h.below hb0))
  have HW0 := Lib.hid (h.stays hb0)
  have HR0 := Lib.hid (hR.below hb0)
  have hP := h.1.lt
  have hsz := h.2
  have HBN := Lib.hid (Blk.new W #[.int .i64 0, .bool false, .string ⟨#[]⟩, .slice none 0 0, .slice none 0 0] 26)
  clear h hR hb0
  go_enter Tryz.func41, Tryz.ntmps41
  go_wp2_with fail
  go_at_call 42; refine HB.out.mono ?_; rintro e w1 ⟨rfl, c1, hw1, hc1⟩
  have HW1 := Lib.hid (HW0.out.trans hw1)
  have HR1 := Lib.hid (HR0.out.aside hw1.1 hP7)
  have HN1 := Lib.hid (HBN.out.aside hw1.1 (by omega))
  have HC1 := Lib.hid hc1
  have k1 := hw1.2.1.cell 1
  have k2 := hw1.2.1.cell 2
  have hn2 := hw1.2.2.2.2
  have f2 := hw1.2.1.frozen 2
  clear hw1 hc1 HB
  go_wp2_with (go_at_call 40; refine (diag_any _ _ _).mono ?_; rintro e w3 ⟨rfl, rfl⟩)
  refine ⟨rfl, ?_⟩
  exact thrown_new (c := 7) HW1.out (l := (skipB (rest t a)).length) (by rw [← HC1.out]; exact rest_back HW1.out.2.2.1)
set_option maxRecDepth 100000 in
set_option maxHeartbeats 4000000 in
theorem value_long {W : World} {P a n d : Nat} {dep : Int} {t : ByteArray} (h : Rdr W P t a n) (hR : ReadyJ W) (hP7 : 7 ≤ P) (hd : ¬ 24 < dep) (hn : n = 2000) :
    Calls Tryz.prog 41 #[.pointer (some ⟨P, 0, none⟩), .int .i64 dep] W (VEnds W P t (.error (3, (skipB (rest t a)).length))) := by
  have hb0 := below_new0 W (.cells #[.int .i64 0, .bool false, .string ⟨#[]⟩, .slice none 0 0, .slice none 0 0] 26)
  have HB := Lib.hid (blanks_any (h.below hb0))
  have HW0 := Lib.hid (h.stays hb0)
  have HR0 := Lib.hid (hR.below hb0)
  have hP := h.1.lt
  have hsz := h.2
  have HBN := Lib.hid (Blk.new W #[.int .i64 0, .bool false, .string ⟨#[]⟩, .slice none 0 0, .slice none 0 0] 26)
  clear h hR hb0
  subst hn
  go_enter Tryz.func41, Tryz.ntmps41
  go_wp2_with fail
  go_at_call 42; refine HB.out.mono ?_; rintro e w1 ⟨rfl, c1, hw1, hc1⟩
  have HW1 := Lib.hid (HW0.out.trans hw1)
  have HR1 := Lib.hid (HR0.out.aside hw1.1 hP7)
  have HN1 := Lib.hid (HBN.out.aside hw1.1 (by omega))
  have HC1 := Lib.hid hc1
  have k1 := hw1.2.1.cell 1
  have k2 := hw1.2.1.cell 2
  have hn2 := hw1.2.2.2.2
  have f2 := hw1.2.1.frozen 2
  clear hw1 hc1 HB
  go_wp2_with (go_at_call 40; refine (diag_any _ _ _).mono ?_; rintro e w3 ⟨rfl, rfl⟩)
  refine ⟨rfl, ?_⟩
  exact thrown_new (c := 3) HW1.out (l := (skipB (rest t a)).length) (by rw [← HC1.out]; exact rest_back HW1.out.2.2.1)
set_option maxRecDepth 100000 in
set_option maxHeartbeats 4000000 in
theorem value_text {W : World} {P a n d : Nat} {dep : Int} {t : ByteArray} (h : Rdr W P t a n) (hR : ReadyJ W) (hP7 : 7 ≤ P) (hd : ¬ 24 < dep) (hn : ¬ n = 2000) (hx : headN (skipB (rest t a)) = 34) :
    Calls Tryz.prog 41 #[.pointer (some ⟨P, 0, none⟩), .int .i64 dep] W (VEnds W P t (txtR (n + 1) (quotedJ (skipB (rest t a))))) := by
  have hb0 := below_new0 W (.cells #[.int .i64 0, .bool false, .string ⟨#[]⟩, .slice none 0 0, .slice none 0 0] 26)
  have HB := Lib.hid (blanks_any (h.below hb0))
  have HW0 := Lib.hid (h.stays hb0)
  have HR0 := Lib.hid (hR.below hb0)
  have hP := h.1.lt
  have hsz := h.2
  have HBN := Lib.hid (Blk.new W #[.int .i64 0, .bool false, .string ⟨#[]⟩, .slice none 0 0, .slice none 0 0] 26)
  clear h hR hb0
  have hn1 : ((n : Int) == 2000) = false := beq_eq_false_iff_ne.2 (by omega)
  have hw : IntKind.i64.wrap ((n : Int) + 1) = (n : Int) + 1 := IntWalk.i64_in _ (by omega)
  go_enter Tryz.func41, Tryz.ntmps41
  go_wp2_with fail
  go_at_call 42; refine HB.out.mono ?_; rintro e w1 ⟨rfl, c1, hw1, hc1⟩
  have HW1 := Lib.hid (HW0.out.trans hw1)
  have HR1 := Lib.hid (HR0.out.aside hw1.1 hP7)
  have HN1 := Lib.hid (HBN.out.aside hw1.1 (by omega))
  have HC1 := Lib.hid hc1
  have k1 := hw1.2.1.cell 1
  have k2 := hw1.2.1.cell 2
  have hn2 := hw1.2.2.2.2
  have f2 := hw1.2.1.frozen 2
  clear hw1 hc1 HB
  have HG : Hid (Went w1 (w1.setCell ⟨P, 2, none⟩ (.int .i64 ((n : Int) + 1))) P t c1 (n + 1)) := Lib.hid (by simpa using HW1.out.2.begins (by omega : n < 2000))
  have HW2 := Lib.hid (HW1.out.trans HG.out)
  have HR2 := Lib.hid (HR1.out.aside HG.out.1 hP7)
  have HN2 := Lib.hid (HN1.out.aside HG.out.1 (by omega))
  have HP2 := Lib.hid (peek_any HG.out.2)
  rw [HC1.out, hx] at HP2
  obtain ⟨W2, hW2⟩ : ∃ W2, w1.setCell ⟨P, 2, none⟩ (.int .i64 ((n : Int) + 1)) = W2 := ⟨_, rfl⟩
  rw [hW2] at HG HW2 HR2 HN2 HP2
  go_wp2_with fail
  try rw [hW2]
  clear k1 k2 f2
  go_at_call 57; refine HP2.out.mono ?_; rintro e w3 ⟨rfl, hb3⟩
  have HW3 := Lib.hid (HW2.out.trans (HW2.out.2.stays hb3))
  have HR3 := Lib.hid (HR2.out.below hb3)
  have HN3 := Lib.hid (HN2.out.below hb3)
  clear hb3 HW2 HR2 HN2 HP2 HG HW1 HR1 HN1 hW2
  have hal : c1 < t.size := by
    obtain ⟨r, hr⟩ := head_cons (q := 34) (by decide) hx
    have h2 := rest_length t c1
    rw [HC1.out, hr, List.length_cons] at h2
    omega
  have HQ := Lib.hid (quoted_any HW3.out.2 HR3.out hP7 hal)
  rw [HC1.out] at HQ
  have HT := Lib.hid (fun s w => vText_any s w)
  clear hx hal
  go_wp2_with fail
  go_at_call 59; refine HQ.out.mono ?_
  cases hq : quotedJ (skipB (rest t a)) with
  | error b =>
    rintro e w4 ⟨D, rfl, h1, h2, h3⟩
    refine ⟨rfl, ?_⟩
    exact Thrown.after ⟨D, rfl, h1, h2, h3⟩ HW3.out.1
  | ok y =>
    obtain ⟨s, R'⟩ := y
    rintro e w4 ⟨rfl, a5, hw4, hc4⟩
    have HC5 := Lib.hid hc4
    have HW4 := Lib.hid (HW3.out.trans hw4)
    have HN4 := Lib.hid (HN3.out.aside hw4.1 (by omega))
    have HQE := Lib.hid hq
    clear hw4 hc4 hq
    go_wp2_with (go_at_call 58; (with_reducible refine (HT.out _ _).mono ?_); rintro e w5 ⟨rfl, hb5⟩; refine Hid.out ?_)
    refine Lib.hid ?_
    have HW5 := Lib.hid (HW4.out.trans (HW4.out.2.stays hb5))
    have HN5 := Lib.hid (HN4.out.below hb5)
    have HF5 := Lib.hid (fresh_scal W.heap.size w5.heap.size w5 4 false s)
    have hs5 : smallT (textT s) := smallT_node.2 ⟨by simp, by simp, by simp⟩
    unfold scal
    have hn5 := HN5.out
    have z0 := hn5.cell 0
    have z1 := hn5.cell 1
    have z2 := hn5.cell 2
    have z3 := hn5.cell 3
    have z4 := hn5.cell 4
    have f0 := hn5.frozen 0
    have f1 := hn5.frozen 1
    have f2 := hn5.frozen 2
    have f3 := hn5.frozen 3
    have f4 := hn5.frozen 4
    have hd5 := hn5.set5 (.int .i64 4) (.bool false) (.string s) (.slice none 0 0) (.slice none 0 0)
    have d0 := hd5.cell 0
    have d1 := hd5.cell 1
    have d2 := hd5.cell 2
    have d3 := hd5.cell 3
    have d4 := hd5.cell 4
    clear hn5 hd5
    go_wp2_with fail
    refine bodyPost_ret (v := .agg #[.int .i64 4, .bool false, .string s, .slice none 0 0, .slice none 0 0]) (by simp [results, Tryz.results41, go_sem, d0, d1, d2, d3, d4]) rfl ?_
    rw [HQE.out]
    refine ⟨_, a5, rfl, fresh_scal _ _ _ _ _ _, hs5, HW5.out.set5 hP (Nat.le_refl _) _ _ _ _ _, HC5.out⟩
set_option maxRecDepth 100000 in
set_option maxHeartbeats 4000000 in
theorem value_numa {x : Nat} {W : World} {P a n d : Nat} {dep : Int} {t : ByteArray} (h : Rdr W P t a n) (hR : ReadyJ W) (hP7 : 7 ≤ P) (hd : ¬ 24 < dep) (hn : ¬ n = 2000) (hx : headN (skipB (rest t a)) = x) (h1 : ¬ x = 34) (h2 : ¬ x = 91) (h3 : ¬ x = 123) (h4 : x = 45) :
    Calls Tryz.prog 41 #[.pointer (some ⟨P, 0, none⟩), .int .i64 dep] W (VEnds W P t (oneR (n + 1) (intR (numJ (skipB (rest t a)))))) := by
  have hb0 := below_new0 W (.cells #[.int .i64 0, .bool false, .string ⟨#[]⟩, .slice none 0 0, .slice none 0 0] 26)
  have HB := Lib.hid (blanks_any (h.below hb0))
  have HW0 := Lib.hid (h.stays hb0)
  have HR0 := Lib.hid (hR.below hb0)
  have hP := h.1.lt
  have hsz := h.2
  have HBN := Lib.hid (Blk.new W #[.int .i64 0, .bool false, .string ⟨#[]⟩, .slice none 0 0, .slice none 0 0] 26)
  clear h hR hb0
  have hn1 : ((n : Int) == 2000) = false := beq_eq_false_iff_ne.2 (by omega)
  have hw : IntKind.i64.wrap ((n : Int) + 1) = (n : Int) + 1 := IntWalk.i64_in _ (by omega)
  have e1 : ((x : Int) == 34) = false := beq_eq_false_iff_ne.2 (by omega)
  have e2 : ((x : Int) == 91) = false := beq_eq_false_iff_ne.2 (by omega)
  have e3 : ((x : Int) == 123) = false := beq_eq_false_iff_ne.2 (by omega)
  have e4 : ((x : Int) == 45) = true := by rw [h4]; rfl
  go_enter Tryz.func41, Tryz.ntmps41
  go_wp2_with fail
  go_at_call 42; refine HB.out.mono ?_; rintro e w1 ⟨rfl, c1, hw1, hc1⟩
  have HW1 := Lib.hid (HW0.out.trans hw1)
  have HR1 := Lib.hid (HR0.out.aside hw1.1 hP7)
  have HN1 := Lib.hid (HBN.out.aside hw1.1 (by omega))
  have HC1 := Lib.hid hc1
  have k1 := hw1.2.1.cell 1
  have k2 := hw1.2.1.cell 2
  have hn2 := hw1.2.2.2.2
  have f2 := hw1.2.1.frozen 2
  clear hw1 hc1 HB
  have HG : Hid (Went w1 (w1.setCell ⟨P, 2, none⟩ (.int .i64 ((n : Int) + 1))) P t c1 (n + 1)) := Lib.hid (by simpa using HW1.out.2.begins (by omega : n < 2000))
  have HW2 := Lib.hid (HW1.out.trans HG.out)
  have HR2 := Lib.hid (HR1.out.aside HG.out.1 hP7)
  have HN2 := Lib.hid (HN1.out.aside HG.out.1 (by omega))
  have HP2 := Lib.hid (peek_any HG.out.2)
  rw [HC1.out, hx] at HP2
  obtain ⟨W2, hW2⟩ : ∃ W2, w1.setCell ⟨P, 2, none⟩ (.int .i64 ((n : Int) + 1)) = W2 := ⟨_, rfl⟩
  rw [hW2] at HG HW2 HR2 HN2 HP2
  go_wp2_with fail
  try rw [hW2]
  clear k1 k2 f2
  go_at_call 57; refine HP2.out.mono ?_; rintro e w3 ⟨rfl, hb3⟩
  have HW3 := Lib.hid (HW2.out.trans (HW2.out.2.stays hb3))
  have HR3 := Lib.hid (HR2.out.below hb3)
  have HN3 := Lib.hid (HN2.out.below hb3)
  clear hb3 HW2 HR2 HN2 HP2 HG HW1 HR1 HN1 hW2
  have HQ := Lib.hid (number_any HW3.out.2)
  rw [HC1.out] at HQ
  clear hx
  go_wp2_with (go_at_call 63; refine Hid.out ?_)
  refine Lib.hid ?_
  refine HQ.out.mono ?_
  cases hq : intR (numJ (skipB (rest t a))) with
  | error b =>
    rintro e w4 ⟨D, rfl, h1, h2, h3⟩
    refine ⟨rfl, ?_⟩
    exact Thrown.after ⟨D, rfl, h1, h2, h3⟩ HW3.out.1
  | ok y =>
    obtain ⟨T, R'⟩ := y
    rintro e w5 ⟨k5, b5, t5, a5, hT, rfl, hw5, hc5⟩
    have HC5 := Lib.hid hc5
    have HW5 := Lib.hid (HW3.out.trans hw5)
    have HN5 := Lib.hid (HN3.out.aside hw5.1 (by omega))
    have HF5 := Lib.hid (fresh_scal W.heap.size w5.heap.size w5 k5 b5 t5)
    have hs5 : smallT (VT.node k5 b5 t5 [] []) := smallT_node.2 ⟨by simp, by simp, by simp⟩
    subst hT
    have HQE := Lib.hid hq
    clear hw5 hc5 hq
    unfold scal
    have hn5 := HN5.out
    have z0 := hn5.cell 0
    have z1 := hn5.cell 1
    have z2 := hn5.cell 2
    have z3 := hn5.cell 3
    have z4 := hn5.cell 4
    have f0 := hn5.frozen 0
    have f1 := hn5.frozen 1
    have f2 := hn5.frozen 2
    have f3 := hn5.frozen 3
    have f4 := hn5.frozen 4
    have hd5 := hn5.set5 (.int .i64 k5) (.bool b5) (.string t5) (.slice none 0 0) (.slice none 0 0)
    have d0 := hd5.cell 0
    have d1 := hd5.cell 1
    have d2 := hd5.cell 2
    have d3 := hd5.cell 3
    have d4 := hd5.cell 4
    clear hn5 hd5
    go_wp2_with fail
    refine bodyPost_ret (v := .agg #[.int .i64 k5, .bool b5, .string t5, .slice none 0 0, .slice none 0 0]) (by simp [results, Tryz.results41, go_sem, d0, d1, d2, d3, d4]) rfl ?_
    rw [HQE.out]
    refine ⟨_, a5, rfl, fresh_scal _ _ _ _ _ _, hs5, HW5.out.set5 hP (Nat.le_refl _) _ _ _ _ _, HC5.out⟩
set_option maxRecDepth 100000 in
set_option maxHeartbeats 4000000 in
theorem value_numb {x : Nat} {W : World} {P a n d : Nat} {dep : Int} {t : ByteArray} (h : Rdr W P t a n) (hR : ReadyJ W) (hP7 : 7 ≤ P) (hd : ¬ 24 < dep) (hn : ¬ n = 2000) (hx : headN (skipB (rest t a)) = x) (h1 : ¬ x = 34) (h2 : ¬ x = 91) (h3 : ¬ x = 123) (h4 : ¬ x = 45) (h5 : digN x = true) :
    Calls Tryz.prog 41 #[.pointer (some ⟨P, 0, none⟩), .int .i64 dep] W (VEnds W P t (oneR (n + 1) (intR (numJ (skipB (rest t a)))))) := by
  have hb0 := below_new0 W (.cells #[.int .i64 0, .bool false, .string ⟨#[]⟩, .slice none 0 0, .slice none 0 0] 26)
  have HB := Lib.hid (blanks_any (h.below hb0))
  have HW0 := Lib.hid (h.stays hb0)
  have HR0 := Lib.hid (hR.below hb0)
  have hP := h.1.lt
  have hsz := h.2
  have HBN := Lib.hid (Blk.new W #[.int .i64 0, .bool false, .string ⟨#[]⟩, .slice none 0 0, .slice none 0 0] 26)
  clear h hR hb0
  have hn1 : ((n : Int) == 2000) = false := beq_eq_false_iff_ne.2 (by omega)
  have hw : IntKind.i64.wrap ((n : Int) + 1) = (n : Int) + 1 := IntWalk.i64_in _ (by omega)
  have e1 : ((x : Int) == 34) = false := beq_eq_false_iff_ne.2 (by omega)
  have e2 : ((x : Int) == 91) = false := beq_eq_false_iff_ne.2 (by omega)
  have e3 : ((x : Int) == 123) = false := beq_eq_false_iff_ne.2 (by omega)
  have e4 : ((x : Int) == 45) = false := beq_eq_false_iff_ne.2 (by omega)
  have HDG := Lib.hid (fun w => isDigit_b x h5 w)
  go_enter Tryz.func41, Tryz.ntmps41
  go_wp2_with fail
  go_at_call 42; refine HB.out.mono ?_; rintro e w1 ⟨rfl, c1, hw1, hc1⟩
  have HW1 := Lib.hid (HW0.out.trans hw1)
  have HR1 := Lib.hid (HR0.out.aside hw1.1 hP7)
  have HN1 := Lib.hid (HBN.out.aside hw1.1 (by omega))
  have HC1 := Lib.hid hc1
  have k1 := hw1.2.1.cell 1
  have k2 := hw1.2.1.cell 2
  have hn2 := hw1.2.2.2.2
  have f2 := hw1.2.1.frozen 2
  clear hw1 hc1 HB
  have HG : Hid (Went w1 (w1.setCell ⟨P, 2, none⟩ (.int .i64 ((n : Int) + 1))) P t c1 (n + 1)) := Lib.hid (by simpa using HW1.out.2.begins (by omega : n < 2000))
  have HW2 := Lib.hid (HW1.out.trans HG.out)
  have HR2 := Lib.hid (HR1.out.aside HG.out.1 hP7)
  have HN2 := Lib.hid (HN1.out.aside HG.out.1 (by omega))
  have HP2 := Lib.hid (peek_any HG.out.2)
  rw [HC1.out, hx] at HP2
  obtain ⟨W2, hW2⟩ : ∃ W2, w1.setCell ⟨P, 2, none⟩ (.int .i64 ((n : Int) + 1)) = W2 := ⟨_, rfl⟩
  rw [hW2] at HG HW2 HR2 HN2 HP2
  go_wp2_with fail
  try rw [hW2]
  clear k1 k2 f2
  go_at_call 57; refine HP2.out.mono ?_; rintro e w3 ⟨rfl, hb3⟩
  have HW3 := Lib.hid (HW2.out.trans (HW2.out.2.stays hb3))
  have HR3 := Lib.hid (HR2.out.below hb3)
  have HN3 := Lib.hid (HN2.out.below hb3)
  clear hb3 HW2 HR2 HN2 HP2 HG HW1 HR1 HN1 hW2
  have HQ := Lib.hid (number_any HW3.out.2)
  rw [HC1.out] at HQ
  clear hx
  go_wp2_with (first | (go_at_call 62; (with_reducible refine (HDG.out _).mono ?_); rintro e wd ⟨rfl, rfl⟩) | (go_at_call 63; refine Hid.out ?_))
  refine Lib.hid ?_
  refine HQ.out.mono ?_
  cases hq : intR (numJ (skipB (rest t a))) with
  | error b =>
    rintro e w4 ⟨D, rfl, h1, h2, h3⟩
    refine ⟨rfl, ?_⟩
    exact Thrown.after ⟨D, rfl, h1, h2, h3⟩ HW3.out.1
  | ok y =>
    obtain ⟨T, R'⟩ := y
    rintro e w5 ⟨k5, b5, t5, a5, hT, rfl, hw5, hc5⟩
    have HC5 := Lib.hid hc5
    have HW5 := Lib.hid (HW3.out.trans hw5)
    have HN5 := Lib.hid (HN3.out.aside hw5.1 (by omega))
    have HF5 := Lib.hid (fresh_scal W.heap.size w5.heap.size w5 k5 b5 t5)
    have hs5 : smallT (VT.node k5 b5 t5 [] []) := smallT_node.2 ⟨by simp, by simp, by simp⟩
    subst hT
    have HQE := Lib.hid hq
    clear hw5 hc5 hq
    unfold scal
    have hn5 := HN5.out
    have z0 := hn5.cell 0
    have z1 := hn5.cell 1
    have z2 := hn5.cell 2
    have z3 := hn5.cell 3
    have z4 := hn5.cell 4
    have f0 := hn5.frozen 0
    have f1 := hn5.frozen 1
    have f2 := hn5.frozen 2
    have f3 := hn5.frozen 3
    have f4 := hn5.frozen 4
    have hd5 := hn5.set5 (.int .i64 k5) (.bool b5) (.string t5) (.slice none 0 0) (.slice none 0 0)
    have d0 := hd5.cell 0
    have d1 := hd5.cell 1
    have d2 := hd5.cell 2
    have d3 := hd5.cell 3
    have d4 := hd5.cell 4
    clear hn5 hd5
    go_wp2_with fail
    refine bodyPost_ret (v := .agg #[.int .i64 k5, .bool b5, .string t5, .slice none 0 0, .slice none 0 0]) (by simp [results, Tryz.results41, go_sem, d0, d1, d2, d3, d4]) rfl ?_
    rw [HQE.out]
    refine ⟨_, a5, rfl, fresh_scal _ _ _ _ _ _, hs5, HW5.out.set5 hP (Nat.le_refl _) _ _ _ _ _, HC5.out⟩
set_option maxRecDepth 100000 in
set_option maxHeartbeats 4000000 in
theorem value_word {x : Nat} {W : World} {P a n d : Nat} {dep : Int} {t : ByteArray} (h : Rdr W P t a n) (hR : ReadyJ W) (hP7 : 7 ≤ P) (hd : ¬ 24 < dep) (hn : ¬ n = 2000) (hx : headN (skipB (rest t a)) = x) (h1 : ¬ x = 34) (h2 : ¬ x = 91) (h3 : ¬ x = 123) (h4 : ¬ x = 45) (h5 : digN x = false) :
    Calls Tryz.prog 41 #[.pointer (some ⟨P, 0, none⟩), .int .i64 dep] W (VEnds W P t (oneR (n + 1) (wordJ (skipB (rest t a))))) := by
  have hb0 := below_new0 W (.cells #[.int .i64 0, .bool false, .string ⟨#[]⟩, .slice none 0 0, .slice none 0 0] 26)
  have HB := Lib.hid (blanks_any (h.below hb0))
  have HW0 := Lib.hid (h.stays hb0)
  have HR0 := Lib.hid (hR.below hb0)
  have hP := h.1.lt
  have hsz := h.2
  have HBN := Lib.hid (Blk.new W #[.int .i64 0, .bool false, .string ⟨#[]⟩, .slice none 0 0, .slice none 0 0] 26)
  clear h hR hb0
  have hn1 : ((n : Int) == 2000) = false := beq_eq_false_iff_ne.2 (by omega)
  have hw : IntKind.i64.wrap ((n : Int) + 1) = (n : Int) + 1 := IntWalk.i64_in _ (by omega)
  have e1 : ((x : Int) == 34) = false := beq_eq_false_iff_ne.2 (by omega)
  have e2 : ((x : Int) == 91) = false := beq_eq_false_iff_ne.2 (by omega)
  have e3 : ((x : Int) == 123) = false := beq_eq_false_iff_ne.2 (by omega)
  have e4 : ((x : Int) == 45) = false := beq_eq_false_iff_ne.2 (by omega)
  have HDG := Lib.hid (fun w => isDigit_b x h5 w)
  go_enter Tryz.func41, Tryz.ntmps41
  go_wp2_with fail
  go_at_call 42; refine HB.out.mono ?_; rintro e w1 ⟨rfl, c1, hw1, hc1⟩
  have HW1 := Lib.hid (HW0.out.trans hw1)
  have HR1 := Lib.hid (HR0.out.aside hw1.1 hP7)
  have HN1 := Lib.hid (HBN.out.aside hw1.1 (by omega))
  have HC1 := Lib.hid hc1
  have k1 := hw1.2.1.cell 1
  have k2 := hw1.2.1.cell 2
  have hn2 := hw1.2.2.2.2
  have f2 := hw1.2.1.frozen 2
  clear hw1 hc1 HB
  have HG : Hid (Went w1 (w1.setCell ⟨P, 2, none⟩ (.int .i64 ((n : Int) + 1))) P t c1 (n + 1)) := Lib.hid (by simpa using HW1.out.2.begins (by omega : n < 2000))
  have HW2 := Lib.hid (HW1.out.trans HG.out)
  have HR2 := Lib.hid (HR1.out.aside HG.out.1 hP7)
  have HN2 := Lib.hid (HN1.out.aside HG.out.1 (by omega))
  have HP2 := Lib.hid (peek_any HG.out.2)
  rw [HC1.out, hx] at HP2
  obtain ⟨W2, hW2⟩ : ∃ W2, w1.setCell ⟨P, 2, none⟩ (.int .i64 ((n : Int) + 1)) = W2 := ⟨_, rfl⟩
  rw [hW2] at HG HW2 HR2 HN2 HP2
  go_wp2_with fail
  try rw [hW2]
  clear k1 k2 f2
  go_at_call 57; refine HP2.out.mono ?_; rintro e w3 ⟨rfl, hb3⟩
  have HW3 := Lib.hid (HW2.out.trans (HW2.out.2.stays hb3))
  have HR3 := Lib.hid (HR2.out.below hb3)
  have HN3 := Lib.hid (HN2.out.below hb3)
  clear hb3 HW2 HR2 HN2 HP2 HG HW1 HR1 HN1 hW2
  have HQ := Lib.hid (word_any HW3.out.2)
  rw [HC1.out] at HQ
  clear hx
  go_wp2_with (first | (go_at_call 62; (with_reducible refine (HDG.out _).mono ?_); rintro e wd ⟨rfl, rfl⟩) | (go_at_call 64; refine Hid.out ?_))
  refine Lib.hid ?_
  refine HQ.out.mono ?_
  cases hq : wordJ (skipB (rest t a)) with
  | error b =>
    rintro e w4 ⟨D, rfl, h1, h2, h3⟩
    refine ⟨rfl, ?_⟩
    exact Thrown.after ⟨D, rfl, h1, h2, h3⟩ HW3.out.1
  | ok y =>
    obtain ⟨T, R'⟩ := y
    rintro e w5 ⟨k5, b5, t5, a5, hT, rfl, hw5, hc5⟩
    have HC5 := Lib.hid hc5
    have HW5 := Lib.hid (HW3.out.trans hw5)
    have HN5 := Lib.hid (HN3.out.aside hw5.1 (by omega))
    have HF5 := Lib.hid (fresh_scal W.heap.size w5.heap.size w5 k5 b5 t5)
    have hs5 : smallT (VT.node k5 b5 t5 [] []) := smallT_node.2 ⟨by simp, by simp, by simp⟩
    subst hT
    have HQE := Lib.hid hq
    clear hw5 hc5 hq
    unfold scal
    have hn5 := HN5.out
    have z0 := hn5.cell 0
    have z1 := hn5.cell 1
    have z2 := hn5.cell 2
    have z3 := hn5.cell 3
    have z4 := hn5.cell 4
    have f0 := hn5.frozen 0
    have f1 := hn5.frozen 1
    have f2 := hn5.frozen 2
    have f3 := hn5.frozen 3
    have f4 := hn5.frozen 4
    have hd5 := hn5.set5 (.int .i64 k5) (.bool b5) (.string t5) (.slice none 0 0) (.slice none 0 0)
    have d0 := hd5.cell 0
    have d1 := hd5.cell 1
    have d2 := hd5.cell 2
    have d3 := hd5.cell 3
    have d4 := hd5.cell 4
    clear hn5 hd5
    go_wp2_with fail
    refine bodyPost_ret (v := .agg #[.int .i64 k5, .bool b5, .string t5, .slice none 0 0, .slice none 0 0]) (by simp [results, Tryz.results41, go_sem, d0, d1, d2, d3, d4]) rfl ?_
    rw [HQE.out]
    refine ⟨_, a5, rfl, fresh_scal _ _ _ _ _ _, hs5, HW5.out.set5 hP (Nat.le_refl _) _ _ _ _ _, HC5.out⟩
set_option maxRecDepth 100000 in
set_option maxHeartbeats 4000000 in
theorem value_list {W : World} {P a n d : Nat} {dep : Int} {t : ByteArray} (h : Rdr W P t a n) (hR : ReadyJ W) (hP7 : 7 ≤ P) (hd : ¬ 24 < dep) (hn : ¬ n = 2000) (hx : headN (skipB (rest t a)) = 91) (hd0 : 0 ≤ dep) (hv : ∀ W a n, Rdr W P t a n → ReadyJ W → Calls Tryz.prog 41 #[.pointer (some ⟨P, 0, none⟩), .int .i64 (dep + 1)] W (VEnds W P t (valJ d (rest t a) n))) :
    Calls Tryz.prog 41 #[.pointer (some ⟨P, 0, none⟩), .int .i64 dep] W (VEnds W P t (listR (eachJ (itemJ (valJ d)) 93 [] (skipB (rest t a)) (n + 1)))) := by
  have hb0 := below_new0 W (.cells #[.int .i64 0, .bool false, .string ⟨#[]⟩, .slice none 0 0, .slice none 0 0] 26)
  have HB := Lib.hid (blanks_any (h.below hb0))
  have HW0 := Lib.hid (h.stays hb0)
  have HR0 := Lib.hid (hR.below hb0)
  have hP := h.1.lt
  have hsz := h.2
  have HBN := Lib.hid (Blk.new W #[.int .i64 0, .bool false, .string ⟨#[]⟩, .slice none 0 0, .slice none 0 0] 26)
  clear h hR hb0
  have hn1 : ((n : Int) == 2000) = false := beq_eq_false_iff_ne.2 (by omega)
  have hw : IntKind.i64.wrap ((n : Int) + 1) = (n : Int) + 1 := IntWalk.i64_in _ (by omega)
  go_enter Tryz.func41, Tryz.ntmps41
  go_wp2_with fail
  go_at_call 42; refine HB.out.mono ?_; rintro e w1 ⟨rfl, c1, hw1, hc1⟩
  have HW1 := Lib.hid (HW0.out.trans hw1)
  have HR1 := Lib.hid (HR0.out.aside hw1.1 hP7)
  have HN1 := Lib.hid (HBN.out.aside hw1.1 (by omega))
  have HC1 := Lib.hid hc1
  have k1 := hw1.2.1.cell 1
  have k2 := hw1.2.1.cell 2
  have hn2 := hw1.2.2.2.2
  have f2 := hw1.2.1.frozen 2
  clear hw1 hc1 HB
  have HG : Hid (Went w1 (w1.setCell ⟨P, 2, none⟩ (.int .i64 ((n : Int) + 1))) P t c1 (n + 1)) := Lib.hid (by simpa using HW1.out.2.begins (by omega : n < 2000))
  have HW2 := Lib.hid (HW1.out.trans HG.out)
  have HR2 := Lib.hid (HR1.out.aside HG.out.1 hP7)
  have HN2 := Lib.hid (HN1.out.aside HG.out.1 (by omega))
  have HP2 := Lib.hid (peek_any HG.out.2)
  rw [HC1.out, hx] at HP2
  obtain ⟨W2, hW2⟩ : ∃ W2, w1.setCell ⟨P, 2, none⟩ (.int .i64 ((n : Int) + 1)) = W2 := ⟨_, rfl⟩
  rw [hW2] at HG HW2 HR2 HN2 HP2
  go_wp2_with fail
  try rw [hW2]
  clear k1 k2 f2
  go_at_call 57; refine HP2.out.mono ?_; rintro e w3 ⟨rfl, hb3⟩
  have HW3 := Lib.hid (HW2.out.trans (HW2.out.2.stays hb3))
  have HR3 := Lib.hid (HR2.out.below hb3)
  have HN3 := Lib.hid (HN2.out.below hb3)
  clear hb3 HW2 HR2 HN2 HP2 HG HW1 HR1 HN1 hW2
  have hal : c1 < t.size := by
    obtain ⟨r, hr⟩ := head_cons (q := 91) (by decide) hx
    have h2 := rest_length t c1
    rw [HC1.out, hr, List.length_cons] at h2
    omega
  have HQ := Lib.hid (list_read HW3.out.2 HR3.out hP7 hal hd0 (by omega) hv)
  rw [HC1.out] at HQ
  clear hx hal
  go_wp2_with fail
  go_at_call 60; refine HQ.out.mono ?_
  cases hq : listR (eachJ (itemJ (valJ d)) 93 [] (skipB (rest t a)) (n + 1)) with
  | error b =>
    rintro e w4 ⟨D, rfl, h1, h2, h3⟩
    refine ⟨rfl, ?_⟩
    exact Thrown.after ⟨D, rfl, h1, h2, h3⟩ HW3.out.1
  | ok y =>
    obtain ⟨T, R', n'⟩ := y
    rintro e w5 ⟨v5, a5, rfl, hf5, hs5, hw5, hc5⟩
    obtain ⟨y1, y2, y3, ya, yn, yc, yk, ym, yd, rfl⟩ := hf5.shape
    have HC5 := Lib.hid hc5
    have HN5 := Lib.hid (HN3.out.aside hw5.1 (by omega))
    have hz5 : W.heap.size + 1 ≤ w3.heap.size := HN3.out.lt
    have HF5 := Lib.hid hf5
    have HW5 := Lib.hid (HW3.out.trans hw5)
    have HQE := Lib.hid hq
    clear hw5 hc5 hq hf5
    have hn5 := HN5.out
    have z0 := hn5.cell 0
    have z1 := hn5.cell 1
    have z2 := hn5.cell 2
    have z3 := hn5.cell 3
    have z4 := hn5.cell 4
    have f0 := hn5.frozen 0
    have f1 := hn5.frozen 1
    have f2 := hn5.frozen 2
    have f3 := hn5.frozen 3
    have f4 := hn5.frozen 4
    have hd5 := hn5.set5 (.int .i64 y1) (.bool y2) (.string y3) (.slice ya yn yc) (.slice yk ym yd)
    have d0 := hd5.cell 0
    have d1 := hd5.cell 1
    have d2 := hd5.cell 2
    have d3 := hd5.cell 3
    have d4 := hd5.cell 4
    clear hn5 hd5
    go_wp2_with fail
    refine bodyPost_ret (v := .agg #[.int .i64 y1, .bool y2, .string y3, .slice ya yn yc, .slice yk ym yd]) (by simp [results, Tryz.results41, go_sem, d0, d1, d2, d3, d4]) rfl ?_
    rw [HQE.out]
    refine ⟨_, a5, rfl, HF5.out.keep (fun g h1 h2 => ?_) (by omega) (by simp), hs5, HW5.out.set5 hP (Nat.le_refl _) _ _ _ _ _, HC5.out⟩
    rw [Below.heap_setCell _ _ _ _ (by show g ≠ W.heap.size; omega), Below.heap_setCell _ _ _ _ (by show g ≠ W.heap.size; omega), Below.heap_setCell _ _ _ _ (by show g ≠ W.heap.size; omega), Below.heap_setCell _ _ _ _ (by show g ≠ W.heap.size; omega), Below.heap_setCell _ _ _ _ (by show g ≠ W.heap.size; omega)]
end Go.Proofs.YtnmfoedfllmclaaGreatDoor
