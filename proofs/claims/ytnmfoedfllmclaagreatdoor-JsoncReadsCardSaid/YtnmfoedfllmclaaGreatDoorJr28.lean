/- The document's own reader: a value · The document's own reader: a value: too deep, too many -/
import Derived.Test.YtnmfoedfllmclaaGreatDoorJr23
import Derived.Test.YtnmfoedfllmclaaGreatDoorJr27
namespace Go.Proofs.YtnmfoedfllmclaaGreatDoor
open Go.RowKit Go.Shelf
set_option linter.unusedVariables false

theorem DocV.puts {W wx : World} {t : ByteArray} {a n c x : Nat} (h : DocV W wx t a n c x) {b n' c' x' : Nat} (hb : b ≤ t.size) : DocV W (((((wx.setCell ⟨W.heap.size, 0, none⟩ (.string t)).setCell ⟨W.heap.size, 1, none⟩ (.int .i64 (b : Int))).setCell ⟨W.heap.size, 2, none⟩ (.int .i64 (n' : Int))).setCell ⟨W.heap.size, 3, none⟩ (.int .i64 (c' : Int))).setCell ⟨W.heap.size, 4, none⟩ (.int .i64 (x' : Int))) t b n' c' x' :=
  ⟨⟨h.1.1.set5 _ _ _ _ _, h.1.2.1.other5 (by omega) _ _ _ _ _, below_set5 h.1.2.2.1 (Nat.le_refl _) _ _ _ _ _, hb⟩, h.2.other5 (by omega) _ _ _ _ _⟩
theorem DocV.counts {W wx : World} {t : ByteArray} {a n c x : Nat} (h : DocV W wx t a n c x) : DocV W (wx.setCell ⟨W.heap.size, 2, none⟩ (.int .i64 ((n : Int) + 1))) t a (n + 1) c x :=
  ⟨⟨by have := h.1.1.set 2 (.int .i64 ((n : Int) + 1)); simpa using this, h.1.2.1.other (by simp) _, h.1.2.2.1.setCell (Nat.le_refl _) _, h.1.2.2.2⟩, h.2.other (by show W.heap.size + 1 + 1 ≠ W.heap.size; omega) _⟩
def wordOf (i : Nat) : List UInt8 := if i = 0 then [110, 117, 108, 108] else if i = 1 then [116, 114, 117, 101] else [102, 97, 108, 115, 101]
theorem valD_word0 {d n : Nat} {R R0 : List UInt8} {c : UInt8} {r : List UInt8} (hn : ¬ n = 2000) (hR : skipB R0 = R) (hc : R = c :: r) (h1 : c ≠ 34) (h2 : c ≠ 91) (h3 : c ≠ 123) (h4 : c ≠ 45) (h5 : digJ c = false) : valD (d + 1) R0 n = oneR (n + 1) (wordJ R) := by
  unfold valD
  rw [if_neg hn, hR, hc]
  simp only
  rw [if_neg h1, if_neg h2, if_neg h3, if_neg (by rw [h5]; simp [h4])]
  cases wordJ (c :: r) with
  | error e => rfl
  | ok y => rfl
theorem pre_cons {R : List UInt8} {q : UInt8} {p : List UInt8} (h : Lib.hasPrefix R (q :: p) = true) : ∃ r, R = q :: r := by
  have := List.isPrefixOf_iff_prefix.1 h
  obtain ⟨s, hs⟩ := this
  exact ⟨p ++ s, by rw [← hs]; rfl⟩
theorem valD_w0 {d n : Nat} {R R0 : List UInt8} (hn : ¬ n = 2000) (hR : skipB R0 = R) (h : Lib.hasPrefix R (wordOf 0) = true) : valD (d + 1) R0 n = .ok (nullT, R.drop 4, n + 1) := by
  have h : Lib.hasPrefix R [110, 117, 108, 108] = true := h
  obtain ⟨r, hr⟩ := pre_cons h
  rw [valD_word0 hn hR hr (by decide) (by decide) (by decide) (by decide) (by decide)]
  unfold wordJ
  rw [if_pos h]
  rfl
theorem valD_w1 {d n : Nat} {R R0 : List UInt8} (hn : ¬ n = 2000) (hR : skipB R0 = R) (h : Lib.hasPrefix R (wordOf 1) = true) : valD (d + 1) R0 n = .ok (boolT true, R.drop 4, n + 1) := by
  have h : Lib.hasPrefix R [116, 114, 117, 101] = true := h
  obtain ⟨r, hr⟩ := pre_cons h
  rw [valD_word0 hn hR hr (by decide) (by decide) (by decide) (by decide) (by decide)]
  unfold wordJ
  rw [if_neg (by rw [hr]; simp [Lib.hasPrefix, List.isPrefixOf]), if_pos h]
  rfl
theorem valD_w2 {d n : Nat} {R R0 : List UInt8} (hn : ¬ n = 2000) (hR : skipB R0 = R) (h : Lib.hasPrefix R (wordOf 2) = true) : valD (d + 1) R0 n = .ok (boolT false, R.drop 5, n + 1) := by
  have h : Lib.hasPrefix R [102, 97, 108, 115, 101] = true := h
  obtain ⟨r, hr⟩ := pre_cons h
  rw [valD_word0 hn hR hr (by decide) (by decide) (by decide) (by decide) (by decide)]
  unfold wordJ
  rw [if_neg (by rw [hr]; simp [Lib.hasPrefix, List.isPrefixOf]), if_neg (by rw [hr]; simp [Lib.hasPrefix, List.isPrefixOf]), if_pos h]
  rfl
def numHead (R : List UInt8) : Prop := ∃ c r, R = c :: r ∧ (c = 45 ∨ digJ c = true)
theorem numHead_of {R : List UInt8} {z : Int} (hz : headZ R = z) (h : z = 45 ∨ digZ z = true) : numHead R := by
  cases R with
  | nil =>
    have hz : (-1 : Int) = z := hz
    subst hz
    rcases h with h | h
    · omega
    · exact absurd h (by decide)
  | cons c r =>
    refine ⟨c, r, rfl, ?_⟩
    have h1 := digZ_head (c :: r)
    rw [hz] at h1
    have h1 : digZ z = digJ c := h1
    have hz : (c.toNat : Int) = z := hz
    rcases h with h | h
    · left
      apply UInt8.toNat_inj.1
      have : (45 : UInt8).toNat = 45 := rfl
      omega
    · right
      rw [← h1]
      exact h
theorem valD_num {d n : Nat} {R R0 : List UInt8} (hn : ¬ n = 2000) (hR : skipB R0 = R) (h : numHead R) : valD (d + 1) R0 n = (match numD R with | .error e => .error e | .ok (t, R') => .ok (intT t, R', n + 1)) := by
  obtain ⟨c, r, hc, hd⟩ := h
  have h34 : c ≠ 34 := by rintro rfl; revert hd; decide
  have h91 : c ≠ 91 := by rintro rfl; revert hd; decide
  have h123 : c ≠ 123 := by rintro rfl; revert hd; decide
  unfold valD
  rw [if_neg hn, hR, hc]
  simp only
  rw [if_neg h34, if_neg h91, if_neg h123, if_pos hd]
  cases numD (c :: r) with
  | error e => rfl
  | ok y => rfl
theorem rbool_any (b : Bool) (W : World) : Calls Tryz.prog 44 #[.bool b] W fun e w' => e = .returned (.agg #[.int .i64 2, .bool b, .string ⟨#[]⟩, .slice none 0 0, .slice none 0 0]) ∧ Below W.heap.size W w' := by
  go_enter Tryz.func44, Tryz.ntmps44
  go_wp2
  go_returns
  refine ⟨rfl, ?_⟩
  go_grown
theorem rtext_any (s : ByteArray) (W : World) : Calls Tryz.prog 49 #[.string s] W fun e w' => e = .returned (.agg #[.int .i64 4, .bool false, .string s, .slice none 0 0, .slice none 0 0]) ∧ Below W.heap.size W w' := by
  go_enter Tryz.func49, Tryz.ntmps49
  go_wp2
  go_returns
  refine ⟨rfl, ?_⟩
  go_grown
/-- How value and many end. -/
def VlE (W : World) (t : ByteArray) (c0 x0 : Nat) (r : Except Bad (VT × List UInt8 × Nat)) (e : Ending) (w' : World) : Prop := Below W.heap.size W w' ∧ match r with
  | .ok (T, R', n') => ∃ b v, e = .returned (.tuple #[stV t b n' c0 x0, v]) ∧ b ≤ t.size ∧ rest t b = R' ∧ n' ≤ 2000 ∧ Fresh W.heap.size w'.heap.size w' v T
  | .error bd => ∃ b n' k v T, e = .returned (.tuple #[stV t b n' k (t.size - bd.2), v]) ∧ b ≤ t.size ∧ n' ≤ 2000 ∧ k ≠ 0 ∧ ((k : Nat) : Int) = bd.1 ∧ Fresh W.heap.size w'.heap.size w' v T
theorem nil_is (lo B : Nat) (W : World) : Fresh lo B W nilD nullT := fresh_scal lo B W 0 false ⟨#[]⟩
theorem VlE.parts {W w' : World} {t : ByteArray} {c0 x0 : Nat} {r : Except Bad (VT × List UInt8 × Nat)} {e : Ending} (h : VlE W t c0 x0 r e w') : Below W.heap.size W w' ∧ ∃ (b n k x : Nat) (v : Value) (T : VT), e = .returned (.tuple #[stV t b n k x, v]) ∧ Fresh W.heap.size w'.heap.size w' v T ∧
    (∀ (W1 w1 : World), Below W1.heap.size W1 w1 → Fresh W1.heap.size w1.heap.size w1 v T → VlE W1 t c0 x0 r (.returned (.tuple #[stV t b n k x, v])) w1) := by
  obtain ⟨hb, hr⟩ := h
  refine ⟨hb, ?_⟩
  unfold VlE
  cases r with
  | error bd =>
    obtain ⟨b, n, k, v, T, h1, h2, h3, h4, h5, h6⟩ := hr
    exact ⟨b, n, k, t.size - bd.2, v, T, h1, h6, fun W1 w1 g1 g2 => ⟨g1, b, n, k, v, T, rfl, h2, h3, h4, h5, g2⟩⟩
  | ok y =>
    obtain ⟨T, R', n'⟩ := y
    obtain ⟨b, v, h1, h2, h3, h4, h5⟩ := hr
    exact ⟨b, n', c0, x0, v, T, h1, h5, fun W1 w1 g1 g2 => ⟨g1, b, v, rfl, h2, h3, h4, g2⟩⟩
theorem QdE.parts {W w' : World} {t : ByteArray} {n c0 x0 : Nat} {r : Except Bad (ByteArray × List UInt8)} {e : Ending} (hn : n ≤ 2000) (h : QdE W t n c0 x0 r e w') : Below W.heap.size W w' ∧ ∃ (b n' k x : Nat) (s : ByteArray), e = .returned (.tuple #[stV t b n' k x, .string s]) ∧
    (∀ (W1 w1 : World), Below W1.heap.size W1 w1 → VlE W1 t c0 x0 (txtR n r) (.returned (.tuple #[stV t b n' k x, .agg #[.int .i64 4, .bool false, .string s, .slice none 0 0, .slice none 0 0]])) w1) := by
  obtain ⟨hb, hr⟩ := h
  refine ⟨hb, ?_⟩
  unfold VlE
  cases r with
  | error bd =>
    obtain ⟨b, k, h1, h2, h3, h4⟩ := hr
    exact ⟨b, n, k, t.size - bd.2, ⟨#[]⟩, h1, fun W1 w1 g1 => ⟨g1, b, n, k, _, _, rfl, h2, hn, h3, h4, fresh_scal _ _ _ 4 false ⟨#[]⟩⟩⟩
  | ok y =>
    obtain ⟨s, R'⟩ := y
    obtain ⟨b, h1, h2, h3⟩ := hr
    exact ⟨b, n, c0, x0, s, h1, fun W1 w1 g1 => ⟨g1, b, _, rfl, h2, h3, hn, fresh_scal _ _ _ 4 false s⟩⟩
theorem DocV.boxes {W w6 : World} {t : ByteArray} {a n c x : Nat} (h : DocV W w6 t a n c x) (b0 b1 b2 b3 b4 : Value) : DocV W (w6.alloc (.cells #[b0, b1, b2, b3, b4] 56)) t a n c x ∧ Blk (w6.alloc (.cells #[b0, b1, b2, b3, b4] 56)) w6.heap.size #[b0, b1, b2, b3, b4] 56 :=
  ⟨h.below ((Below.refl _ w6).alloc (Nat.le_refl _) _), Blk.new w6 _ _⟩
theorem heap5 (w : World) {g B : Nat} (h : g ≠ B) (b0 b1 b2 b3 b4 : Value) : (((((w.setCell ⟨B, 0, none⟩ b0).setCell ⟨B, 1, none⟩ b1).setCell ⟨B, 2, none⟩ b2).setCell ⟨B, 3, none⟩ b3).setCell ⟨B, 4, none⟩ b4).heap[g]? = w.heap[g]? := by
  rw [Below.heap_setCell _ _ _ _ (by exact h), Below.heap_setCell _ _ _ _ (by exact h), Below.heap_setCell _ _ _ _ (by exact h), Below.heap_setCell _ _ _ _ (by exact h), Below.heap_setCell _ _ _ _ (by exact h)]
theorem fresh_ends {W wx w6 : World} {v : Value} {T : VT} (hx : W.heap.size + 1 + 1 < wx.heap.size) (h : Fresh wx.heap.size w6.heap.size w6 v T) (b0 b1 b2 b3 b4 v0 v1 v2 v3 v4 : Value) :
    Fresh W.heap.size ((((((((((w6.setCell ⟨W.heap.size + 1, 0, none⟩ b0).setCell ⟨W.heap.size + 1, 1, none⟩ b1).setCell ⟨W.heap.size + 1, 2, none⟩ b2).setCell ⟨W.heap.size + 1, 3, none⟩ b3).setCell ⟨W.heap.size + 1, 4, none⟩ b4).setCell ⟨W.heap.size + 1 + 1, 0, none⟩ v0).setCell ⟨W.heap.size + 1 + 1, 1, none⟩ v1).setCell ⟨W.heap.size + 1 + 1, 2, none⟩ v2).setCell ⟨W.heap.size + 1 + 1, 3, none⟩ v3).setCell ⟨W.heap.size + 1 + 1, 4, none⟩ v4).heap.size ((((((((((w6.setCell ⟨W.heap.size + 1, 0, none⟩ b0).setCell ⟨W.heap.size + 1, 1, none⟩ b1).setCell ⟨W.heap.size + 1, 2, none⟩ b2).setCell ⟨W.heap.size + 1, 3, none⟩ b3).setCell ⟨W.heap.size + 1, 4, none⟩ b4).setCell ⟨W.heap.size + 1 + 1, 0, none⟩ v0).setCell ⟨W.heap.size + 1 + 1, 1, none⟩ v1).setCell ⟨W.heap.size + 1 + 1, 2, none⟩ v2).setCell ⟨W.heap.size + 1 + 1, 3, none⟩ v3).setCell ⟨W.heap.size + 1 + 1, 4, none⟩ v4) v T :=
  h.keep (fun g hg _ => by rw [heap5 _ (by omega), heap5 _ (by omega)]) (by omega) (by simp)
theorem head_is {R : List UInt8} {q : UInt8} (h : headZ R = (q.toNat : Int)) : ∃ r, R = q :: r := by
  cases R with
  | nil =>
    have h : (-1 : Int) = (q.toNat : Int) := h
    omega
  | cons c r =>
    have h : (c.toNat : Int) = (q.toNat : Int) := h
    exact ⟨r, by rw [UInt8.toNat_inj.1 (show c.toNat = q.toNat by omega)]⟩
theorem valD_list {d n : Nat} {R R0 : List UInt8} (hn : ¬ n = 2000) (hR : skipB R0 = R) (h : headZ R = 91) : valD (d + 1) R0 n = listR (eachJ (itemJ (valD d)) 93 [] R (n + 1)) := by
  obtain ⟨r, rfl⟩ := head_is (q := 91) h
  conv => lhs; unfold valD
  rw [if_neg hn, hR]; rfl
theorem valD_obj {d n : Nat} {R R0 : List UInt8} (hn : ¬ n = 2000) (hR : skipB R0 = R) (h : headZ R = 123) : valD (d + 1) R0 n = objR (eachJ (pairJ (valD d)) 125 [] R (n + 1)) := by
  obtain ⟨r, rfl⟩ := head_is (q := 123) h
  conv => lhs; unfold valD
  rw [if_neg hn, hR]; rfl
theorem valD_text {d n : Nat} {R R0 : List UInt8} (hn : ¬ n = 2000) (hR : skipB R0 = R) (h : headZ R = 34) : valD (d + 1) R0 n = txtR (n + 1) (quotedJ R) := by
  obtain ⟨r, rfl⟩ := head_is (q := 34) h
  conv => lhs; unfold valD
  rw [if_neg hn, hR]; rfl
theorem valD_none {d n : Nat} {z : Int} {R R0 : List UInt8} (hn : ¬ n = 2000) (hR : skipB R0 = R) (hz : headZ R = z) (h34 : ¬ z = 34) (h91 : ¬ z = 91) (h123 : ¬ z = 123) (h45 : ¬ z = 45) (hd : digZ z = false) (p0 : Lib.hasPrefix R (wordOf 0) = false) (p1 : Lib.hasPrefix R (wordOf 1) = false) (p2 : Lib.hasPrefix R (wordOf 2) = false) : valD (d + 1) R0 n = .error (30, R.length) := by
  cases R with
  | nil => unfold valD; rw [if_neg hn, hR]; rfl
  | cons c r =>
    have h1 := digZ_head (c :: r)
    rw [hz, hd] at h1
    have p0 : Lib.hasPrefix (c :: r) [110, 117, 108, 108] = false := p0
    have p1 : Lib.hasPrefix (c :: r) [116, 114, 117, 101] = false := p1
    have p2 : Lib.hasPrefix (c :: r) [102, 97, 108, 115, 101] = false := p2
    rw [valD_word0 hn hR rfl (fun h => h34 (by rw [← hz, h]; rfl)) (fun h => h91 (by rw [← hz, h]; rfl)) (fun h => h123 (by rw [← hz, h]; rfl)) (fun h => h45 (by rw [← hz, h]; rfl)) h1.symm]
    unfold wordJ
    rw [if_neg (by rw [p0]; decide), if_neg (by rw [p1]; decide), if_neg (by rw [p2]; decide)]
    rfl
set_option maxRecDepth 100000 in
set_option maxHeartbeats 8000000 in
/-- Behind an error value only skips blanks. -/
theorem rvalue_bad {a n c0 x0 : Nat} {dep : Int} {t : ByteArray} (h0 : c0 ≠ 0) (ha : a ≤ t.size) (hs : t.size ≤ 65536) (W : World) : Calls Tryz.prog 25 #[stV t a n c0 x0, .int .i64 dep] W fun e w' => (∃ b, e = .returned (.tuple #[stV t b n c0 x0, nilD]) ∧ b ≤ t.size) ∧ Below W.heap.size W w' := by
  have HV := Lib.hid (DocV.start W (t := t) (n := n) (c := c0) (x := x0) ha)
  have HBl := Lib.hid (fun wx => rblanks_any (n := n) (c := c0) (x := x0) ha hs wx)
  have k0 := HV.out.1.1.cell 0
  have k1 := HV.out.1.1.cell 1
  have k2 := HV.out.1.1.cell 2
  have k3 := HV.out.1.1.cell 3
  have k4 := HV.out.1.1.cell 4
  go_enter Tryz.func25, Tryz.ntmps25
  go_wp2_with fail
  go_at_call 26; refine (HBl.out _).mono ?_; rintro e w1 ⟨b, rfl, hsk, hbt, hb1⟩
  have HV1 := Lib.hid (HV.out.below hb1)
  have HSK := Lib.hid hsk
  clear hb1 HV k0 k1 k2 k3 k4 HBl hsk
  have k0 := HV1.out.1.1.cell 0
  have k1 := HV1.out.1.1.cell 1
  have k2 := HV1.out.1.1.cell 2
  have k3 := HV1.out.1.1.cell 3
  have k4 := HV1.out.1.1.cell 4
  have f0 := HV1.out.1.1.frozen 0
  have f1 := HV1.out.1.1.frozen 1
  have f2 := HV1.out.1.1.frozen 2
  have f3 := HV1.out.1.1.frozen 3
  have f4 := HV1.out.1.1.frozen 4
  have hVp := HV1.out.puts (b := b) (n' := n) (c' := c0) (x' := x0) hbt
  go_upto_region 2 with fail
  obtain ⟨w2, hw2⟩ : ∃ w2, ((((w1.setCell ⟨W.heap.size, 0, none⟩ (.string t)).setCell ⟨W.heap.size, 1, none⟩ (.int .i64 (b : Int))).setCell ⟨W.heap.size, 2, none⟩ (.int .i64 (n : Int))).setCell ⟨W.heap.size, 3, none⟩ (.int .i64 (c0 : Int))).setCell ⟨W.heap.size, 4, none⟩ (.int .i64 (x0 : Int)) = w2 := ⟨_, rfl⟩
  rw [hw2] at hVp ⊢
  have HV2 := Lib.hid hVp
  clear hVp hw2 HV1 k0 k1 k2 k3 k4 f0 f1 f2 f3 f4
  have q0 : ¬ (c0 : Int) = 0 := by omega
  have e0 : ((c0 : Int) != 0) = true := by simp; omega
  have k0 := HV2.out.1.1.cell 0
  have k1 := HV2.out.1.1.cell 1
  have k2 := HV2.out.1.1.cell 2
  have k3 := HV2.out.1.1.cell 3
  have k4 := HV2.out.1.1.cell 4
  have q0 := HV2.out.1.2.1.cell 0
  have q1 := HV2.out.1.2.1.cell 1
  have q2 := HV2.out.1.2.1.cell 2
  have q3 := HV2.out.1.2.1.cell 3
  have q4 := HV2.out.1.2.1.cell 4
  have g0 := HV2.out.1.2.1.frozen 0
  have g1 := HV2.out.1.2.1.frozen 1
  have g2 := HV2.out.1.2.1.frozen 2
  have g3 := HV2.out.1.2.1.frozen 3
  have g4 := HV2.out.1.2.1.frozen 4
  have p0 := HV2.out.2.cell 0
  have p1 := HV2.out.2.cell 1
  have p2 := HV2.out.2.cell 2
  have p3 := HV2.out.2.cell 3
  have p4 := HV2.out.2.cell 4
  have h0 := HV2.out.2.frozen 0
  have h1 := HV2.out.2.frozen 1
  have h2 := HV2.out.2.frozen 2
  have h3 := HV2.out.2.frozen 3
  have h4 := HV2.out.2.frozen 4
  go_wp2_with fail
  have hqe := (HV2.out).ends (.string t) (.int .i64 (b : Int)) (.int .i64 (n : Int)) (.int .i64 (c0 : Int)) (.int .i64 (x0 : Int)) (.int .i64 0) (.bool false) (.string ⟨#[]⟩) (.slice none 0 0) (.slice none 0 0)
  have r0 := hqe.1.cell 0
  have r1 := hqe.1.cell 1
  have r2 := hqe.1.cell 2
  have r3 := hqe.1.cell 3
  have r4 := hqe.1.cell 4
  have s0 := hqe.2.1.cell 0
  have s1 := hqe.2.1.cell 1
  have s2 := hqe.2.1.cell 2
  have s3 := hqe.2.1.cell 3
  have s4 := hqe.2.1.cell 4
  have HEND := Lib.hid hqe.2.2
  clear hqe
  refine bodyPost_ret (by simp [results, Tryz.results25, go_sem, r0, r1, r2, r3, r4, s0, s1, s2, s3, s4]; try rfl) rfl ?_
  exact ⟨⟨b, rfl, hbt⟩, HEND.out⟩
end Go.Proofs.YtnmfoedfllmclaaGreatDoor
namespace Go.Proofs.YtnmfoedfllmclaaGreatDoor
open Go.RowKit Go.Shelf
set_option linter.unusedVariables false

set_option maxRecDepth 100000 in
set_option maxHeartbeats 16000000 in
theorem rvalue_deep {a n c0 x0 d : Nat} {dep : Int} {t : ByteArray} (h0 : c0 = 0) (ha : a ≤ t.size) (hs : t.size ≤ 65536) (hn : n ≤ 2000) (hd : dep = 25 - (d : Int)) (hd24 : d ≤ 24) (W : World) (hz : d = 0) :
    Calls Tryz.prog 25 #[stV t a n c0 x0, .int .i64 dep] W (VlE W t c0 x0 (valD d (rest t a) n)) := by
  have H0 := Lib.hid h0
  have e0 : ((c0 : Int) != 0) = false := by simp; omega
  have HDP := Lib.hid hd
  clear h0 hd
  have HZ := Lib.hid hz
  clear hz
  have HV := Lib.hid (DocV.start W (t := t) (n := n) (c := c0) (x := x0) ha)
  have HBl := Lib.hid (fun wx => rblanks_any (n := n) (c := c0) (x := x0) ha hs wx)
  have k0 := HV.out.1.1.cell 0
  have k1 := HV.out.1.1.cell 1
  have k2 := HV.out.1.1.cell 2
  have k3 := HV.out.1.1.cell 3
  have k4 := HV.out.1.1.cell 4
  go_enter Tryz.func25, Tryz.ntmps25
  go_wp2_with fail
  go_at_call 26; refine (HBl.out _).mono ?_; rintro e w1 ⟨b, rfl, hsk, hbt, hb1⟩
  have HV1 := Lib.hid (HV.out.below hb1)
  have HSK := Lib.hid hsk
  clear hb1 HV k0 k1 k2 k3 k4 HBl hsk
  have k0 := HV1.out.1.1.cell 0
  have k1 := HV1.out.1.1.cell 1
  have k2 := HV1.out.1.1.cell 2
  have k3 := HV1.out.1.1.cell 3
  have k4 := HV1.out.1.1.cell 4
  have f0 := HV1.out.1.1.frozen 0
  have f1 := HV1.out.1.1.frozen 1
  have f2 := HV1.out.1.1.frozen 2
  have f3 := HV1.out.1.1.frozen 3
  have f4 := HV1.out.1.1.frozen 4
  have hVp := HV1.out.puts (b := b) (n' := n) (c' := c0) (x' := x0) hbt
  go_upto_region 2 with fail
  obtain ⟨w2, hw2⟩ : ∃ w2, ((((w1.setCell ⟨W.heap.size, 0, none⟩ (.string t)).setCell ⟨W.heap.size, 1, none⟩ (.int .i64 (b : Int))).setCell ⟨W.heap.size, 2, none⟩ (.int .i64 (n : Int))).setCell ⟨W.heap.size, 3, none⟩ (.int .i64 (c0 : Int))).setCell ⟨W.heap.size, 4, none⟩ (.int .i64 (x0 : Int)) = w2 := ⟨_, rfl⟩
  rw [hw2] at hVp ⊢
  have HV2 := Lib.hid hVp
  clear hVp hw2 HV1 k0 k1 k2 k3 k4 f0 f1 f2 f3 f4
  obtain ⟨R, hR⟩ : ∃ R, rest t b = R := ⟨_, rfl⟩
  have HRR : Hid (skipB (rest t a) = R) := Lib.hid (by rw [← hR]; exact HSK.out.symm)
  have HRb := Lib.hid hR
  have HRL : Hid (R.length = t.size - b) := Lib.hid (by rw [← hR, rest_length])
  clear hR
  have HQ : Hid (valD d (rest t a) n = .error (7, t.size - b)) := Lib.hid (by rw [HZ.out]; unfold valD; rw [HRR.out, HRL.out])
  have q1 : (24 : Int) < dep := by have := HDP.out; have := HZ.out; omega
  have k0 := HV2.out.1.1.cell 0
  have k1 := HV2.out.1.1.cell 1
  have k2 := HV2.out.1.1.cell 2
  have k3 := HV2.out.1.1.cell 3
  have k4 := HV2.out.1.1.cell 4
  have HF := Lib.hid (fail_to (t := t) (a := b) (n := n) (x := x0) H0.out 7 b w2)
  have k0 := HV2.out.1.1.cell 0
  have k1 := HV2.out.1.1.cell 1
  have k2 := HV2.out.1.1.cell 2
  have k3 := HV2.out.1.1.cell 3
  have k4 := HV2.out.1.1.cell 4
  go_wp2_with (go_at_call 27; refine HF.out.mono ?_; rintro e wf ⟨rfl, hbf⟩; refine Hid.out ?_)
  refine Lib.hid ?_
  have HVf := Lib.hid (HV2.out.below hbf)
  clear hbf k0 k1 k2 k3 k4
  have q0 := HVf.out.1.2.1.cell 0
  have q1 := HVf.out.1.2.1.cell 1
  have q2 := HVf.out.1.2.1.cell 2
  have q3 := HVf.out.1.2.1.cell 3
  have q4 := HVf.out.1.2.1.cell 4
  have g0 := HVf.out.1.2.1.frozen 0
  have g1 := HVf.out.1.2.1.frozen 1
  have g2 := HVf.out.1.2.1.frozen 2
  have g3 := HVf.out.1.2.1.frozen 3
  have g4 := HVf.out.1.2.1.frozen 4
  have p0 := HVf.out.2.cell 0
  have p1 := HVf.out.2.cell 1
  have p2 := HVf.out.2.cell 2
  have p3 := HVf.out.2.cell 3
  have p4 := HVf.out.2.cell 4
  have h0 := HVf.out.2.frozen 0
  have h1 := HVf.out.2.frozen 1
  have h2 := HVf.out.2.frozen 2
  have h3 := HVf.out.2.frozen 3
  have h4 := HVf.out.2.frozen 4
  go_wp2_with fail
  have hqe := (HVf.out).ends (.string t) (.int .i64 (b : Int)) (.int .i64 (n : Int)) (.int .i64 7) (.int .i64 (b : Int)) (.int .i64 0) (.bool false) (.string ⟨#[]⟩) (.slice none 0 0) (.slice none 0 0)
  have r0 := hqe.1.cell 0
  have r1 := hqe.1.cell 1
  have r2 := hqe.1.cell 2
  have r3 := hqe.1.cell 3
  have r4 := hqe.1.cell 4
  have s0 := hqe.2.1.cell 0
  have s1 := hqe.2.1.cell 1
  have s2 := hqe.2.1.cell 2
  have s3 := hqe.2.1.cell 3
  have s4 := hqe.2.1.cell 4
  have HEND := Lib.hid hqe.2.2
  clear hqe
  refine bodyPost_ret (by simp [results, Tryz.results25, go_sem, r0, r1, r2, r3, r4, s0, s1, s2, s3, s4]; try rfl) rfl ?_
  rw [HQ.out]
  exact ⟨HEND.out, b, n, 7, _, _, by rw [show t.size - (t.size - b) = b by omega] <;> rfl, hbt, hn, by decide, rfl, nil_is _ _ _⟩
set_option maxRecDepth 100000 in
set_option maxHeartbeats 16000000 in
theorem rvalue_long {a n c0 x0 d : Nat} {dep : Int} {t : ByteArray} (h0 : c0 = 0) (ha : a ≤ t.size) (hs : t.size ≤ 65536) (hn : n ≤ 2000) (hd : dep = 25 - (d : Int)) (hd24 : d ≤ 24) (W : World) (hpos : 0 < d) (h2000 : n = 2000) :
    Calls Tryz.prog 25 #[stV t a n c0 x0, .int .i64 dep] W (VlE W t c0 x0 (valD d (rest t a) n)) := by
  have H0 := Lib.hid h0
  have e0 : ((c0 : Int) != 0) = false := by simp; omega
  have HDP := Lib.hid hd
  clear h0 hd
  have HPOS := Lib.hid hpos
  have H2 := Lib.hid h2000
  clear hpos h2000
  have HV := Lib.hid (DocV.start W (t := t) (n := n) (c := c0) (x := x0) ha)
  have HBl := Lib.hid (fun wx => rblanks_any (n := n) (c := c0) (x := x0) ha hs wx)
  have k0 := HV.out.1.1.cell 0
  have k1 := HV.out.1.1.cell 1
  have k2 := HV.out.1.1.cell 2
  have k3 := HV.out.1.1.cell 3
  have k4 := HV.out.1.1.cell 4
  go_enter Tryz.func25, Tryz.ntmps25
  go_wp2_with fail
  go_at_call 26; refine (HBl.out _).mono ?_; rintro e w1 ⟨b, rfl, hsk, hbt, hb1⟩
  have HV1 := Lib.hid (HV.out.below hb1)
  have HSK := Lib.hid hsk
  clear hb1 HV k0 k1 k2 k3 k4 HBl hsk
  have k0 := HV1.out.1.1.cell 0
  have k1 := HV1.out.1.1.cell 1
  have k2 := HV1.out.1.1.cell 2
  have k3 := HV1.out.1.1.cell 3
  have k4 := HV1.out.1.1.cell 4
  have f0 := HV1.out.1.1.frozen 0
  have f1 := HV1.out.1.1.frozen 1
  have f2 := HV1.out.1.1.frozen 2
  have f3 := HV1.out.1.1.frozen 3
  have f4 := HV1.out.1.1.frozen 4
  have hVp := HV1.out.puts (b := b) (n' := n) (c' := c0) (x' := x0) hbt
  go_upto_region 2 with fail
  obtain ⟨w2, hw2⟩ : ∃ w2, ((((w1.setCell ⟨W.heap.size, 0, none⟩ (.string t)).setCell ⟨W.heap.size, 1, none⟩ (.int .i64 (b : Int))).setCell ⟨W.heap.size, 2, none⟩ (.int .i64 (n : Int))).setCell ⟨W.heap.size, 3, none⟩ (.int .i64 (c0 : Int))).setCell ⟨W.heap.size, 4, none⟩ (.int .i64 (x0 : Int)) = w2 := ⟨_, rfl⟩
  rw [hw2] at hVp ⊢
  have HV2 := Lib.hid hVp
  clear hVp hw2 HV1 k0 k1 k2 k3 k4 f0 f1 f2 f3 f4
  obtain ⟨R, hR⟩ : ∃ R, rest t b = R := ⟨_, rfl⟩
  have HRR : Hid (skipB (rest t a) = R) := Lib.hid (by rw [← hR]; exact HSK.out.symm)
  have HRb := Lib.hid hR
  have HRL : Hid (R.length = t.size - b) := Lib.hid (by rw [← hR, rest_length])
  clear hR
  have q1 : ¬ (24 : Int) < dep := by have := HDP.out; have := HPOS.out; omega
  have HQ : Hid (valD d (rest t a) n = .error (3, t.size - b)) := Lib.hid (by
    obtain ⟨e, rfl⟩ : ∃ e, d = e + 1 := ⟨d - 1, by have := HPOS.out; omega⟩
    unfold valD
    rw [if_pos H2.out, HRR.out, HRL.out])
  have q2 : (2000 : Int) ≤ (n : Int) := by have := H2.out; omega
  have k0 := HV2.out.1.1.cell 0
  have k1 := HV2.out.1.1.cell 1
  have k2 := HV2.out.1.1.cell 2
  have k3 := HV2.out.1.1.cell 3
  have k4 := HV2.out.1.1.cell 4
  have HF := Lib.hid (fail_to (t := t) (a := b) (n := n) (x := x0) H0.out 3 b w2)
  have k0 := HV2.out.1.1.cell 0
  have k1 := HV2.out.1.1.cell 1
  have k2 := HV2.out.1.1.cell 2
  have k3 := HV2.out.1.1.cell 3
  have k4 := HV2.out.1.1.cell 4
  go_wp2_with (go_at_call 27; refine HF.out.mono ?_; rintro e wf ⟨rfl, hbf⟩; refine Hid.out ?_)
  refine Lib.hid ?_
  have HVf := Lib.hid (HV2.out.below hbf)
  clear hbf k0 k1 k2 k3 k4
  have q0 := HVf.out.1.2.1.cell 0
  have q1 := HVf.out.1.2.1.cell 1
  have q2 := HVf.out.1.2.1.cell 2
  have q3 := HVf.out.1.2.1.cell 3
  have q4 := HVf.out.1.2.1.cell 4
  have g0 := HVf.out.1.2.1.frozen 0
  have g1 := HVf.out.1.2.1.frozen 1
  have g2 := HVf.out.1.2.1.frozen 2
  have g3 := HVf.out.1.2.1.frozen 3
  have g4 := HVf.out.1.2.1.frozen 4
  have p0 := HVf.out.2.cell 0
  have p1 := HVf.out.2.cell 1
  have p2 := HVf.out.2.cell 2
  have p3 := HVf.out.2.cell 3
  have p4 := HVf.out.2.cell 4
  have h0 := HVf.out.2.frozen 0
  have h1 := HVf.out.2.frozen 1
  have h2 := HVf.out.2.frozen 2
  have h3 := HVf.out.2.frozen 3
  have h4 := HVf.out.2.frozen 4
  go_wp2_with fail
  have hqe := (HVf.out).ends (.string t) (.int .i64 (b : Int)) (.int .i64 (n : Int)) (.int .i64 3) (.int .i64 (b : Int)) (.int .i64 0) (.bool false) (.string ⟨#[]⟩) (.slice none 0 0) (.slice none 0 0)
  have r0 := hqe.1.cell 0
  have r1 := hqe.1.cell 1
  have r2 := hqe.1.cell 2
  have r3 := hqe.1.cell 3
  have r4 := hqe.1.cell 4
  have s0 := hqe.2.1.cell 0
  have s1 := hqe.2.1.cell 1
  have s2 := hqe.2.1.cell 2
  have s3 := hqe.2.1.cell 3
  have s4 := hqe.2.1.cell 4
  have HEND := Lib.hid hqe.2.2
  clear hqe
  refine bodyPost_ret (by simp [results, Tryz.results25, go_sem, r0, r1, r2, r3, r4, s0, s1, s2, s3, s4]; try rfl) rfl ?_
  rw [HQ.out]
  exact ⟨HEND.out, b, n, 3, _, _, by rw [show t.size - (t.size - b) = b by omega] <;> rfl, hbt, hn, by decide, rfl, nil_is _ _ _⟩
end Go.Proofs.YtnmfoedfllmclaaGreatDoor
