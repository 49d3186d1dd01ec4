/- The document's own reader: a state by value; the byte that comes next, its digit, what stands at a place · The document's own reader: a word at a place · The document's own reader: four hexadecimal digits behind a backslash and a u · The document's own reader: how many bytes the UTF-8 at a place has -/
import Derived.Handy
import Derived.Test.YtcbcjeabpjjhbaaGreatDoorJb15
import Derived.Test.YtcbcjeabpjjhbaaGreatDoorJb23
namespace Go.Proofs.YtcbcjeabpjjhbaaGreatDoor
open Go.RowKit
set_option linter.unusedVariables false

/-- A state: text, place, how many values, error, where. -/
abbrev stV (t : ByteArray) (a n c x : Nat) : Value := .agg #[.string t, .int .i64 (a : Int), .int .i64 (n : Int), .int .i64 (c : Int), .int .i64 (x : Int)]
/-- The byte that comes next; -1 behind the end. -/
def headZ : List UInt8 → Int
  | c :: _ => (c.toNat : Int)
  | [] => -1
theorem headZ_bound (R : List UInt8) : -1 ≤ headZ R ∧ headZ R < 256 := by
  cases R with
  | nil => exact ⟨by decide, by decide⟩
  | cons c r =>
    have := UInt8.toNat_lt c
    refine ⟨?_, ?_⟩
    · show -1 ≤ (c.toNat : Int)
      omega
    · show (c.toNat : Int) < 256
      omega
set_option maxRecDepth 100000 in
set_option maxHeartbeats 1000000 in
theorem rc_any {a n c x : Nat} {t : ByteArray} (ha : a ≤ t.size) (hs : t.size ≤ 65536) (W : World) : Calls Tryz.prog 45 #[stV t a n c x] W fun e w' => e = .returned (.int .i64 (headZ (rest t a))) ∧ Below W.heap.size W w' := by
  have i0 : (0 : Int) ≤ (a : Int) := by omega
  by_cases hlt : a < t.size
  · have hix := byte_run hlt
    obtain ⟨q, hq⟩ : ∃ q, t[a]'hlt = q := ⟨_, rfl⟩
    rw [hq] at hix
    have HN : Hid (headZ (rest t a) = (q.toNat : Int)) := Lib.hid (by rw [rest_cons hlt, hq]; rfl)
    have hqb := UInt8.toNat_lt q
    have i1 : ¬ (a : Int) ≥ (t.size : Int) := by omega
    clear hq
    go_enter Tryz.func45, Tryz.ntmps45
    go_wp2
    go_ret
    rw [HN.out]
    exact ⟨rfl, (Below.refl _ W).alloc (Nat.le_refl _) _⟩
  · have HN : Hid (headZ (rest t a) = -1) := Lib.hid (by rw [rest_nil (by omega)]; rfl)
    have i1 : (a : Int) ≥ (t.size : Int) := by omega
    go_enter Tryz.func45, Tryz.ntmps45
    go_wp2
    go_ret
    rw [HN.out]
    exact ⟨rfl, (Below.refl _ W).alloc (Nat.le_refl _) _⟩
set_option maxRecDepth 100000 in
set_option maxHeartbeats 1000000 in
theorem rone_any {a : Nat} {t : ByteArray} (hs : t.size ≤ 65536) (W : World) : Calls Tryz.prog 73 #[.string t, .int .i64 (a : Int)] W fun e w' => e = .returned (.int .i64 (headZ (rest t a))) ∧ W = w' := by
  have i0 : (0 : Int) ≤ (a : Int) := by omega
  by_cases hlt : a < t.size
  · have hix := byte_run hlt
    obtain ⟨q, hq⟩ : ∃ q, t[a]'hlt = q := ⟨_, rfl⟩
    rw [hq] at hix
    have HN : Hid (headZ (rest t a) = (q.toNat : Int)) := Lib.hid (by rw [rest_cons hlt, hq]; rfl)
    have hqb := UInt8.toNat_lt q
    have i1 : ¬ (a : Int) ≥ (t.size : Int) := by omega
    clear hq
    go_enter Tryz.func73, Tryz.ntmps73
    go_wp2
    go_ret
    rw [HN.out]
    exact ⟨rfl, rfl⟩
  · have HN : Hid (headZ (rest t a) = -1) := Lib.hid (by rw [rest_nil (by omega)]; rfl)
    have i1 : (a : Int) ≥ (t.size : Int) := by omega
    go_enter Tryz.func73, Tryz.ntmps73
    go_wp2
    go_ret
    rw [HN.out]
    exact ⟨rfl, rfl⟩
def digZ (z : Int) : Bool := decide (48 ≤ z) && decide (z ≤ 57)
theorem digZ_head (R : List UInt8) : digZ (headZ R) = R.head?.any digJ := by
  cases R with
  | nil => rfl
  | cons c r =>
    show digZ (c.toNat : Int) = digJ c
    rw [digJ_nat]
    unfold digZ digN
    rw [Bool.eq_iff_iff]
    simp
    omega
set_option maxRecDepth 100000 in
set_option maxHeartbeats 1000000 in
theorem rdigit_b {z : Int} (h1 : -1 ≤ z) (h2 : z < 256) {b : Bool} (hb : digZ z = b) (w : World) : Calls Tryz.prog 46 #[.int .i64 z] w fun e w' => e = .returned (.bool b) ∧ w = w' := by
  unfold digZ at hb
  by_cases i1 : 48 ≤ z
  · by_cases i2 : z ≤ 57
    · obtain rfl : b = true := by rw [← hb]; simp [i1, i2]
      clear hb
      go_enter Tryz.func46, Tryz.ntmps46
      go_wp2
      go_ret
      exact ⟨rfl, rfl⟩
    · obtain rfl : b = false := by rw [← hb]; simp [i2]
      clear hb
      go_enter Tryz.func46, Tryz.ntmps46
      go_wp2
      go_ret
      exact ⟨rfl, rfl⟩
  · obtain rfl : b = false := by rw [← hb]; simp [i1]
    clear hb
    go_enter Tryz.func46, Tryz.ntmps46
    go_wp2
    go_ret
    exact ⟨rfl, rfl⟩
/-- An error is laid down, if there is none yet. -/
def failS (t : ByteArray) (a n c x k y : Nat) : Value := if c = 0 then stV t a n k y else stV t a n c x
set_option maxRecDepth 100000 in
set_option maxHeartbeats 1000000 in
theorem rfail_any {a n c x k y : Nat} {t : ByteArray} (W : World) : Calls Tryz.prog 27 #[stV t a n c x, .int .i64 (k : Int), .int .i64 (y : Int)] W fun e w' => e = .returned (failS t a n c x k y) ∧ Below W.heap.size W w' := by
  by_cases h0 : c = 0
  · subst h0
    have HF : Hid (failS t a n 0 x k y = stV t a n k y) := Lib.hid (if_pos rfl)
    go_enter Tryz.func27, Tryz.ntmps27
    go_wp2
    go_returns
    rw [HF.out]
    refine ⟨rfl, ?_⟩
    go_grown
  · have HF : Hid (failS t a n c x k y = stV t a n c x) := Lib.hid (if_neg h0)
    have i0 : ¬ (c : Int) = 0 := by omega
    go_enter Tryz.func27, Tryz.ntmps27
    go_wp2
    go_returns
    rw [HF.out]
    refine ⟨rfl, ?_⟩
    go_grown
/-- The state's block and the result's, of a function that began in W. -/
def DocJ (W wx : World) (t : ByteArray) (a n c x : Nat) : Prop := Blk wx W.heap.size #[.string t, .int .i64 (a : Int), .int .i64 (n : Int), .int .i64 (c : Int), .int .i64 (x : Int)] 56 ∧ Blk wx (W.heap.size + 1) #[.string ⟨#[]⟩, .int .i64 0, .int .i64 0, .int .i64 0, .int .i64 0] 56 ∧ Below W.heap.size W wx ∧ a ≤ t.size
theorem DocJ.below {W wx w' : World} {t : ByteArray} {a n c x : Nat} (h : DocJ W wx t a n c x) (hb : Below wx.heap.size wx w') : DocJ W w' t a n c x :=
  ⟨h.1.below hb, h.2.1.below hb, h.2.2.1.trans (hb.mono h.2.2.1.size), h.2.2.2⟩
theorem DocJ.moves {W wx : World} {t : ByteArray} {a n c x : Nat} (h : DocJ W wx t a n c x) {b : Nat} (hb : b ≤ t.size) : DocJ W (wx.setCell ⟨W.heap.size, 1, none⟩ (.int .i64 (b : Int))) t b n c x :=
  ⟨by have := h.1.set 1 (.int .i64 (b : Int)); simpa using this, h.2.1.other (by simp) _, h.2.2.1.setCell (Nat.le_refl _) _, hb⟩
def blankZ (z : Int) : Bool := decide (z = 32) || decide (z = 9) || decide (z = 10) || decide (z = 13)
theorem blankZ_yes {t : ByteArray} {a : Nat} (h : blankZ (headZ (rest t a)) = true) : a < t.size ∧ skipB (rest t (a + 1)) = skipB (rest t a) := by
  rcases Nat.lt_or_ge a t.size with hlt | hge
  · refine ⟨hlt, ?_⟩
    rw [rest_cons hlt] at h ⊢
    generalize t[a]'hlt = q at *
    have hq : blankB q = true := by
      unfold blankZ headZ at h
      unfold blankB
      simp [← UInt8.toNat_inj] at h ⊢
      omega
    unfold skipB
    rw [List.dropWhile_cons_of_pos hq]
  · rw [rest_nil hge] at h
    exact absurd h (by decide)
theorem blankZ_no {R : List UInt8} (h : blankZ (headZ R) = false) : skipB R = R := by
  cases R with
  | nil => rfl
  | cons q r =>
    have hq : ¬ blankB q = true := by
      unfold blankZ headZ at h
      unfold blankB
      simp [← UInt8.toNat_inj] at h ⊢
      omega
    unfold skipB
    rw [List.dropWhile_cons_of_neg hq]
set_option maxRecDepth 100000 in
set_option maxHeartbeats 4000000 in
theorem rblanks_any {a n c x : Nat} {t : ByteArray} (ha : a ≤ t.size) (hs : t.size ≤ 65536) (W : World) : Calls Tryz.prog 26 #[stV t a n c x] W fun e w' => ∃ b, e = .returned (stV t b n c x) ∧ rest t b = skipB (rest t a) ∧ b ≤ t.size ∧ Below W.heap.size W w' := by
  go_enter Tryz.func26, Tryz.ntmps26
  go_wp2_with fail
  go_loopg [] t.size (fun gf wx => ∃ d : Nat, Hid (DocJ W wx t d n c x) ∧ Hid (skipB (rest t d) = skipB (rest t a)) ∧ t.size - d ≤ gf)
  case atStart =>
    refine ⟨a, Lib.hid ⟨?_, ?_, by go_grown, ha⟩, Lib.hid rfl, by omega⟩
    · exact (Blk.new _ _ _).alloc _
    · have := Blk.new (W.alloc (.cells #[.string t, .int .i64 (a : Int), .int .i64 (n : Int), .int .i64 (c : Int), .int .i64 (x : Int)] 56)) #[.string ⟨#[]⟩, .int .i64 0, .int .i64 0, .int .i64 0, .int .i64 0] 56
      rw [World.size_alloc] at this
      exact this
  case round =>
    obtain ⟨d, HD0, HE, hc⟩ := hrel
    obtain ⟨z, hz⟩ : ∃ z, headZ (rest t d) = z := ⟨_, rfl⟩
    obtain ⟨k1, k2⟩ := hz ▸ headZ_bound (rest t d)
    have HC0 := Lib.hid (hz ▸ rc_any (a := d) (n := n) (c := c) (x := x) HD0.out.2.2.2 hs wr)
    have c00 := HD0.out.1.cell 0
    have c01 := HD0.out.1.cell 1
    have c02 := HD0.out.1.cell 2
    have c03 := HD0.out.1.cell 3
    have c04 := HD0.out.1.cell 4
    go_wp2_with fail
    go_at_call 45; refine HC0.out.mono ?_; rintro e w1 ⟨rfl, hb1⟩
    have HD1 := Lib.hid (HD0.out.below hb1)
    clear hb1 c00 c01 c02 c03 c04
    by_cases h32 : z = 32
    · subst h32
      have HB := Lib.hid (blankZ_yes (t := t) (a := d) (by rw [hz]; decide))
      have hlt := HB.out.1
      have c90 := HD1.out.1.cell 0
      have c91 := HD1.out.1.cell 1
      have c92 := HD1.out.1.cell 2
      have c93 := HD1.out.1.cell 3
      have c94 := HD1.out.1.cell 4
      have f1 := HD1.out.1.frozen 1
      have i0 : (0 : Int) ≤ (d : Int) := by omega
      obtain ⟨g', rfl⟩ : ∃ g', gk = g' + 1 := ⟨gk - 1, by omega⟩
      go_wp2
      go_roundg g'
      case measure => omega
      case rel => exact ⟨d + 1, Lib.hid (HD1.out.moves (b := d + 1) (by omega)), Lib.hid (by rw [HB.out.2, HE.out]), by omega⟩
    · skip
      have HC1 := Lib.hid (hz ▸ rc_any (a := d) (n := n) (c := c) (x := x) HD1.out.2.2.2 hs w1)
      have c10 := HD1.out.1.cell 0
      have c11 := HD1.out.1.cell 1
      have c12 := HD1.out.1.cell 2
      have c13 := HD1.out.1.cell 3
      have c14 := HD1.out.1.cell 4
      go_wp2_with fail
      go_at_call 45; refine HC1.out.mono ?_; rintro e w2 ⟨rfl, hb2⟩
      have HD2 := Lib.hid (HD1.out.below hb2)
      clear hb2 c10 c11 c12 c13 c14
      by_cases h9 : z = 9
      · subst h9
        have HB := Lib.hid (blankZ_yes (t := t) (a := d) (by rw [hz]; decide))
        have hlt := HB.out.1
        have c90 := HD2.out.1.cell 0
        have c91 := HD2.out.1.cell 1
        have c92 := HD2.out.1.cell 2
        have c93 := HD2.out.1.cell 3
        have c94 := HD2.out.1.cell 4
        have f1 := HD2.out.1.frozen 1
        have i0 : (0 : Int) ≤ (d : Int) := by omega
        obtain ⟨g', rfl⟩ : ∃ g', gk = g' + 1 := ⟨gk - 1, by omega⟩
        go_wp2
        go_roundg g'
        case measure => omega
        case rel => exact ⟨d + 1, Lib.hid (HD2.out.moves (b := d + 1) (by omega)), Lib.hid (by rw [HB.out.2, HE.out]), by omega⟩
      · skip
        have HC2 := Lib.hid (hz ▸ rc_any (a := d) (n := n) (c := c) (x := x) HD2.out.2.2.2 hs w2)
        have c20 := HD2.out.1.cell 0
        have c21 := HD2.out.1.cell 1
        have c22 := HD2.out.1.cell 2
        have c23 := HD2.out.1.cell 3
        have c24 := HD2.out.1.cell 4
        go_wp2_with fail
        go_at_call 45; refine HC2.out.mono ?_; rintro e w3 ⟨rfl, hb3⟩
        have HD3 := Lib.hid (HD2.out.below hb3)
        clear hb3 c20 c21 c22 c23 c24
        by_cases h10 : z = 10
        · subst h10
          have HB := Lib.hid (blankZ_yes (t := t) (a := d) (by rw [hz]; decide))
          have hlt := HB.out.1
          have c90 := HD3.out.1.cell 0
          have c91 := HD3.out.1.cell 1
          have c92 := HD3.out.1.cell 2
          have c93 := HD3.out.1.cell 3
          have c94 := HD3.out.1.cell 4
          have f1 := HD3.out.1.frozen 1
          have i0 : (0 : Int) ≤ (d : Int) := by omega
          obtain ⟨g', rfl⟩ : ∃ g', gk = g' + 1 := ⟨gk - 1, by omega⟩
          go_wp2
          go_roundg g'
          case measure => omega
          case rel => exact ⟨d + 1, Lib.hid (HD3.out.moves (b := d + 1) (by omega)), Lib.hid (by rw [HB.out.2, HE.out]), by omega⟩
        · skip
          have HC3 := Lib.hid (hz ▸ rc_any (a := d) (n := n) (c := c) (x := x) HD3.out.2.2.2 hs w3)
          have c30 := HD3.out.1.cell 0
          have c31 := HD3.out.1.cell 1
          have c32 := HD3.out.1.cell 2
          have c33 := HD3.out.1.cell 3
          have c34 := HD3.out.1.cell 4
          go_wp2_with fail
          go_at_call 45; refine HC3.out.mono ?_; rintro e w4 ⟨rfl, hb4⟩
          have HD4 := Lib.hid (HD3.out.below hb4)
          clear hb4 c30 c31 c32 c33 c34
          by_cases h13 : z = 13
          · subst h13
            have HB := Lib.hid (blankZ_yes (t := t) (a := d) (by rw [hz]; decide))
            have hlt := HB.out.1
            have c90 := HD4.out.1.cell 0
            have c91 := HD4.out.1.cell 1
            have c92 := HD4.out.1.cell 2
            have c93 := HD4.out.1.cell 3
            have c94 := HD4.out.1.cell 4
            have f1 := HD4.out.1.frozen 1
            have i0 : (0 : Int) ≤ (d : Int) := by omega
            obtain ⟨g', rfl⟩ : ∃ g', gk = g' + 1 := ⟨gk - 1, by omega⟩
            go_wp2
            go_roundg g'
            case measure => omega
            case rel => exact ⟨d + 1, Lib.hid (HD4.out.moves (b := d + 1) (by omega)), Lib.hid (by rw [HB.out.2, HE.out]), by omega⟩
          · skip
            have HB : Hid (skipB (rest t d) = rest t d) := Lib.hid (blankZ_no (by rw [hz]; simp [blankZ, h32, h9, h10, h13]))
            have c90 := HD4.out.1.cell 0
            have c91 := HD4.out.1.cell 1
            have c92 := HD4.out.1.cell 2
            have c93 := HD4.out.1.cell 3
            have c94 := HD4.out.1.cell 4
            have q0 := HD4.out.2.1.cell 0
            have q1 := HD4.out.2.1.cell 1
            have q2 := HD4.out.2.1.cell 2
            have q3 := HD4.out.2.1.cell 3
            have q4 := HD4.out.2.1.cell 4
            have g0 := HD4.out.2.1.frozen 0
            have g1 := HD4.out.2.1.frozen 1
            have g2 := HD4.out.2.1.frozen 2
            have g3 := HD4.out.2.1.frozen 3
            have g4 := HD4.out.2.1.frozen 4
            have f1 := HD4.out.1.frozen 1
            have e32 : (z == 32) = false := by simp [h32]
            have e9 : (z == 9) = false := by simp [h9]
            have e10 : (z == 10) = false := by simp [h10]
            have e13 : (z == 13) = false := by simp [h13]
            go_wp2
            have hq5 := HD4.out.2.1.set5 (.string t) (.int .i64 (d : Int)) (.int .i64 (n : Int)) (.int .i64 (c : Int)) (.int .i64 (x : Int))
            have r0 := hq5.cell 0
            have r1 := hq5.cell 1
            have r2 := hq5.cell 2
            have r3 := hq5.cell 3
            have r4 := hq5.cell 4
            refine bodyPost_ret (by simp [results, Tryz.results26, go_sem, r0, r1, r2, r3, r4]; try rfl) rfl ?_
            exact ⟨d, rfl, by rw [← HE.out, HB.out], HD4.out.2.2.2, below_set5 HD4.out.2.2.1 (Nat.le_succ _) _ _ _ _ _⟩
end Go.Proofs.YtcbcjeabpjjhbaaGreatDoor
namespace Go.Proofs.YtcbcjeabpjjhbaaGreatDoor
open Go.RowKit
set_option linter.unusedVariables false

theorem pre_extract {t p : ByteArray} {a : Nat} (h : p.size ≤ t.size - a) (ha : a ≤ t.size) : Lib.hasPrefix (rest t a) p.data.toList = ((t.extract a (a + p.size)).toList == p.toList) := by
  have hx : (t.extract a (a + p.size)).data.toList = (rest t a).take p.size := by rw [extract_len (by omega)]; congr 1; omega
  have hp : p.size = p.data.toList.length := by simp
  rw [ByteArray.toList_eq, ByteArray.toList_eq, Bool.eq_iff_iff, beq_iff_eq, hx]
  unfold Lib.hasPrefix
  rw [List.isPrefixOf_iff_prefix, List.prefix_iff_eq_take, ← hp]
  exact eq_comm
set_option maxRecDepth 100000 in
set_option maxHeartbeats 1000000 in
theorem rword_b {a n c x : Nat} {t : ByteArray} (ha : a ≤ t.size) (hs : t.size ≤ 65536) (p : ByteArray) (hp : p.size ≤ 65536) {b : Bool} (hb : Lib.hasPrefix (rest t a) p.data.toList = b) (W : World) : Calls Tryz.prog 43 #[stV t a n c x, .string p] W fun e w' => e = .returned (.bool b) ∧ Below W.heap.size W w' := by
  have i0 : (0 : Int) ≤ (a : Int) := by omega
  have i1 : (a : Int) ≤ (t.size : Int) := by omega
  have i2 : (0 : Int) ≤ (p.size : Int) := by omega
  by_cases hle : p.size ≤ t.size - a
  · rw [pre_extract hle ha] at hb
    have i3 : (a : Int) + (p.size : Int) ≤ (t.size : Int) := by omega
    have i4 : (p.size : Int) ≤ (t.size : Int) - (a : Int) := by omega
    have i5 : (a : Int) ≤ (a : Int) + (p.size : Int) := by omega
    go_enter Tryz.func43, Tryz.ntmps43
    go_wp2
    go_ret
    refine ⟨by rw [← hb]; rfl, ?_⟩
    go_grown
  · have hb0 : b = false := by
      cases b with
      | false => rfl
      | true => exact absurd (pre_le hb) hle
    subst hb0
    have i3 : ¬ (t.size : Int) - (a : Int) ≥ (p.size : Int) := by omega
    go_enter Tryz.func43, Tryz.ntmps43
    go_wp2
    go_ret
    refine ⟨rfl, ?_⟩
    go_grown
end Go.Proofs.YtcbcjeabpjjhbaaGreatDoor
namespace Go.Proofs.YtcbcjeabpjjhbaaGreatDoor
open Go.RowKit
set_option linter.unusedVariables false

def hexZ (l : List UInt8) (m : Nat) : Int := match hexN l m with | none => -1 | some n => (n : Int)
theorem hexZ_nil (m : Nat) : hexZ [] m = (m : Int) := rfl
theorem hexZ_yes {q : UInt8} {l : List UInt8} {m d : Nat} (h : hexD q = some d) : hexZ (q :: l) m = hexZ l (m * 16 + d) := by unfold hexZ; rw [hexN, h]
theorem hexZ_no {q : UInt8} {l : List UInt8} {m : Nat} (h : hexD q = none) : hexZ (q :: l) m = -1 := by unfold hexZ; rw [hexN, h]
theorem unitL_hexZ {t : ByteArray} {a : Nat} (h : a + 6 ≤ t.size) (h0 : (t[a]'(by omega)) = 92) (h1 : (t[a + 1]'(by omega)) = 117) : unitL (rest t a) = hexZ ((rest t (a + 2)).take 4) 0 := by
  rw [rest_cons (show a < t.size by omega), rest_cons (show a + 1 < t.size by omega), rest_cons (show a + 1 + 1 < t.size by omega), rest_cons (show a + 1 + 1 + 1 < t.size by omega), rest_cons (show a + 1 + 1 + 1 + 1 < t.size by omega), rest_cons (show a + 1 + 1 + 1 + 1 + 1 < t.size by omega), h0, h1]
  rfl
theorem unitL_not {t : ByteArray} {a : Nat} (h : a + 6 ≤ t.size) (hn : ¬ (t[a]'(by omega)) = 92 ∨ ¬ (t[a + 1]'(by omega)) = 117) : unitL (rest t a) = -1 := by
  rw [rest_cons (show a < t.size by omega), rest_cons (show a + 1 < t.size by omega)]
  unfold unitL
  split
  · rename_i heq
    simp only [List.cons.injEq] at heq
    rcases hn with hn | hn
    · exact absurd heq.1 hn
    · exact absurd heq.2.1 hn
  · rfl
set_option maxRecDepth 100000 in
set_option maxHeartbeats 4000000 in
theorem rhex_any {a : Nat} {t : ByteArray} (ha : a ≤ 100000) (hs : t.size ≤ 65536) (W : World) : Calls Tryz.prog 88 #[.string t, .int .i64 (a : Int)] W fun e w' => e = .returned (.int .i64 (unitL (rest t a))) ∧ W = w' := by
  have i0 : (0 : Int) ≤ (a : Int) := by omega
  by_cases hle : a + 6 ≤ t.size
  · have i1 : ¬ (a : Int) + 6 > (t.size : Int) := by omega
    have hix0 := byte_run (t := t) (a := a) (by omega)
    have hix1 : ∀ W : World, (Instr.index 9 (.string t) (.int .i64 ((a : Int) + 1))).run Tryz.prog W = .ok (.int .u8 ((t[a + 1]'(by omega)).toNat : Int)) W := byte_run (t := t) (a := a + 1) (by omega)
    have HN := Lib.hid (unitL_not hle)
    have HY := Lib.hid (unitL_hexZ hle)
    generalize t[a]'(by omega) = q0 at *
    generalize t[a + 1]'(by omega) = q1 at *
    by_cases h0 : q0 = 92
    · by_cases h1 : q1 = 117
      · subst h0 h1
        obtain ⟨X, hX⟩ : ∃ X, unitL (rest t a) = X := ⟨_, rfl⟩
        rw [hX]
        have HX : Hid (hexZ ((rest t (a + 2)).take 4) 0 = X) := Lib.hid (by rw [← hX, HY.out rfl rfl])
        clear HN HY hX
        go_enter Tryz.func88, Tryz.ntmps88
        go_wp2_with fail
        go_loopg [5, 6] 5 (fun gf s5 s6 wx => ∃ j m : Nat, s5 = .int .i64 (m : Int) ∧ s6 = .int .i64 ((a + 2 + j : Nat) : Int) ∧ j ≤ 4 ∧ m < 16 ^ j ∧ Hid (hexZ ((rest t (a + 2 + j)).take (4 - j)) m = X) ∧ wx = W ∧ 4 - j < gf)
        case atStart => exact ⟨0, 0, rfl, rfl, by omega, by omega, HX, rfl, by omega⟩
        case round =>
          obtain ⟨j, m, rfl, rfl, hj, hm, HE, rfl, hg⟩ := hrel
          by_cases hj4 : j < 4
          · have hlt : a + 2 + j < t.size := by omega
            have hix : ∀ W : World, (Instr.index 9 (.string t) (.int .i64 ((a : Int) + 2 + (j : Int)))).run Tryz.prog W = .ok (.int .u8 ((t[a + 2 + j]'hlt).toNat : Int)) W := fun W => by rw [show ((a : Int) + 2 + (j : Int)) = ((a + 2 + j : Nat) : Int) by omega]; exact byte_run hlt W
            have hpow : 16 ^ j ≤ 16 ^ 3 := Nat.pow_le_pow_right (by omega) (by omega)
            have hm4 : (m : Int) ≤ 4096 := by omega
            have hm0 : (0 : Int) ≤ (m : Int) := by omega
            have hT : (rest t (a + 2 + j)).take (4 - j) = (t[a + 2 + j]'hlt) :: (rest t (a + 2 + (j + 1))).take (4 - (j + 1)) := by
              rw [rest_cons hlt, show 4 - j = (4 - (j + 1)) + 1 by omega, List.take_succ_cons]
              rfl
            rw [hT] at HE
            clear hT hpow hix0 hix1 HX
            generalize t[a + 2 + j]'hlt = q at *
            have hqb := UInt8.toNat_lt q
            obtain ⟨g', rfl⟩ : ∃ g', gk = g' + 1 := ⟨gk - 1, by omega⟩
            have j1 : (a : Int) + 2 + (j : Int) < (a : Int) + 6 := by omega
            have hm16 : 16 ^ (j + 1) = 16 ^ j * 16 := Nat.pow_succ ..
            by_cases c1 : 48 ≤ q.toNat ∧ q.toNat ≤ 57
            · have HQ := Lib.hid (hexZ_yes (l := (rest t (a + 2 + (j + 1))).take (4 - (j + 1))) (m := m) (show hexD q = some (q.toNat - 48) by unfold hexD; rw [if_pos c1]))
              have d1 : (48 : Int) ≤ (q.toNat : Int) := by omega
              have d2 : (q.toNat : Int) ≤ 57 := by omega
              go_wp2
              go_roundg g'
              case measure => omega
              case rel => exact ⟨j + 1, m * 16 + (q.toNat - 48), by congr 1; omega, rfl, by omega, by omega, Lib.hid (by rw [← HQ.out]; exact HE.out), rfl, by omega⟩
            · by_cases c2 : 97 ≤ q.toNat ∧ q.toNat ≤ 102
              · have HQ := Lib.hid (hexZ_yes (l := (rest t (a + 2 + (j + 1))).take (4 - (j + 1))) (m := m) (show hexD q = some (q.toNat - 87) by unfold hexD; rw [if_neg c1, if_pos c2]))
                have d1 : ¬ (q.toNat : Int) ≤ 57 := by omega
                have d2 : (48 : Int) ≤ (q.toNat : Int) := by omega
                have d3 : (97 : Int) ≤ (q.toNat : Int) := by omega
                have d4 : (q.toNat : Int) ≤ 102 := by omega
                go_wp2
                go_roundg g'
                case measure => omega
                case rel => exact ⟨j + 1, m * 16 + (q.toNat - 87), by congr 1; omega, rfl, by omega, by omega, Lib.hid (by rw [← HQ.out]; exact HE.out), rfl, by omega⟩
              · by_cases c3 : 65 ≤ q.toNat ∧ q.toNat ≤ 70
                · have HQ := Lib.hid (hexZ_yes (l := (rest t (a + 2 + (j + 1))).take (4 - (j + 1))) (m := m) (show hexD q = some (q.toNat - 55) by unfold hexD; rw [if_neg c1, if_neg c2, if_pos c3]))
                  have d1 : ¬ (q.toNat : Int) ≤ 57 := by omega
                  have d2 : (48 : Int) ≤ (q.toNat : Int) := by omega
                  have d3 : ¬ (97 : Int) ≤ (q.toNat : Int) := by omega
                  have d4 : (65 : Int) ≤ (q.toNat : Int) := by omega
                  have d5 : (q.toNat : Int) ≤ 70 := by omega
                  go_wp2
                  go_roundg g'
                  case measure => omega
                  case rel => exact ⟨j + 1, m * 16 + (q.toNat - 55), by congr 1; omega, rfl, by omega, by omega, Lib.hid (by rw [← HQ.out]; exact HE.out), rfl, by omega⟩
                · have HQ := Lib.hid (HE.out.symm.trans (hexZ_no (show hexD q = none by unfold hexD; rw [if_neg c1, if_neg c2, if_neg c3])))
                  have d1 : ¬ (48 ≤ (q.toNat : Int) ∧ (q.toNat : Int) ≤ 57) := by omega
                  have d2 : ¬ (97 ≤ (q.toNat : Int) ∧ (q.toNat : Int) ≤ 102) := by omega
                  have d3 : ¬ (65 ≤ (q.toNat : Int) ∧ (q.toNat : Int) ≤ 70) := by omega
                  clear HE
                  go_wp2
                  all_goals (first | (exfalso; omega) | (go_ret; rw [HQ.out]; exact ⟨rfl, rfl⟩))
          · obtain rfl : j = 4 := by omega
            have j1 : ¬ (a : Int) + 2 + (4 : Int) < (a : Int) + 6 := by omega
            have hX : (m : Int) = X := HE.out
            clear HX HE hix0 hix1
            go_wp2
            go_ret
            exact ⟨by rw [← hX]; rfl, rfl⟩
      · have n1 : ¬ (q1.toNat : Int) = 117 := fun h => h1 (UInt8.toNat_inj.1 (by simpa using (by omega : q1.toNat = 117)))
        have e1 := HN.out (.inr h1)
        subst h0
        rw [e1]
        clear HN HY e1
        go_enter Tryz.func88, Tryz.ntmps88
        go_wp2
        go_ret
        exact ⟨rfl, rfl⟩
    · have n0 : ¬ (q0.toNat : Int) = 92 := fun h => h0 (UInt8.toNat_inj.1 (by simpa using (by omega : q0.toNat = 92)))
      rw [HN.out (.inl h0)]
      clear HN HY hix1
      go_enter Tryz.func88, Tryz.ntmps88
      go_wp2
      go_ret
      exact ⟨rfl, rfl⟩
  · have i1 : (a : Int) + 6 > (t.size : Int) := by omega
    rw [unitL_short (by rw [rest_length]; omega)]
    go_enter Tryz.func88, Tryz.ntmps88
    go_wp2
    go_ret
    exact ⟨rfl, rfl⟩
end Go.Proofs.YtcbcjeabpjjhbaaGreatDoor
namespace Go.Proofs.YtcbcjeabpjjhbaaGreatDoor
open Go.RowKit
set_option linter.unusedVariables false

def moreZ (z : Int) : Bool := decide (128 ≤ z) && decide (z < 192)
def threeZ (z0 z1 z2 : Int) : Int := (z0 - 224) * 4096 + (z1 - 128) * 64 + z2 - 128
def fourZ (z0 z1 z2 z3 : Int) : Int := (z0 - 240) * 262144 + (z1 - 128) * 4096 + (z2 - 128) * 64 + z3 - 128
/-- How many bytes the UTF-8 has that begins with these; 0: none begins. -/
def docRune (z0 z1 z2 z3 : Int) : Nat :=
  if z0 < 0 then 0 else if z0 < 128 then 1
  else if z0 < 194 then 0 else if z0 < 224 then (if moreZ z1 then 2 else 0)
  else if z0 < 240 then (if moreZ z1 && moreZ z2 then (if 2048 ≤ threeZ z0 z1 z2 ∧ (threeZ z0 z1 z2 < 55296 ∨ threeZ z0 z1 z2 > 57343) then 3 else 0) else 0)
  else if z0 < 245 then (if moreZ z1 && moreZ z2 && moreZ z3 then (if 65536 ≤ fourZ z0 z1 z2 z3 ∧ fourZ z0 z1 z2 z3 ≤ 1114111 then 4 else 0) else 0)
  else 0
set_option maxRecDepth 100000 in
set_option maxHeartbeats 1000000 in
theorem rmore_b {a : Nat} {t : ByteArray} (hs : t.size ≤ 65536) {b : Bool} (hb : moreZ (headZ (rest t a)) = b) (W : World) : Calls Tryz.prog 74 #[.string t, .int .i64 (a : Int)] W fun e w' => e = .returned (.bool b) ∧ W = w' := by
  have HO := Lib.hid (fun w => rone_any (a := a) hs w)
  generalize headZ (rest t a) = z at *
  unfold moreZ at hb
  by_cases h1 : 128 ≤ z
  · by_cases h2 : z < 192
    · obtain rfl : b = true := by rw [← hb]; simp [h1, h2]
      clear hb
      go_enter Tryz.func74, Tryz.ntmps74
      go_wp2_with (go_at_call 73; refine (HO.out _).mono ?_; rintro e w' ⟨rfl, rfl⟩)
      go_ret
      exact ⟨rfl, rfl⟩
    · obtain rfl : b = false := by rw [← hb]; simp [h2]
      clear hb
      go_enter Tryz.func74, Tryz.ntmps74
      go_wp2_with (go_at_call 73; refine (HO.out _).mono ?_; rintro e w' ⟨rfl, rfl⟩)
      go_ret
      refine ⟨?_, rfl⟩
      have hd : decide (z < 192) = false := by simp [h2]
      rw [hd]
      rfl
  · obtain rfl : b = false := by rw [← hb]; simp [h1]
    clear hb
    go_enter Tryz.func74, Tryz.ntmps74
    go_wp2_with (go_at_call 73; refine (HO.out _).mono ?_; rintro e w' ⟨rfl, rfl⟩)
    go_ret
    exact ⟨rfl, rfl⟩
def OneAt (t : ByteArray) (i z : Int) : Prop := ∀ w : World, Calls Tryz.prog 73 #[.string t, .int .i64 i] w fun e w' => e = .returned (.int .i64 z) ∧ w = w'
def MoreAt (t : ByteArray) (i : Int) (b : Bool) : Prop := ∀ w : World, Calls Tryz.prog 74 #[.string t, .int .i64 i] w fun e w' => e = .returned (.bool b) ∧ w = w'
/-- Rune answers so many. -/
def RuneIs (t : ByteArray) (a : Nat) (k : Nat) : Prop := ∀ W : World, Calls Tryz.prog 56 #[.string t, .int .i64 (a : Int)] W fun e w' => e = .returned (.int .i64 (k : Int)) ∧ W = w'
theorem oneAt {t : ByteArray} {a : Nat} (hs : t.size ≤ 65536) (i : Nat) : OneAt t ((a : Int) + (i : Int)) (headZ (rest t (a + i))) := fun w => rone_any (a := a + i) hs w
theorem moreAt {t : ByteArray} {a : Nat} (hs : t.size ≤ 65536) (i : Nat) : MoreAt t ((a : Int) + (i : Int)) (moreZ (headZ (rest t (a + i)))) := fun w => rmore_b (a := a + i) hs rfl w
end Go.Proofs.YtcbcjeabpjjhbaaGreatDoor
