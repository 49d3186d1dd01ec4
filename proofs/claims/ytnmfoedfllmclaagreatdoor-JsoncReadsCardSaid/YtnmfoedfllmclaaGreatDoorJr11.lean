/- The document's own reader: a state by value; the byte that comes next, its digit, what stands at a place · The document's own reader: a word at a place · strconv.ParseUint of hexadecimal digits, to 16 bits -/
import Derived.Handy
import Derived.Lib.Strings
import Derived.Lib.Walk
import Derived.Lib.ConvBytes
import Derived.Lib.ParseIntBMem
import Derived.Laws.Strings3
import Derived.Laws.Closers25
import Derived.Laws.Closers25b
import Derived.BigCall
import Derived.BigGuard
import Derived.Shelf.Vars
import Derived.Test.YtnmfoedfllmclaaGreatDoorJr09
import Derived.Test.YtnmfoedfllmclaaGreatDoorJr10
namespace Go.Proofs.YtnmfoedfllmclaaGreatDoor
open Go.RowKit
set_option linter.unusedVariables false

/-- A state: text, place, how many values, error, where. -/
abbrev stV (t : ByteArray) (a n c x : Nat) : Value := .agg #[.string t, .int .i64 (a : Int), .int .i64 (n : Int), .int .i64 (c : Int), .int .i64 (x : Int)]
/-- The byte that comes next; -1 behind the end. -/
def headZ : List UInt8 → Int
  | c :: _ => (c.toNat : Int)
  | [] => -1
theorem headZ_bound (R : List UInt8) : -1 ≤ headZ R ∧ headZ R < 256 := by
  cases R with
  | nil => exact ⟨by decide, by decide⟩
  | cons c r =>
    have := UInt8.toNat_lt c
    refine ⟨?_, ?_⟩
    · show -1 ≤ (c.toNat : Int)
      omega
    · show (c.toNat : Int) < 256
      omega
set_option maxRecDepth 100000 in
set_option maxHeartbeats 1000000 in
theorem rc_any {a n c x : Nat} {t : ByteArray} (ha : a ≤ t.size) (hs : t.size ≤ 65536) (W : World) : Calls Tryz.prog 45 #[stV t a n c x] W fun e w' => e = .returned (.int .i64 (headZ (rest t a))) ∧ Below W.heap.size W w' := by
  have i0 : (0 : Int) ≤ (a : Int) := by omega
  by_cases hlt : a < t.size
  · have hix := byte_run hlt
    obtain ⟨q, hq⟩ : ∃ q, t[a]'hlt = q := ⟨_, rfl⟩
    rw [hq] at hix
    have HN : Hid (headZ (rest t a) = (q.toNat : Int)) := Lib.hid (by rw [rest_cons hlt, hq]; rfl)
    have hqb := UInt8.toNat_lt q
    have i1 : ¬ (a : Int) ≥ (t.size : Int) := by omega
    clear hq
    go_enter Tryz.func45, Tryz.ntmps45
    go_wp2
    go_ret
    rw [HN.out]
    exact ⟨rfl, (Below.refl _ W).alloc (Nat.le_refl _) _⟩
  · have HN : Hid (headZ (rest t a) = -1) := Lib.hid (by rw [rest_nil (by omega)]; rfl)
    have i1 : (a : Int) ≥ (t.size : Int) := by omega
    go_enter Tryz.func45, Tryz.ntmps45
    go_wp2
    go_ret
    rw [HN.out]
    exact ⟨rfl, (Below.refl _ W).alloc (Nat.le_refl _) _⟩
set_option maxRecDepth 100000 in
set_option maxHeartbeats 1000000 in
theorem rone_any {a : Nat} {t : ByteArray} (hs : t.size ≤ 65536) (W : World) : Calls Tryz.prog 73 #[.string t, .int .i64 (a : Int)] W fun e w' => e = .returned (.int .i64 (headZ (rest t a))) ∧ W = w' := by
  have i0 : (0 : Int) ≤ (a : Int) := by omega
  by_cases hlt : a < t.size
  · have hix := byte_run hlt
    obtain ⟨q, hq⟩ : ∃ q, t[a]'hlt = q := ⟨_, rfl⟩
    rw [hq] at hix
    have HN : Hid (headZ (rest t a) = (q.toNat : Int)) := Lib.hid (by rw [rest_cons hlt, hq]; rfl)
    have hqb := UInt8.toNat_lt q
    have i1 : ¬ (a : Int) ≥ (t.size : Int) := by omega
    clear hq
    go_enter Tryz.func73, Tryz.ntmps73
    go_wp2
    go_ret
    rw [HN.out]
    exact ⟨rfl, rfl⟩
  · have HN : Hid (headZ (rest t a) = -1) := Lib.hid (by rw [rest_nil (by omega)]; rfl)
    have i1 : (a : Int) ≥ (t.size : Int) := by omega
    go_enter Tryz.func73, Tryz.ntmps73
    go_wp2
    go_ret
    rw [HN.out]
    exact ⟨rfl, rfl⟩
def digZ (z : Int) : Bool := decide (48 ≤ z) && decide (z ≤ 57)
theorem digZ_head (R : List UInt8) : digZ (headZ R) = R.head?.any digJ := by
  cases R with
  | nil => rfl
  | cons c r =>
    show digZ (c.toNat : Int) = digJ c
    rw [digJ_nat]
    unfold digZ digN
    rw [Bool.eq_iff_iff]
    simp
    omega
set_option maxRecDepth 100000 in
set_option maxHeartbeats 1000000 in
theorem rdigit_b {z : Int} (h1 : -1 ≤ z) (h2 : z < 256) {b : Bool} (hb : digZ z = b) (w : World) : Calls Tryz.prog 46 #[.int .i64 z] w fun e w' => e = .returned (.bool b) ∧ w = w' := by
  unfold digZ at hb
  by_cases i1 : 48 ≤ z
  · by_cases i2 : z ≤ 57
    · obtain rfl : b = true := by rw [← hb]; simp [i1, i2]
      clear hb
      go_enter Tryz.func46, Tryz.ntmps46
      go_wp2
      go_ret
      exact ⟨rfl, rfl⟩
    · obtain rfl : b = false := by rw [← hb]; simp [i2]
      clear hb
      go_enter Tryz.func46, Tryz.ntmps46
      go_wp2
      go_ret
      exact ⟨rfl, rfl⟩
  · obtain rfl : b = false := by rw [← hb]; simp [i1]
    clear hb
    go_enter Tryz.func46, Tryz.ntmps46
    go_wp2
    go_ret
    exact ⟨rfl, rfl⟩
/-- An error is laid down, if there is none yet. -/
def failS (t : ByteArray) (a n c x k y : Nat) : Value := if c = 0 then stV t a n k y else stV t a n c x
set_option maxRecDepth 100000 in
set_option maxHeartbeats 1000000 in
theorem rfail_any {a n c x k y : Nat} {t : ByteArray} (W : World) : Calls Tryz.prog 27 #[stV t a n c x, .int .i64 (k : Int), .int .i64 (y : Int)] W fun e w' => e = .returned (failS t a n c x k y) ∧ Below W.heap.size W w' := by
  by_cases h0 : c = 0
  · subst h0
    have HF : Hid (failS t a n 0 x k y = stV t a n k y) := Lib.hid (if_pos rfl)
    go_enter Tryz.func27, Tryz.ntmps27
    go_wp2
    go_returns
    rw [HF.out]
    refine ⟨rfl, ?_⟩
    go_grown
  · have HF : Hid (failS t a n c x k y = stV t a n c x) := Lib.hid (if_neg h0)
    have i0 : ¬ (c : Int) = 0 := by omega
    go_enter Tryz.func27, Tryz.ntmps27
    go_wp2
    go_returns
    rw [HF.out]
    refine ⟨rfl, ?_⟩
    go_grown
/-- The state's block and the result's, of a function that began in W. -/
def DocJ (W wx : World) (t : ByteArray) (a n c x : Nat) : Prop := Blk wx W.heap.size #[.string t, .int .i64 (a : Int), .int .i64 (n : Int), .int .i64 (c : Int), .int .i64 (x : Int)] 56 ∧ Blk wx (W.heap.size + 1) #[.string ⟨#[]⟩, .int .i64 0, .int .i64 0, .int .i64 0, .int .i64 0] 56 ∧ Below W.heap.size W wx ∧ a ≤ t.size
theorem DocJ.below {W wx w' : World} {t : ByteArray} {a n c x : Nat} (h : DocJ W wx t a n c x) (hb : Below wx.heap.size wx w') : DocJ W w' t a n c x :=
  ⟨h.1.below hb, h.2.1.below hb, h.2.2.1.trans (hb.mono h.2.2.1.size), h.2.2.2⟩
theorem DocJ.moves {W wx : World} {t : ByteArray} {a n c x : Nat} (h : DocJ W wx t a n c x) {b : Nat} (hb : b ≤ t.size) : DocJ W (wx.setCell ⟨W.heap.size, 1, none⟩ (.int .i64 (b : Int))) t b n c x :=
  ⟨by have := h.1.set 1 (.int .i64 (b : Int)); simpa using this, h.2.1.other (by simp) _, h.2.2.1.setCell (Nat.le_refl _) _, hb⟩
def blankZ (z : Int) : Bool := decide (z = 32) || decide (z = 9) || decide (z = 10) || decide (z = 13)
theorem blankZ_yes {t : ByteArray} {a : Nat} (h : blankZ (headZ (rest t a)) = true) : a < t.size ∧ skipB (rest t (a + 1)) = skipB (rest t a) := by
  rcases Nat.lt_or_ge a t.size with hlt | hge
  · refine ⟨hlt, ?_⟩
    rw [rest_cons hlt] at h ⊢
    generalize t[a]'hlt = q at *
    have hq : blankB q = true := by
      unfold blankZ headZ at h
      unfold blankB
      simp [← UInt8.toNat_inj] at h ⊢
      omega
    unfold skipB
    rw [List.dropWhile_cons_of_pos hq]
  · rw [rest_nil hge] at h
    exact absurd h (by decide)
theorem blankZ_no {R : List UInt8} (h : blankZ (headZ R) = false) : skipB R = R := by
  cases R with
  | nil => rfl
  | cons q r =>
    have hq : ¬ blankB q = true := by
      unfold blankZ headZ at h
      unfold blankB
      simp [← UInt8.toNat_inj] at h ⊢
      omega
    unfold skipB
    rw [List.dropWhile_cons_of_neg hq]
set_option maxRecDepth 100000 in
set_option maxHeartbeats 4000000 in
theorem rblanks_any {a n c x : Nat} {t : ByteArray} (ha : a ≤ t.size) (hs : t.size ≤ 65536) (W : World) : Calls Tryz.prog 26 #[stV t a n c x] W fun e w' => ∃ b, e = .returned (stV t b n c x) ∧ rest t b = skipB (rest t a) ∧ b ≤ t.size ∧ Below W.heap.size W w' := by
  go_enter Tryz.func26, Tryz.ntmps26
  go_wp2_with fail
  go_loopg [] t.size (fun gf wx => ∃ d : Nat, Hid (DocJ W wx t d n c x) ∧ Hid (skipB (rest t d) = skipB (rest t a)) ∧ t.size - d ≤ gf)
  case atStart =>
    refine ⟨a, Lib.hid ⟨?_, ?_, by go_grown, ha⟩, Lib.hid rfl, by omega⟩
    · exact (Blk.new _ _ _).alloc _
    · have := Blk.new (W.alloc (.cells #[.string t, .int .i64 (a : Int), .int .i64 (n : Int), .int .i64 (c : Int), .int .i64 (x : Int)] 56)) #[.string ⟨#[]⟩, .int .i64 0, .int .i64 0, .int .i64 0, .int .i64 0] 56
      rw [World.size_alloc] at this
      exact this
  case round =>
    obtain ⟨d, HD0, HE, hc⟩ := hrel
    obtain ⟨z, hz⟩ : ∃ z, headZ (rest t d) = z := ⟨_, rfl⟩
    obtain ⟨k1, k2⟩ := hz ▸ headZ_bound (rest t d)
    have HC0 := Lib.hid (hz ▸ rc_any (a := d) (n := n) (c := c) (x := x) HD0.out.2.2.2 hs wr)
    have c00 := HD0.out.1.cell 0
    have c01 := HD0.out.1.cell 1
    have c02 := HD0.out.1.cell 2
    have c03 := HD0.out.1.cell 3
    have c04 := HD0.out.1.cell 4
    go_wp2_with fail
    go_at_call 45; refine HC0.out.mono ?_; rintro e w1 ⟨rfl, hb1⟩
    have HD1 := Lib.hid (HD0.out.below hb1)
    clear hb1 c00 c01 c02 c03 c04
    by_cases h32 : z = 32
    · subst h32
      have HB := Lib.hid (blankZ_yes (t := t) (a := d) (by rw [hz]; decide))
      have hlt := HB.out.1
      have c90 := HD1.out.1.cell 0
      have c91 := HD1.out.1.cell 1
      have c92 := HD1.out.1.cell 2
      have c93 := HD1.out.1.cell 3
      have c94 := HD1.out.1.cell 4
      have f1 := HD1.out.1.frozen 1
      have i0 : (0 : Int) ≤ (d : Int) := by omega
      obtain ⟨g', rfl⟩ : ∃ g', gk = g' + 1 := ⟨gk - 1, by omega⟩
      go_wp2
      go_roundg g'
      case measure => omega
      case rel => exact ⟨d + 1, Lib.hid (HD1.out.moves (b := d + 1) (by omega)), Lib.hid (by rw [HB.out.2, HE.out]), by omega⟩
    · skip
      have HC1 := Lib.hid (hz ▸ rc_any (a := d) (n := n) (c := c) (x := x) HD1.out.2.2.2 hs w1)
      have c10 := HD1.out.1.cell 0
      have c11 := HD1.out.1.cell 1
      have c12 := HD1.out.1.cell 2
      have c13 := HD1.out.1.cell 3
      have c14 := HD1.out.1.cell 4
      go_wp2_with fail
      go_at_call 45; refine HC1.out.mono ?_; rintro e w2 ⟨rfl, hb2⟩
      have HD2 := Lib.hid (HD1.out.below hb2)
      clear hb2 c10 c11 c12 c13 c14
      by_cases h9 : z = 9
      · subst h9
        have HB := Lib.hid (blankZ_yes (t := t) (a := d) (by rw [hz]; decide))
        have hlt := HB.out.1
        have c90 := HD2.out.1.cell 0
        have c91 := HD2.out.1.cell 1
        have c92 := HD2.out.1.cell 2
        have c93 := HD2.out.1.cell 3
        have c94 := HD2.out.1.cell 4
        have f1 := HD2.out.1.frozen 1
        have i0 : (0 : Int) ≤ (d : Int) := by omega
        obtain ⟨g', rfl⟩ : ∃ g', gk = g' + 1 := ⟨gk - 1, by omega⟩
        go_wp2
        go_roundg g'
        case measure => omega
        case rel => exact ⟨d + 1, Lib.hid (HD2.out.moves (b := d + 1) (by omega)), Lib.hid (by rw [HB.out.2, HE.out]), by omega⟩
      · skip
        have HC2 := Lib.hid (hz ▸ rc_any (a := d) (n := n) (c := c) (x := x) HD2.out.2.2.2 hs w2)
        have c20 := HD2.out.1.cell 0
        have c21 := HD2.out.1.cell 1
        have c22 := HD2.out.1.cell 2
        have c23 := HD2.out.1.cell 3
        have c24 := HD2.out.1.cell 4
        go_wp2_with fail
        go_at_call 45; refine HC2.out.mono ?_; rintro e w3 ⟨rfl, hb3⟩
        have HD3 := Lib.hid (HD2.out.below hb3)
        clear hb3 c20 c21 c22 c23 c24
        by_cases h10 : z = 10
        · subst h10
          have HB := Lib.hid (blankZ_yes (t := t) (a := d) (by rw [hz]; decide))
          have hlt := HB.out.1
          have c90 := HD3.out.1.cell 0
          have c91 := HD3.out.1.cell 1
          have c92 := HD3.out.1.cell 2
          have c93 := HD3.out.1.cell 3
          have c94 := HD3.out.1.cell 4
          have f1 := HD3.out.1.frozen 1
          have i0 : (0 : Int) ≤ (d : Int) := by omega
          obtain ⟨g', rfl⟩ : ∃ g', gk = g' + 1 := ⟨gk - 1, by omega⟩
          go_wp2
          go_roundg g'
          case measure => omega
          case rel => exact ⟨d + 1, Lib.hid (HD3.out.moves (b := d + 1) (by omega)), Lib.hid (by rw [HB.out.2, HE.out]), by omega⟩
        · skip
          have HC3 := Lib.hid (hz ▸ rc_any (a := d) (n := n) (c := c) (x := x) HD3.out.2.2.2 hs w3)
          have c30 := HD3.out.1.cell 0
          have c31 := HD3.out.1.cell 1
          have c32 := HD3.out.1.cell 2
          have c33 := HD3.out.1.cell 3
          have c34 := HD3.out.1.cell 4
          go_wp2_with fail
          go_at_call 45; refine HC3.out.mono ?_; rintro e w4 ⟨rfl, hb4⟩
          have HD4 := Lib.hid (HD3.out.below hb4)
          clear hb4 c30 c31 c32 c33 c34
          by_cases h13 : z = 13
          · subst h13
            have HB := Lib.hid (blankZ_yes (t := t) (a := d) (by rw [hz]; decide))
            have hlt := HB.out.1
            have c90 := HD4.out.1.cell 0
            have c91 := HD4.out.1.cell 1
            have c92 := HD4.out.1.cell 2
            have c93 := HD4.out.1.cell 3
            have c94 := HD4.out.1.cell 4
            have f1 := HD4.out.1.frozen 1
            have i0 : (0 : Int) ≤ (d : Int) := by omega
            obtain ⟨g', rfl⟩ : ∃ g', gk = g' + 1 := ⟨gk - 1, by omega⟩
            go_wp2
            go_roundg g'
            case measure => omega
            case rel => exact ⟨d + 1, Lib.hid (HD4.out.moves (b := d + 1) (by omega)), Lib.hid (by rw [HB.out.2, HE.out]), by omega⟩
          · skip
            have HB : Hid (skipB (rest t d) = rest t d) := Lib.hid (blankZ_no (by rw [hz]; simp [blankZ, h32, h9, h10, h13]))
            have c90 := HD4.out.1.cell 0
            have c91 := HD4.out.1.cell 1
            have c92 := HD4.out.1.cell 2
            have c93 := HD4.out.1.cell 3
            have c94 := HD4.out.1.cell 4
            have q0 := HD4.out.2.1.cell 0
            have q1 := HD4.out.2.1.cell 1
            have q2 := HD4.out.2.1.cell 2
            have q3 := HD4.out.2.1.cell 3
            have q4 := HD4.out.2.1.cell 4
            have g0 := HD4.out.2.1.frozen 0
            have g1 := HD4.out.2.1.frozen 1
            have g2 := HD4.out.2.1.frozen 2
            have g3 := HD4.out.2.1.frozen 3
            have g4 := HD4.out.2.1.frozen 4
            have f1 := HD4.out.1.frozen 1
            have e32 : (z == 32) = false := by simp [h32]
            have e9 : (z == 9) = false := by simp [h9]
            have e10 : (z == 10) = false := by simp [h10]
            have e13 : (z == 13) = false := by simp [h13]
            go_wp2
            have hq5 := HD4.out.2.1.set5 (.string t) (.int .i64 (d : Int)) (.int .i64 (n : Int)) (.int .i64 (c : Int)) (.int .i64 (x : Int))
            have r0 := hq5.cell 0
            have r1 := hq5.cell 1
            have r2 := hq5.cell 2
            have r3 := hq5.cell 3
            have r4 := hq5.cell 4
            refine bodyPost_ret (by simp [results, Tryz.results26, go_sem, r0, r1, r2, r3, r4]; try rfl) rfl ?_
            exact ⟨d, rfl, by rw [← HE.out, HB.out], HD4.out.2.2.2, below_set5 HD4.out.2.2.1 (Nat.le_succ _) _ _ _ _ _⟩
end Go.Proofs.YtnmfoedfllmclaaGreatDoor
namespace Go.Proofs.YtnmfoedfllmclaaGreatDoor
open Go.RowKit
set_option linter.unusedVariables false

theorem pre_extract {t p : ByteArray} {a : Nat} (h : p.size ≤ t.size - a) (ha : a ≤ t.size) : Lib.hasPrefix (rest t a) p.data.toList = ((t.extract a (a + p.size)).toList == p.toList) := by
  have hx : (t.extract a (a + p.size)).data.toList = (rest t a).take p.size := by rw [extract_len (by omega)]; congr 1; omega
  have hp : p.size = p.data.toList.length := by simp
  rw [ByteArray.toList_eq, ByteArray.toList_eq, Bool.eq_iff_iff, beq_iff_eq, hx]
  unfold Lib.hasPrefix
  rw [List.isPrefixOf_iff_prefix, List.prefix_iff_eq_take, ← hp]
  exact eq_comm
set_option maxRecDepth 100000 in
set_option maxHeartbeats 1000000 in
theorem rword_b {a n c x : Nat} {t : ByteArray} (ha : a ≤ t.size) (hs : t.size ≤ 65536) (p : ByteArray) (hp : p.size ≤ 65536) {b : Bool} (hb : Lib.hasPrefix (rest t a) p.data.toList = b) (W : World) : Calls Tryz.prog 43 #[stV t a n c x, .string p] W fun e w' => e = .returned (.bool b) ∧ Below W.heap.size W w' := by
  have i0 : (0 : Int) ≤ (a : Int) := by omega
  have i1 : (a : Int) ≤ (t.size : Int) := by omega
  have i2 : (0 : Int) ≤ (p.size : Int) := by omega
  by_cases hle : p.size ≤ t.size - a
  · rw [pre_extract hle ha] at hb
    have i3 : (a : Int) + (p.size : Int) ≤ (t.size : Int) := by omega
    have i4 : (p.size : Int) ≤ (t.size : Int) - (a : Int) := by omega
    have i5 : (a : Int) ≤ (a : Int) + (p.size : Int) := by omega
    go_enter Tryz.func43, Tryz.ntmps43
    go_wp2
    go_ret
    refine ⟨by rw [← hb]; rfl, ?_⟩
    go_grown
  · have hb0 : b = false := by
      cases b with
      | false => rfl
      | true => exact absurd (pre_le hb) hle
    subst hb0
    have i3 : ¬ (t.size : Int) - (a : Int) ≥ (p.size : Int) := by omega
    go_enter Tryz.func43, Tryz.ntmps43
    go_wp2
    go_ret
    refine ⟨rfl, ?_⟩
    go_grown
end Go.Proofs.YtnmfoedfllmclaaGreatDoor
namespace Go.Proofs.YtnmfoedfllmclaaGreatDoor
open Go.RowKit Go.Shelf
set_option linter.unusedVariables false

/-- What is read of the program's own variables. -/
structure ReadyJ (W : World) : Prop where
  tabs : Lib.Utf8Tabs 0 1 W
  syn : ∃ ev, W.cell? ⟨3, 0, none⟩ = some ev ∧ (ev = .nilIface ∨ ∃ te pe, ev = .iface te pe)
  rng : ∃ ev, W.cell? ⟨4, 0, none⟩ = some ev ∧ (ev = .nilIface ∨ ∃ te pe, ev = .iface te pe)
  size : 7 ≤ W.heap.size

def puL : List UInt8 → Nat → Option Nat
  | [], n => some n
  | c :: l, n => match hexD c with | none => none | some d => if 65535 < n * 16 + d then none else puL l (n * 16 + d)
set_option maxRecDepth 100000 in
theorem low_bits : ∀ c : Fin 256, bits .or .u8 ((c.val : Nat) : Int) 32 = (((c.val ||| 32 : Nat)) : Int) := by decide
set_option maxRecDepth 100000 in
theorem low_hex : ∀ c : Fin 256, ¬ (48 ≤ c.val ∧ c.val ≤ 57) → (hexD (UInt8.ofNat c.val) = some ((c.val ||| 32) - 87) ∧ 97 ≤ (c.val ||| 32 : Nat) ∧ (c.val ||| 32 : Nat) ≤ 102) ∨ (hexD (UInt8.ofNat c.val) = none ∧ ((c.val ||| 32 : Nat) < 97 ∨ 102 < (c.val ||| 32 : Nat))) := by decide
theorem hexD_dig {c : UInt8} (h : 48 ≤ c.toNat ∧ c.toNat ≤ 57) : hexD c = some (c.toNat - 48) := by unfold hexD; rw [if_pos h]
theorem hexD_lt {c : UInt8} {d : Nat} (h : hexD c = some d) : d < 16 := by
  unfold hexD at h
  split at h
  · cases h; omega
  · split at h
    · cases h; omega
    · split at h
      · cases h; omega
      · cases h

set_option maxHeartbeats 32000000 in
set_option maxRecDepth 100000 in
theorem pu_in (t : ByteArray) (hne : t.size ≠ 0) (hmax : t.size ≤ 1000) (w : World) :
    Calls Tryz.prog 132 #[.string t, .int .i64 16, .int .i64 16] w fun e w' => (match puL t.data.toList 0 with
      | some n => e = .returned (.tuple #[.int .u64 (n : Int), .nilIface])
      | none => ∃ x, e = .returned (.tuple #[.int .u64 x, .iface 156 (.int .i64 2)]) ∨ e = .returned (.tuple #[.int .u64 x, .iface 156 (.int .i64 1)])) ∧ w' = Lib.bytesWorld w 5 t := by
  have e321 : ∀ args w, (callFunc 139 args).run Tryz.prog w = .ok (.enter 139 args) w := enters_of Tryz.func139 (by kernel_rfl) rfl
  have hemp : t.toList.isEmpty = false := by
    rw [← decide_eq_emptyBytes]
    exact decide_eq_false (fun h => hne (by rw [h]; rfl))
  have hcv := Lib.run_convert_string_bytes (P := Tryz.prog) w 9 44 5 t (u := .string) Tryz.underlying9 Tryz.underlying44 Tryz.underlying5
  have hB : ∀ j, j < t.size → (Lib.bytesWorld w 5 t).cell? ⟨w.heap.size, j, none⟩ = some (.int .u8 (t.data.toList.getD j 0).toNat) := fun j hj => Lib.bytesWorld_cell w 5 t j hj
  obtain ⟨W1, hW1⟩ : ∃ W1, W1 = Lib.bytesWorld w 5 t := ⟨_, rfl⟩
  rw [← hW1] at hcv hB ⊢
  clear hW1
  obtain ⟨bs, hL⟩ : ∃ bs, bs = t.data.toList := ⟨_, rfl⟩
  have hLn : bs.length = t.size := by rw [hL, Lib.size_eq]
  rw [← hL] at hB ⊢
  clear hL
  have hmv : IntKind.u64.wrap (IntKind.u64.wrap 65536 - 1) = 65535 := by
    rw [IntKind.wrap_u64, IntKind.wrap_u64]
    decide
  obtain ⟨X, hX⟩ : ∃ X, puL bs 0 = X := ⟨_, rfl⟩
  rw [hX]
  have HX0 := Lib.hid hX
  clear hX
  go_enter Tryz.func132, Tryz.ntmps132
  go_wp2
  go_loop [12, 13, 101] (fun vu vn vi => ∃ (k acc : Nat) (a : Int), vu = .bool false ∧ vn = .int .u64 a ∧ vi = .int .i64 k ∧ k ≤ t.size ∧ Hid (a = (acc : Int) ∧ acc ≤ 65535 ∧ puL (bs.drop k) acc = X))
    (fun _ _ vi => t.size - (intOf vi).toNat)
  case atStart => exact ⟨0, 0, 0, rfl, rfl, rfl, by omega, rfl, by omega, HX0.out⟩
  case round =>
    obtain ⟨k, acc, a, rfl, rfl, rfl, hk, hh⟩ := hrel
    obtain ⟨ha, hacc, hdec⟩ := hh.out
    clear hh
    have a0 : 0 ≤ a := by omega
    have a1 : a ≤ 65535 := by omega
    by_cases hkn : k < t.size
    · have hc := hB k hkn
      have hdrop : bs.drop k = bs[k]'(by omega) :: bs.drop (k + 1) := List.drop_eq_getElem_cons (by omega)
      have hget : bs.getD k 0 = bs[k]'(by omega) := by simp [List.getD, List.getElem?_eq_getElem (show k < bs.length by omega)]
      rw [hdrop] at hdec
      rw [hget] at hc
      generalize bs[k]'(by omega) = c at hc hdec
      have hc256 : c.toNat < 256 := c.toNat_lt
      clear hB hdrop hget
      by_cases hdig : 48 ≤ c.toNat ∧ c.toNat ≤ 57
      · have hh := hexD_dig hdig
        obtain ⟨hd0, hd1⟩ := hdig
        by_cases hov : 65535 < acc * 16 + (c.toNat - 48)
        · have hF : puL (c :: bs.drop (k + 1)) acc = none := by unfold puL; rw [hh]; simp only; rw [if_pos hov]
          obtain rfl : X = none := hdec.symm.trans hF
          have iov : 65535 < a * 16 + ((c.toNat : Int) - 48) := by omega
          clear hdec hF hov ha hh hacc
          go_wp2
          go_ret2
          exact ⟨⟨_, .inr rfl⟩, rfl⟩
        · have hF : puL (c :: bs.drop (k + 1)) acc = puL (bs.drop (k + 1)) (acc * 16 + (c.toNat - 48)) := by
            conv => lhs; unfold puL
            rw [hh]; simp only; rw [if_neg hov]
          have HN : Hid (a * 16 + ((c.toNat : Int) - 48) = ((acc * 16 + (c.toNat - 48) : Nat) : Int) ∧ acc * 16 + (c.toNat - 48) ≤ 65535 ∧ puL (bs.drop (k + 1)) (acc * 16 + (c.toNat - 48)) = X) := Lib.hid ⟨by omega, by omega, hF.symm.trans hdec⟩
          have iov : a * 16 + ((c.toNat : Int) - 48) ≤ 65535 := by omega
          clear hacc hF hov hdec ha hh
          go_wp2
          refine ⟨⟨k + 1, acc * 16 + (c.toNat - 48), a * 16 + ((c.toNat : Int) - 48), rfl, (by first | rfl | (congr 1; omega)), (by first | rfl | (congr 1; omega)), by omega, HN⟩, by simp [intOf]; omega⟩
      · have hlow := low_hex ⟨c.toNat, hc256⟩ hdig
        have hlb := low_bits ⟨c.toNat, hc256⟩
        simp only at hlow hlb
        rw [show UInt8.ofNat c.toNat = c by simp] at hlow
        obtain ⟨m, hm⟩ : ∃ m : Nat, (c.toNat ||| 32) = m := ⟨_, rfl⟩
        rw [hm] at hlow hlb
        have HLow := Lib.hid (fun (w : World) => (Tryz.internal_strconv_lower (c.toNat : Int) w).mono fun e w' (x : e = .returned (.int .u8 (bits .or .u8 (c.toNat : Int) 32)) ∧ w' = w) => (⟨x.1.trans (by rw [hlb]), x.2⟩ : e = .returned (.int .u8 (m : Int)) ∧ w' = w))
        have hm256 : m < 256 := by rw [← hm]; exact Nat.or_lt_two_pow (n := 8) hc256 (by decide)
        have hdz : ¬ ((48 : Int) ≤ (c.toNat : Int) ∧ (c.toNat : Int) ≤ 57) := by omega
        clear hm hlb
        rcases hlow with ⟨hh, h1, h2⟩ | ⟨hh, h1⟩
        · obtain ⟨d, hdm⟩ : ∃ d, m - 87 = d := ⟨_, rfl⟩
          rw [hdm] at hh
          have h3 : m = d + 87 := by omega
          have q95 : ((c.toNat : Int) == 95) = false := beq_eq_false_iff_ne.2 (fun e => by
            have e : c.toNat = 95 := by omega
            unfold hexD at hh
            rw [if_neg (by omega), if_neg (by omega), if_neg (by omega)] at hh
            cases hh)
          clear hdm
          have hd16 : d < 16 := hexD_lt hh
          have i1 : (97 : Int) ≤ (m : Int) := by omega
          have i2 : (m : Int) ≤ 102 := by omega
          by_cases hov : 65535 < acc * 16 + d
          · have hF : puL (c :: bs.drop (k + 1)) acc = none := by unfold puL; rw [hh]; simp only; rw [if_pos hov]
            obtain rfl : X = none := hdec.symm.trans hF
            have iov : 65535 < a * 16 + ((m : Int) - 97 + 10) := by omega
            clear hdec hF hov ha hh hacc h3 h1 h2 hd16
            go_wp2_with (go_at_call 139; refine (HLow.out _).mono ?_; rintro e w' ⟨rfl, rfl⟩)
            all_goals go_ret2
            all_goals exact ⟨⟨_, .inr rfl⟩, rfl⟩
          · have hF : puL (c :: bs.drop (k + 1)) acc = puL (bs.drop (k + 1)) (acc * 16 + d) := by
              conv => lhs; unfold puL
              rw [hh]; simp only; rw [if_neg hov]
            have HN : Hid (a * 16 + ((m : Int) - 97 + 10) = ((acc * 16 + d : Nat) : Int) ∧ acc * 16 + d ≤ 65535 ∧ puL (bs.drop (k + 1)) (acc * 16 + d) = X) := Lib.hid ⟨by omega, by omega, hF.symm.trans hdec⟩
            have iov : a * 16 + ((m : Int) - 97 + 10) ≤ 65535 := by omega
            clear hacc hF hov hdec ha hh h3 h1 h2 hd16
            go_wp2_with (go_at_call 139; refine (HLow.out _).mono ?_; rintro e w' ⟨rfl, rfl⟩)
            all_goals refine ⟨⟨k + 1, acc * 16 + d, a * 16 + ((m : Int) - 97 + 10), rfl, (by first | rfl | (congr 1; omega)), (by first | rfl | (congr 1; omega)), by omega, HN⟩, by simp [intOf]; omega⟩
        · have hF : puL (c :: bs.drop (k + 1)) acc = none := by unfold puL; rw [hh]
          obtain rfl : X = none := hdec.symm.trans hF
          have i1 : (0 : Int) ≤ (m : Int) := by omega
          have i2 : (m : Int) ≤ 255 := by omega
          have i3 : (m : Int) < 97 ∨ (122 : Int) < (m : Int) ∨ ((97 : Int) ≤ (m : Int) ∧ (103 : Int) ≤ (m : Int) ∧ (m : Int) ≤ 122) := by omega
          clear hdec hF hh hacc ha h1
          by_cases h95 : (c.toNat : Int) = 95
          · have q95 : ((c.toNat : Int) == 95) = true := beq_iff_eq.2 h95
            have HL95 := Lib.hid (fun (w : World) => (Tryz.internal_strconv_lower 95 w).mono fun e w' (x : e = .returned (.int .u8 (bits .or .u8 95 32)) ∧ w' = w) => (⟨x.1.trans (by rw [show bits .or .u8 95 32 = 127 from by decide]), x.2⟩ : e = .returned (.int .u8 127) ∧ w' = w))
            clear i3 i1 i2 HLow
            go_wp2_with (go_at_call 139; refine (HL95.out _).mono ?_; rintro e w' ⟨rfl, rfl⟩)
            all_goals go_ret2
            all_goals exact ⟨⟨_, .inl rfl⟩, rfl⟩
          · have q95 : ((c.toNat : Int) == 95) = false := beq_eq_false_iff_ne.2 h95
            clear h95
            rcases i3 with i3 | i3 | ⟨i3, i4, i5⟩
            all_goals
              go_wp2_with (go_at_call 139; refine (HLow.out _).mono ?_; rintro e w' ⟨rfl, rfl⟩)
              all_goals go_ret2
              all_goals exact ⟨⟨_, .inl rfl⟩, rfl⟩
    · have hkk : k = t.size := by omega
      subst hkk
      have hF : puL (bs.drop t.size) acc = some acc := by rw [List.drop_eq_nil_of_le (by omega)]; rfl
      obtain rfl : X = some acc := hdec.symm.trans hF
      subst ha
      clear hacc hF a0 a1 hdec
      go_wp2
      go_ret2
      exact ⟨rfl, rfl⟩
end Go.Proofs.YtnmfoedfllmclaaGreatDoor
