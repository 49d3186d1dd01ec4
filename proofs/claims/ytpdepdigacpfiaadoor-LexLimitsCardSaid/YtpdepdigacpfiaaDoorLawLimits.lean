/- LexLimits: the walk. -/
import Derived.Test.YtpdepdigacpfiaaDoorLLimSpec
import Derived.Test.YtpdepdigacpfiaaDoorLawStands
import Derived.Deep.MidRow
import Derived.OwnWalk
import Derived.Laws.IdiomStrings
namespace Go.Proofs.YtpdepdigacpfiaaDoor
open Go.RowKit Go.Shelf
set_option linter.unusedVariables false

/-- A block of 16384 bytes. -/
def Byt (w : World) (g : Nat) (f : Nat → UInt8) : Prop := ∃ cs, Blk w g cs 5 ∧ ∀ j, j < 16384 → cs[j]? = some (.int .u8 ((f j).toNat : Int))
theorem Byt.cell {w : World} {g : Nat} {f : Nat → UInt8} (h : Byt w g f) {j : Nat} (hj : j < 16384) : w.cell? ⟨g, j, none⟩ = some (.int .u8 ((f j).toNat : Int)) := by
  obtain ⟨cs, h1, h2⟩ := h
  rw [h1.cell, h2 j hj]
theorem Byt.frozen {w : World} {g : Nat} {f : Nat → UInt8} (h : Byt w g f) (j : Nat) : w.frozen? ⟨g, j, none⟩ = false := by
  obtain ⟨cs, h1, h2⟩ := h
  exact h1.frozen j
theorem Byt.lt {w : World} {g : Nat} {f : Nat → UInt8} (h : Byt w g f) : g < w.heap.size := by
  obtain ⟨cs, h1, h2⟩ := h
  exact h1.lt
theorem Byt.set {w : World} {g : Nat} {f : Nat → UInt8} (h : Byt w g f) (i : Nat) (c : UInt8) : Byt (w.setCell ⟨g, i, none⟩ (.int .u8 (c.toNat : Int))) g (fun j => if j = i then c else f j) := by
  obtain ⟨cs, h1, h2⟩ := h
  refine ⟨_, h1.set i _, fun j hj => ?_⟩
  have hs := (Array.getElem?_eq_some_iff.1 (h2 j hj)).1
  rw [Array.getElem?_setIfInBounds]
  by_cases e : i = j
  · subst e
    rw [if_pos rfl, if_pos hs]
    show _ = some (Value.int .u8 (((if i = i then c else f i : UInt8)).toNat : Int))
    rw [if_pos rfl]
  · rw [if_neg e]
    show _ = some (Value.int .u8 (((if j = i then c else f j : UInt8)).toNat : Int))
    rw [if_neg (Ne.symm e)]
    exact h2 j hj
theorem Byt.congr {w : World} {g : Nat} {f f' : Nat → UInt8} (h : Byt w g f) (e : ∀ j, j < 16384 → f j = f' j) : Byt w g f' := by
  obtain ⟨cs, h1, h2⟩ := h
  exact ⟨cs, h1, fun j hj => by rw [← e j hj]; exact h2 j hj⟩
theorem Byt.below {w w' : World} {g : Nat} {f : Nat → UInt8} (h : Byt w g f) (hb : Below w.heap.size w w') : Byt w' g f := by
  obtain ⟨cs, h1, h2⟩ := h
  exact ⟨cs, h1.below hb, h2⟩
theorem conv_byt {w : World} {g cap : Nat} {f : Nat → UInt8} (h : Byt w g f) : (convert 35 9 (.slice (some ⟨g, 0, none⟩) 16384 cap)).run Tryd.prog w = .ok (.string (txt f)) w := by
  have := run_convert_bytes_back (P := Tryd.prog) w 35 9 5 ⟨g, 0, none⟩ cap (lst f) Tryd.underlying35 Tryd.underlying5 Tryd.underlying9 (fun j hj => by
    rw [lst_length] at hj
    have e : (lst f)[j]'(by rw [lst_length]; exact hj) = f j := by
      have := lst_at f hj
      rw [List.getElem?_eq_getElem (by rw [lst_length]; exact hj)] at this
      exact Option.some.inj this
    rw [show (⟨g, 0, none⟩ : Addr).add j = ⟨g, j, none⟩ by unfold Addr.add; split <;> simp_all, e]
    exact h.cell hj)
  rw [lst_length] at this
  exact this
/-- The bytes so far. -/
def fill (i j : Nat) : UInt8 := if j < i then fA j else 0
theorem fill_plus {i : Nat} (h8 : i < 8192) (h2 : i % 2 = 0) (j : Nat) : (if j = i then (43 : UInt8) else if j = i then 32 else fill i j) = fill (i + 1) j := by
  unfold fill fA
  by_cases e : j = i
  · subst e
    rw [if_pos rfl, if_pos (by omega), if_pos ⟨h8, h2⟩]
  · rw [if_neg e, if_neg e]
    by_cases h : j < i
    · rw [if_pos h, if_pos (show j < i + 1 by omega)]
    · rw [if_neg h, if_neg (show ¬ j < i + 1 by omega)]
theorem fill_blank {i : Nat} (h : ¬ (i < 8192 ∧ i % 2 = 0)) (j : Nat) : (if j = i then (32 : UInt8) else fill i j) = fill (i + 1) j := by
  unfold fill fA
  by_cases e : j = i
  · subst e
    rw [if_pos rfl, if_pos (by omega), if_neg h]
  · rw [if_neg e]
    by_cases h : j < i
    · rw [if_pos h, if_pos (show j < i + 1 by omega)]
    · rw [if_neg h, if_neg (show ¬ j < i + 1 by omega)]
theorem Byt.ne {w : World} {g : Nat} {f : Nat → UInt8} (h : Byt w g f) {cs : Array Value} {t : TypeId} (hb : Blk w g cs t) (ht : t ≠ 5) : False := by
  obtain ⟨cs', h1, -⟩ := h
  have := (show w.heap[g]? = _ from h1).symm.trans hb
  injection this with this
  injection this with _ h2
  exact ht h2.symm
theorem Byt.made {w : World} {lo g n : Nat} (h : w.ownsRow lo 5 1 (.slice (some ⟨g, 0, none⟩) n n) n (madeCells (Value.int .u8 0).cells (n * 1)).toList) (hn : n = 16384) : Byt w g (fill 0) := by
  subst hn
  have e : (madeCells (Value.int .u8 0).cells (16384 * 1)).toList = List.replicate 16384 (.int .u8 0) := by
    show (madeCells #[.int .u8 0] (16384 * 1)).toList = _
    rw [toList_madeCells_one]
  rw [e] at h
  obtain ⟨h1, ⟨h2, h3⟩ | ⟨g', cap, cur, h2, h3, h4, h5, h6, h7, h8⟩⟩ := h
  · cases h2
  · injection h2 with h2 _ h2c
    injection h2 with h2
    injection h2 with h2
    subst h2
    subst h2c
    refine ⟨cur, h4, fun j hj => ?_⟩
    rw [List.take_of_length_le (by simp [h7])] at h8
    have : cur.toList[j]? = some (.int .u8 0) := by rw [h8, List.getElem?_replicate, if_pos hj]
    simpa [fill] using this
theorem setCell_below {B : Nat} {W w : World} {p : Addr} (h : Below B W w) (hp : B ≤ p.block) (u : Value) : Below B W (w.setCell p u) := h.setCell hp u

set_option maxRecDepth 100000 in
set_option maxHeartbeats 8000000 in
theorem limits_zero {W : World} (x : Int) {n : Nat} (hn : n < 40) (hu : wrap64 ((IntKind.u64.wrap x).tmod 40) = (n : Int)) (h0 : n = 0) (hW : Ready W) : Calls Tryd.prog 5 #[.int .i64 x] W fun e w' => e = .returned (.bool true) ∧ Below W.heap.size W w' := by
  have HA := Lib.hid (awake_true hW)
  have HW := Lib.hid hW
  clear hW
  go_enter Tryd.func5, Tryd.ntmps5
  go_wp2_with fail
  go_at_call 7; refine HA.out.mono ?_; rintro e w1 ⟨rfl, hb1⟩
  have HB1 := Lib.hid hb1
  have HW1 := Lib.hid (HW.out.below hb1)
  clear hb1
  go_wp2_with fail
  go_loopg [3, 4, 5] 40 (fun gf s3 s4 s5 wx => ∃ k : Nat, s3 = .string (opnB k) ∧ s4 = .string (shtB k) ∧ s5 = .int .i64 ((k : Int) + 1) ∧ wx = w1 ∧ n ≤ k + 1 + gf ∧ (k = 0 ∨ k + 1 ≤ n))
  case atStart => exact ⟨0, rfl, rfl, rfl, rfl, by omega, .inl rfl⟩
  case round =>
    obtain ⟨k, rfl, rfl, rfl, rfl, hfu, hk⟩ := hrel
    by_cases hkn : k + 1 < n
    · exact absurd hkn (by omega)
    · have q1 : ¬ ((k : Int) + 1) < (n : Int) := by omega
      have z1 := opn_size k
      have z2 := sht_size k
      obtain rfl : k = 0 := by omega
      have q0 : ((n : Int) == 0) = true := beq_iff_eq.2 (by omega)
      have q2 : (n : Int) ≤ 24 := by omega
      have hbr := br_zero
      unfold brB at hbr
      obtain ⟨l0, hl0⟩ := brOk_ok hbr (by omega)
      have HS := Lib.hid (scan_ok HW1.out hl0)
      clear hbr hl0
      go_wp2_with fail
      go_at_call 8; refine HS.out.mono ?_; rintro e w2 ⟨v2, rfl, -, hb2⟩
      have HB2 := Lib.hid (HB1.out.trans (hb2.mono HB1.out.size))
      have HW2 := Lib.hid (HW1.out.below hb2)
      clear hb2 HS HA
      obtain ⟨i0, hi, hz0, hz1, hz2⟩ := info_parts infoU8
      go_wp2_with (at_make; refine wpList_make_full _ rfl _ _ 35 rfl W.heap.size 5 i0 (.int .u8 0) 1 Tryd.underlying35 hi hz0 hz1 .i64 .i64 16384 16384 16384 rfl rfl rfl rfl (by rw [hz2]; omega) (by unfold maxLen; omega) HB2.out.size ?_; intro w3 hown hgrow)
      obtain ⟨g, hg⟩ : ∃ g, w2.heap.size = g := ⟨_, rfl⟩
      rw [hg] at hown ⊢
      have HG : Hid (W.heap.size ≤ g) := Lib.hid (by have := HB2.out.size; omega)
      have HY := Lib.hid (Byt.made hown rfl)
      have HB3 := Lib.hid (HB2.out.grown hgrow HB2.out.size (fun k hk => by cases hk))
      clear hown hgrow hi hz0 hz1 hz2 hg
      go_wp2_with fail
      go_loopg [69] 16384 (fun gf s69 wx => ∃ i : Nat, s69 = .int .i64 (i : Int) ∧ Hid (Below W.heap.size W wx) ∧ Hid (Byt wx g (fill i)) ∧ i + gf = 16384)
      case atStart => exact ⟨0, rfl, HB3, HY, by omega⟩
      case round =>
        obtain ⟨i, rfl, HBi, HYi, hfi⟩ := hrel
        by_cases hi : i < 16384
        · obtain ⟨g', rfl⟩ : ∃ g', gk = g' + 1 := ⟨gk - 1, by omega⟩
          have c1 := HYi.out.cell hi
          have c2 := HYi.out.frozen i
          have HS1 := HYi.out.set i 32
          have c3 := HS1.cell hi
          have c4 := HS1.frozen i
          have j1 : (i : Int) < 16384 := by omega
          have HSS := Lib.hid HS1
          have HBS := Lib.hid (setCell_below (p := ⟨g, i, none⟩) HBi.out HG.out (.int .u8 32))
          clear HS1
          by_cases h8 : i < 8192
          · have j2 : (i : Int) < 8192 := by omega
            by_cases h2 : i % 2 = 0
            · have j3 : ((i : Int) % 2 == 0) = true := beq_iff_eq.2 (by omega)
              go_wp2_with fail
              go_roundg g'
              case measure => omega
              case rel => exact ⟨i + 1, by push_cast; rfl, Lib.hid (setCell_below (p := ⟨g, i, none⟩) HBS.out HG.out _), Lib.hid ((HSS.out.set i 43).congr (fun j hj => fill_plus h8 h2 j)), by omega⟩
            · have j3 : ((i : Int) % 2 == 0) = false := beq_eq_false_iff_ne.2 (by omega)
              go_wp2_with fail
              go_roundg g'
              case measure => omega
              case rel => exact ⟨i + 1, by push_cast; rfl, HBS, Lib.hid (HSS.out.congr (fun j hj => fill_blank (fun h => h2 h.2) j)), by omega⟩
          · have j2 : ¬ (i : Int) < 8192 := by omega
            go_wp2_with fail
            go_roundg g'
            case measure => omega
            case rel => exact ⟨i + 1, by push_cast; rfl, HBS, Lib.hid (HSS.out.congr (fun j hj => fill_blank (fun h => h8 h.1) j)), by omega⟩
        · obtain rfl : i = 16384 := by omega
          have HYA := Lib.hid (HYi.out.congr (f' := fA) (fun j hj => by unfold fill; rw [if_pos hj]))
          have hcv := conv_byt (cap := 16384) HYA.out
          obtain ⟨l1, hl1⟩ := scanA
          have HS := Lib.hid (scan_ok (HW.out.below HBi.out) hl1)
          clear HYi hl1 HB3 HY
          go_wp2_with fail
          go_at_call 8; refine HS.out.mono ?_; rintro e w4 ⟨v4, rfl, -, hb4⟩
          have HB4 := Lib.hid (HBi.out.trans (hb4.mono HBi.out.size))
          have HY4 := HYA.out.below hb4
          have k1 := HY4.cell (j := 16383) (by omega)
          have k2 := HY4.frozen 16383
          have HY5 : Hid (Byt (w4.setCell ⟨g, 16383, none⟩ (.int .u8 44)) g fB) := Lib.hid ((HY4.set 16383 44).congr (fun j hj => rfl))
          have HB5 := Lib.hid (setCell_below (p := ⟨g, 16383, none⟩) HB4.out HG.out (.int .u8 44))
          have hcv5 := conv_byt (cap := 16384) HY5.out
          have HS5 := Lib.hid (scan_err (HW.out.below HB5.out) scanB)
          clear HY4 hb4 HS hcv HYA HBi
          go_wp2_with fail
          go_at_call 8; refine HS5.out.mono ?_; rintro e w6 ⟨D6, rfl, hbl6, hb6⟩
          have HB6 := Lib.hid (HB5.out.trans (hb6.mono HB5.out.size))
          have HY6 := HY5.out.below hb6
          have hne : D6 ≠ g := fun e => HY6.ne (by rw [← e]; exact hbl6) (by decide)
          have hbl6' := Lib.hid hbl6
          have k3 := HY6.cell (j := 0) (by omega)
          have k4 := HY6.frozen 0
          have HY7 : Hid (Byt (w6.setCell ⟨g, 0, none⟩ (.int .u8 32)) g (fC 0)) := Lib.hid ((HY6.set 0 32).congr (fun j hj => by unfold fC; rfl))
          have HB7 := Lib.hid (setCell_below (p := ⟨g, 0, none⟩) HB6.out HG.out (.int .u8 32))
          have HD6 := Lib.hid (hbl6.other (p := ⟨g, 0, none⟩) hne (.int .u8 32))
          have hcv7 := conv_byt (cap := 16384) HY7.out
          obtain ⟨l7, hl7⟩ := scanC (n := 0) (by omega)
          have HS7 := Lib.hid (scan_ok (HW.out.below HB7.out) hl7)
          clear hbl6 hbl6' hb6 HY6 hne HS5 hcv5 HY5 HB5 hl7 HB6
          go_wp2_with fail
          go_at_call 8; refine HS7.out.mono ?_; rintro e w8 ⟨v8, rfl, -, hb8⟩
          have HB8 := Lib.hid (HB7.out.trans (hb8.mono HB7.out.size))
          have HD8 := Lib.hid (HD6.out.below hb8)
          have HY8 := HY7.out.below hb8
          have hcv8 := conv_byt (cap := 16384) HY8
          have z8 := txt_size (fC 0)
          have HS8 := Lib.hid (scan_err (HW.out.below HB8.out) (scanD (t := txt (fC 0) ++ ⟨#[32]⟩) (by rw [ByteArray.size_append, z8]; rfl)))
          clear hb8 HY8 hcv7 HS7 HY7 HD6 HB7
          go_wp2_with fail
          go_at_call 8; refine HS8.out.mono ?_; rintro e w9 ⟨D9, rfl, hbl9, hb9⟩
          have HB9 := Lib.hid (HB8.out.trans (hb9.mono HB8.out.size))
          have HD9 := Lib.hid (HD8.out.below hb9)
          have HE9 := Lib.hid hbl9
          clear hb9 hbl9 HS8 hcv8 HB8 HD8 z8
          go_wp2_with fail
          go_loopg [17, 18] 100 (fun gf s17 s18 wx => ∃ i : Nat, s17 = .string (ninesB i) ∧ s18 = .int .i64 (i : Int) ∧ wx = w9 ∧ i + gf = 100)
          case atStart => exact ⟨0, rfl, rfl, rfl, rfl⟩
          case round =>
            obtain ⟨i, rfl, rfl, rfl, hfi⟩ := hrel
            have z3 := nines_size i
            by_cases hi : i < 100
            · obtain ⟨g', rfl⟩ : ∃ g', gk = g' + 1 := ⟨gk - 1, by omega⟩
              have j1 : (i : Int) < 100 := by omega
              go_wp2_with fail
              go_roundg g'
              case measure => omega
              case rel => exact ⟨i + 1, rfl, by push_cast; rfl, rfl, by omega⟩
            · obtain rfl : i = 100 := by omega
              have hE := scanE
              have hF := scanF
              have hG := scanG
              unfold nm32 at hE hF
              obtain ⟨nn, hnn⟩ : ∃ nn, ninesB 100 = nn := ⟨_, rfl⟩
              rw [hnn] at hE hG z3 ⊢
              obtain ⟨lE, hE⟩ := hE
              have HS10 := Lib.hid (scan_ok (HW.out.below HB9.out) hE)
              have HF := Lib.hid hF
              have HGG := Lib.hid hG
              clear hE hF hG hnn
              go_wp2_with fail
              go_at_call 8; refine HS10.out.mono ?_; rintro e w10 ⟨v10, rfl, -, hb10⟩
              have HB10 := Lib.hid (HB9.out.trans (hb10.mono HB9.out.size))
              have HD10 := Lib.hid (HD9.out.below hb10)
              have HE10 := Lib.hid (HE9.out.below hb10)
              have HS11 := Lib.hid (scan_err (HW.out.below HB10.out) HF.out)
              clear hb10 HS10 HD9 HE9 HF
              go_wp2_with fail
              go_at_call 8; refine HS11.out.mono ?_; rintro e w11 ⟨D11, rfl, hbl11, hb11⟩
              have HB11 := Lib.hid (HB10.out.trans (hb11.mono HB10.out.size))
              have HD11 := Lib.hid (HD10.out.below hb11)
              have HE11 := Lib.hid (HE10.out.below hb11)
              have HH11 := Lib.hid hbl11
              have HS12 := Lib.hid (scan_err (HW.out.below HB11.out) HGG.out)
              clear hb11 HS11 HD10 HE10 hbl11 HGG
              go_wp2_with fail
              go_at_call 8; refine HS12.out.mono ?_; rintro e w12 ⟨D12, rfl, hbl12, hb12⟩
              have HB12 := Lib.hid (HB11.out.trans (hb12.mono HB11.out.size))
              have HI1 := Lib.hid (is_same (HD11.out.below hb12) (by decide))
              have HE12 := Lib.hid (HE11.out.below hb12)
              have HH12 := Lib.hid (HH11.out.below hb12)
              have HK12 := Lib.hid hbl12
              clear hb12 HS12 HD11 HE11 hbl12 HH11
              go_wp2_with fail
              go_at_call 10; refine HI1.out.mono ?_; rintro e w13 ⟨rfl, hb13⟩
              have HB13 := Lib.hid (HB12.out.trans (hb13.mono HB12.out.size))
              have HI2 := Lib.hid (is_same (HE12.out.below hb13) (by decide))
              have HH13 := Lib.hid (HH12.out.below hb13)
              have HK13 := Lib.hid (HK12.out.below hb13)
              clear hb13 HI1 HE12 HH12 HK12
              go_wp2_with fail
              go_at_call 10; refine HI2.out.mono ?_; rintro e w14 ⟨rfl, hb14⟩
              have HB14 := Lib.hid (HB13.out.trans (hb14.mono HB13.out.size))
              have HI3 := Lib.hid (is_same (HH13.out.below hb14) (by decide))
              have HK14 := Lib.hid (HK13.out.below hb14)
              clear hb14 HI2 HH13 HK13
              go_wp2_with fail
              go_at_call 10; refine HI3.out.mono ?_; rintro e w15 ⟨rfl, hb15⟩
              have HB15 := Lib.hid (HB14.out.trans (hb15.mono HB14.out.size))
              have HI4 := Lib.hid (is_same (HK14.out.below hb15) (by decide))
              clear hb15 HI3 HK14
              go_wp2_with fail
              go_at_call 10; refine HI4.out.mono ?_; rintro e w16 ⟨rfl, hb16⟩
              have HB16 := Lib.hid (HB15.out.trans (hb16.mono HB15.out.size))
              clear hb16 HI4
              go_wp2
              go_ret
              exact ⟨rfl, HB16.out⟩
set_option maxRecDepth 100000 in
set_option maxHeartbeats 8000000 in
theorem limits_low {W : World} (x : Int) {n : Nat} (hn : n < 40) (hu : wrap64 ((IntKind.u64.wrap x).tmod 40) = (n : Int)) (h0 : 1 ≤ n) (h1 : n ≤ 24) (hW : Ready W) : Calls Tryd.prog 5 #[.int .i64 x] W fun e w' => e = .returned (.bool true) ∧ Below W.heap.size W w' := by
  have HA := Lib.hid (awake_true hW)
  have HW := Lib.hid hW
  clear hW
  go_enter Tryd.func5, Tryd.ntmps5
  go_wp2_with fail
  go_at_call 7; refine HA.out.mono ?_; rintro e w1 ⟨rfl, hb1⟩
  have HB1 := Lib.hid hb1
  have HW1 := Lib.hid (HW.out.below hb1)
  clear hb1
  go_wp2_with fail
  go_loopg [3, 4, 5] 40 (fun gf s3 s4 s5 wx => ∃ k : Nat, s3 = .string (opnB k) ∧ s4 = .string (shtB k) ∧ s5 = .int .i64 ((k : Int) + 1) ∧ wx = w1 ∧ n ≤ k + 1 + gf ∧ (k = 0 ∨ k + 1 ≤ n))
  case atStart => exact ⟨0, rfl, rfl, rfl, rfl, by omega, .inl rfl⟩
  case round =>
    obtain ⟨k, rfl, rfl, rfl, rfl, hfu, hk⟩ := hrel
    by_cases hkn : k + 1 < n
    · obtain ⟨g', rfl⟩ : ∃ g', gk = g' + 1 := ⟨gk - 1, by omega⟩
      have q1 : ((k : Int) + 1) < (n : Int) := by omega
      have z1 : ¬ 9223372036854775807 < (opnB k).size + 1 := by rw [opn_size]; omega
      have z2 : ¬ 9223372036854775807 < (shtB k).size + 1 := by rw [sht_size]; omega
      go_wp2_with fail
      go_roundg g'
      case measure => omega
      case rel => exact ⟨k + 1, rfl, rfl, by push_cast; rfl, rfl, by omega, .inr (by omega)⟩
    · have q1 : ¬ ((k : Int) + 1) < (n : Int) := by omega
      have z1 := opn_size k
      have z2 := sht_size k
      obtain rfl : n = k + 1 := by omega
      have hbr := List.all_eq_true.1 br_all k (List.mem_range.2 (by omega))
      unfold brB at hbr
      have q0 : ((k : Int) + 1 == 0) = false := beq_eq_false_iff_ne.2 (by omega)
      have q2 : (k : Int) + 1 ≤ 24 := by omega
      obtain ⟨l0, hl0⟩ := brOk_ok hbr (by omega)
      have HS := Lib.hid (scan_ok HW1.out hl0)
      clear hbr hl0
      go_wp2_with fail
      go_at_call 8; refine HS.out.mono ?_; rintro e w2 ⟨v2, rfl, -, hb2⟩
      have HB2 := Lib.hid (HB1.out.trans (hb2.mono HB1.out.size))
      have HW2 := Lib.hid (HW1.out.below hb2)
      clear hb2 HS HA
      obtain ⟨i0, hi, hz0, hz1, hz2⟩ := info_parts infoU8
      go_wp2_with (at_make; refine wpList_make_full _ rfl _ _ 35 rfl W.heap.size 5 i0 (.int .u8 0) 1 Tryd.underlying35 hi hz0 hz1 .i64 .i64 16384 16384 16384 rfl rfl rfl rfl (by rw [hz2]; omega) (by unfold maxLen; omega) HB2.out.size ?_; intro w3 hown hgrow)
      obtain ⟨g, hg⟩ : ∃ g, w2.heap.size = g := ⟨_, rfl⟩
      rw [hg] at hown ⊢
      have HG : Hid (W.heap.size ≤ g) := Lib.hid (by have := HB2.out.size; omega)
      have HY := Lib.hid (Byt.made hown rfl)
      have HB3 := Lib.hid (HB2.out.grown hgrow HB2.out.size (fun k hk => by cases hk))
      clear hown hgrow hi hz0 hz1 hz2 hg
      go_wp2_with fail
      go_loopg [69] 16384 (fun gf s69 wx => ∃ i : Nat, s69 = .int .i64 (i : Int) ∧ Hid (Below W.heap.size W wx) ∧ Hid (Byt wx g (fill i)) ∧ i + gf = 16384)
      case atStart => exact ⟨0, rfl, HB3, HY, by omega⟩
      case round =>
        obtain ⟨i, rfl, HBi, HYi, hfi⟩ := hrel
        by_cases hi : i < 16384
        · obtain ⟨g', rfl⟩ : ∃ g', gk = g' + 1 := ⟨gk - 1, by omega⟩
          have c1 := HYi.out.cell hi
          have c2 := HYi.out.frozen i
          have HS1 := HYi.out.set i 32
          have c3 := HS1.cell hi
          have c4 := HS1.frozen i
          have j1 : (i : Int) < 16384 := by omega
          have HSS := Lib.hid HS1
          have HBS := Lib.hid (setCell_below (p := ⟨g, i, none⟩) HBi.out HG.out (.int .u8 32))
          clear HS1
          by_cases h8 : i < 8192
          · have j2 : (i : Int) < 8192 := by omega
            by_cases h2 : i % 2 = 0
            · have j3 : ((i : Int) % 2 == 0) = true := beq_iff_eq.2 (by omega)
              go_wp2_with fail
              go_roundg g'
              case measure => omega
              case rel => exact ⟨i + 1, by push_cast; rfl, Lib.hid (setCell_below (p := ⟨g, i, none⟩) HBS.out HG.out _), Lib.hid ((HSS.out.set i 43).congr (fun j hj => fill_plus h8 h2 j)), by omega⟩
            · have j3 : ((i : Int) % 2 == 0) = false := beq_eq_false_iff_ne.2 (by omega)
              go_wp2_with fail
              go_roundg g'
              case measure => omega
              case rel => exact ⟨i + 1, by push_cast; rfl, HBS, Lib.hid (HSS.out.congr (fun j hj => fill_blank (fun h => h2 h.2) j)), by omega⟩
          · have j2 : ¬ (i : Int) < 8192 := by omega
            go_wp2_with fail
            go_roundg g'
            case measure => omega
            case rel => exact ⟨i + 1, by push_cast; rfl, HBS, Lib.hid (HSS.out.congr (fun j hj => fill_blank (fun h => h8 h.1) j)), by omega⟩
        · obtain rfl : i = 16384 := by omega
          have HYA := Lib.hid (HYi.out.congr (f' := fA) (fun j hj => by unfold fill; rw [if_pos hj]))
          have hcv := conv_byt (cap := 16384) HYA.out
          obtain ⟨l1, hl1⟩ := scanA
          have HS := Lib.hid (scan_ok (HW.out.below HBi.out) hl1)
          clear HYi hl1 HB3 HY
          go_wp2_with fail
          go_at_call 8; refine HS.out.mono ?_; rintro e w4 ⟨v4, rfl, -, hb4⟩
          have HB4 := Lib.hid (HBi.out.trans (hb4.mono HBi.out.size))
          have HY4 := HYA.out.below hb4
          have k1 := HY4.cell (j := 16383) (by omega)
          have k2 := HY4.frozen 16383
          have HY5 : Hid (Byt (w4.setCell ⟨g, 16383, none⟩ (.int .u8 44)) g fB) := Lib.hid ((HY4.set 16383 44).congr (fun j hj => rfl))
          have HB5 := Lib.hid (setCell_below (p := ⟨g, 16383, none⟩) HB4.out HG.out (.int .u8 44))
          have hcv5 := conv_byt (cap := 16384) HY5.out
          have HS5 := Lib.hid (scan_err (HW.out.below HB5.out) scanB)
          clear HY4 hb4 HS hcv HYA HBi
          go_wp2_with fail
          go_at_call 8; refine HS5.out.mono ?_; rintro e w6 ⟨D6, rfl, hbl6, hb6⟩
          have HB6 := Lib.hid (HB5.out.trans (hb6.mono HB5.out.size))
          have HY6 := HY5.out.below hb6
          have hne : D6 ≠ g := fun e => HY6.ne (by rw [← e]; exact hbl6) (by decide)
          have hbl6' := Lib.hid hbl6
          obtain ⟨m, hm⟩ : ∃ m, m = 2 * (k + 1) := ⟨_, rfl⟩
          have hmm : (2 : Int) * ((k : Int) + 1) = (m : Int) := by omega
          have hm0 : (m : Int) < 16384 := by omega
          have HMM := Lib.hid hm
          clear hm
          have hmw : wrap64 (m : Int) = (m : Int) := IntWalk.wrap64_in _ (by omega)
          have k3 := HY6.cell (j := m) (by omega)
          have k4 := HY6.frozen m
          have HY7 : Hid (Byt (w6.setCell ⟨g, m, none⟩ (.int .u8 32)) g (fC (k + 1))) := Lib.hid ((HY6.set m 32).congr (fun j hj => by unfold fC; rw [← HMM.out]))
          have HB7 := Lib.hid (setCell_below (p := ⟨g, m, none⟩) HB6.out HG.out (.int .u8 32))
          have HD6 := Lib.hid (hbl6.other (p := ⟨g, m, none⟩) hne (.int .u8 32))
          have hcv7 := conv_byt (cap := 16384) HY7.out
          obtain ⟨l7, hl7⟩ := scanC (n := (k + 1)) (by omega)
          have HS7 := Lib.hid (scan_ok (HW.out.below HB7.out) hl7)
          clear hbl6 hbl6' hb6 HY6 hne HS5 hcv5 HY5 HB5 hl7 HB6
          go_wp2_with fail
          go_at_call 8; refine HS7.out.mono ?_; rintro e w8 ⟨v8, rfl, -, hb8⟩
          have HB8 := Lib.hid (HB7.out.trans (hb8.mono HB7.out.size))
          have HD8 := Lib.hid (HD6.out.below hb8)
          have HY8 := HY7.out.below hb8
          have hcv8 := conv_byt (cap := 16384) HY8
          have z8 := txt_size (fC (k + 1))
          have HS8 := Lib.hid (scan_err (HW.out.below HB8.out) (scanD (t := txt (fC (k + 1)) ++ ⟨#[32]⟩) (by rw [ByteArray.size_append, z8]; rfl)))
          clear hb8 HY8 hcv7 HS7 HY7 HD6 HB7
          go_wp2_with fail
          go_at_call 8; refine HS8.out.mono ?_; rintro e w9 ⟨D9, rfl, hbl9, hb9⟩
          have HB9 := Lib.hid (HB8.out.trans (hb9.mono HB8.out.size))
          have HD9 := Lib.hid (HD8.out.below hb9)
          have HE9 := Lib.hid hbl9
          clear hb9 hbl9 HS8 hcv8 HB8 HD8 z8
          go_wp2_with fail
          go_loopg [17, 18] 100 (fun gf s17 s18 wx => ∃ i : Nat, s17 = .string (ninesB i) ∧ s18 = .int .i64 (i : Int) ∧ wx = w9 ∧ i + gf = 100)
          case atStart => exact ⟨0, rfl, rfl, rfl, rfl⟩
          case round =>
            obtain ⟨i, rfl, rfl, rfl, hfi⟩ := hrel
            have z3 := nines_size i
            by_cases hi : i < 100
            · obtain ⟨g', rfl⟩ : ∃ g', gk = g' + 1 := ⟨gk - 1, by omega⟩
              have j1 : (i : Int) < 100 := by omega
              go_wp2_with fail
              go_roundg g'
              case measure => omega
              case rel => exact ⟨i + 1, rfl, by push_cast; rfl, rfl, by omega⟩
            · obtain rfl : i = 100 := by omega
              have hE := scanE
              have hF := scanF
              have hG := scanG
              unfold nm32 at hE hF
              obtain ⟨nn, hnn⟩ : ∃ nn, ninesB 100 = nn := ⟨_, rfl⟩
              rw [hnn] at hE hG z3 ⊢
              obtain ⟨lE, hE⟩ := hE
              have HS10 := Lib.hid (scan_ok (HW.out.below HB9.out) hE)
              have HF := Lib.hid hF
              have HGG := Lib.hid hG
              clear hE hF hG hnn
              go_wp2_with fail
              go_at_call 8; refine HS10.out.mono ?_; rintro e w10 ⟨v10, rfl, -, hb10⟩
              have HB10 := Lib.hid (HB9.out.trans (hb10.mono HB9.out.size))
              have HD10 := Lib.hid (HD9.out.below hb10)
              have HE10 := Lib.hid (HE9.out.below hb10)
              have HS11 := Lib.hid (scan_err (HW.out.below HB10.out) HF.out)
              clear hb10 HS10 HD9 HE9 HF
              go_wp2_with fail
              go_at_call 8; refine HS11.out.mono ?_; rintro e w11 ⟨D11, rfl, hbl11, hb11⟩
              have HB11 := Lib.hid (HB10.out.trans (hb11.mono HB10.out.size))
              have HD11 := Lib.hid (HD10.out.below hb11)
              have HE11 := Lib.hid (HE10.out.below hb11)
              have HH11 := Lib.hid hbl11
              have HS12 := Lib.hid (scan_err (HW.out.below HB11.out) HGG.out)
              clear hb11 HS11 HD10 HE10 hbl11 HGG
              go_wp2_with fail
              go_at_call 8; refine HS12.out.mono ?_; rintro e w12 ⟨D12, rfl, hbl12, hb12⟩
              have HB12 := Lib.hid (HB11.out.trans (hb12.mono HB11.out.size))
              have HI1 := Lib.hid (is_same (HD11.out.below hb12) (by decide))
              have HE12 := Lib.hid (HE11.out.below hb12)
              have HH12 := Lib.hid (HH11.out.below hb12)
              have HK12 := Lib.hid hbl12
              clear hb12 HS12 HD11 HE11 hbl12 HH11
              go_wp2_with fail
              go_at_call 10; refine HI1.out.mono ?_; rintro e w13 ⟨rfl, hb13⟩
              have HB13 := Lib.hid (HB12.out.trans (hb13.mono HB12.out.size))
              have HI2 := Lib.hid (is_same (HE12.out.below hb13) (by decide))
              have HH13 := Lib.hid (HH12.out.below hb13)
              have HK13 := Lib.hid (HK12.out.below hb13)
              clear hb13 HI1 HE12 HH12 HK12
              go_wp2_with fail
              go_at_call 10; refine HI2.out.mono ?_; rintro e w14 ⟨rfl, hb14⟩
              have HB14 := Lib.hid (HB13.out.trans (hb14.mono HB13.out.size))
              have HI3 := Lib.hid (is_same (HH13.out.below hb14) (by decide))
              have HK14 := Lib.hid (HK13.out.below hb14)
              clear hb14 HI2 HH13 HK13
              go_wp2_with fail
              go_at_call 10; refine HI3.out.mono ?_; rintro e w15 ⟨rfl, hb15⟩
              have HB15 := Lib.hid (HB14.out.trans (hb15.mono HB14.out.size))
              have HI4 := Lib.hid (is_same (HK14.out.below hb15) (by decide))
              clear hb15 HI3 HK14
              go_wp2_with fail
              go_at_call 10; refine HI4.out.mono ?_; rintro e w16 ⟨rfl, hb16⟩
              have HB16 := Lib.hid (HB15.out.trans (hb16.mono HB15.out.size))
              clear hb16 HI4
              go_wp2
              go_ret
              exact ⟨rfl, HB16.out⟩
set_option maxRecDepth 100000 in
set_option maxHeartbeats 8000000 in
theorem limits_high {W : World} (x : Int) {n : Nat} (hn : n < 40) (hu : wrap64 ((IntKind.u64.wrap x).tmod 40) = (n : Int)) (h1 : 24 < n) (hW : Ready W) : Calls Tryd.prog 5 #[.int .i64 x] W fun e w' => e = .returned (.bool true) ∧ Below W.heap.size W w' := by
  have HA := Lib.hid (awake_true hW)
  have HW := Lib.hid hW
  clear hW
  go_enter Tryd.func5, Tryd.ntmps5
  go_wp2_with fail
  go_at_call 7; refine HA.out.mono ?_; rintro e w1 ⟨rfl, hb1⟩
  have HB1 := Lib.hid hb1
  have HW1 := Lib.hid (HW.out.below hb1)
  clear hb1
  go_wp2_with fail
  go_loopg [3, 4, 5] 40 (fun gf s3 s4 s5 wx => ∃ k : Nat, s3 = .string (opnB k) ∧ s4 = .string (shtB k) ∧ s5 = .int .i64 ((k : Int) + 1) ∧ wx = w1 ∧ n ≤ k + 1 + gf ∧ (k = 0 ∨ k + 1 ≤ n))
  case atStart => exact ⟨0, rfl, rfl, rfl, rfl, by omega, .inl rfl⟩
  case round =>
    obtain ⟨k, rfl, rfl, rfl, rfl, hfu, hk⟩ := hrel
    by_cases hkn : k + 1 < n
    · obtain ⟨g', rfl⟩ : ∃ g', gk = g' + 1 := ⟨gk - 1, by omega⟩
      have q1 : ((k : Int) + 1) < (n : Int) := by omega
      have z1 : ¬ 9223372036854775807 < (opnB k).size + 1 := by rw [opn_size]; omega
      have z2 : ¬ 9223372036854775807 < (shtB k).size + 1 := by rw [sht_size]; omega
      go_wp2_with fail
      go_roundg g'
      case measure => omega
      case rel => exact ⟨k + 1, rfl, rfl, by push_cast; rfl, rfl, by omega, .inr (by omega)⟩
    · have q1 : ¬ ((k : Int) + 1) < (n : Int) := by omega
      have z1 := opn_size k
      have z2 := sht_size k
      obtain rfl : n = k + 1 := by omega
      have hbr := List.all_eq_true.1 br_all k (List.mem_range.2 (by omega))
      unfold brB at hbr
      have q0 : ((k : Int) + 1 == 0) = false := beq_eq_false_iff_ne.2 (by omega)
      have q2 : ¬ (k : Int) + 1 ≤ 24 := by omega
      have q3 : (24 : Int) < (k : Int) + 1 := by omega
      have HS := Lib.hid (scan_err HW1.out (brOk_err hbr (by omega)))
      clear hbr
      go_wp2_with fail
      go_at_call 8; refine HS.out.mono ?_; rintro e w2' ⟨D, rfl, hbl, hb2'⟩
      have HB2' := Lib.hid (HB1.out.trans (hb2'.mono HB1.out.size))
      have HW2' := Lib.hid (HW1.out.below hb2')
      have HI := Lib.hid (is_same hbl (by decide))
      clear hb2' HS HA hbl
      go_wp2_with fail
      go_at_call 10; refine HI.out.mono ?_; rintro e w2 ⟨rfl, hb2⟩
      have HB2 := Lib.hid (HB2'.out.trans (hb2.mono HB2'.out.size))
      have HW2 := Lib.hid (HW2'.out.below hb2)
      clear hb2 HI HB2' HW2'
      obtain ⟨i0, hi, hz0, hz1, hz2⟩ := info_parts infoU8
      go_wp2_with (at_make; refine wpList_make_full _ rfl _ _ 35 rfl W.heap.size 5 i0 (.int .u8 0) 1 Tryd.underlying35 hi hz0 hz1 .i64 .i64 16384 16384 16384 rfl rfl rfl rfl (by rw [hz2]; omega) (by unfold maxLen; omega) HB2.out.size ?_; intro w3 hown hgrow)
      obtain ⟨g, hg⟩ : ∃ g, w2.heap.size = g := ⟨_, rfl⟩
      rw [hg] at hown ⊢
      have HG : Hid (W.heap.size ≤ g) := Lib.hid (by have := HB2.out.size; omega)
      have HY := Lib.hid (Byt.made hown rfl)
      have HB3 := Lib.hid (HB2.out.grown hgrow HB2.out.size (fun k hk => by cases hk))
      clear hown hgrow hi hz0 hz1 hz2 hg
      go_wp2_with fail
      go_loopg [69] 16384 (fun gf s69 wx => ∃ i : Nat, s69 = .int .i64 (i : Int) ∧ Hid (Below W.heap.size W wx) ∧ Hid (Byt wx g (fill i)) ∧ i + gf = 16384)
      case atStart => exact ⟨0, rfl, HB3, HY, by omega⟩
      case round =>
        obtain ⟨i, rfl, HBi, HYi, hfi⟩ := hrel
        by_cases hi : i < 16384
        · obtain ⟨g', rfl⟩ : ∃ g', gk = g' + 1 := ⟨gk - 1, by omega⟩
          have c1 := HYi.out.cell hi
          have c2 := HYi.out.frozen i
          have HS1 := HYi.out.set i 32
          have c3 := HS1.cell hi
          have c4 := HS1.frozen i
          have j1 : (i : Int) < 16384 := by omega
          have HSS := Lib.hid HS1
          have HBS := Lib.hid (setCell_below (p := ⟨g, i, none⟩) HBi.out HG.out (.int .u8 32))
          clear HS1
          by_cases h8 : i < 8192
          · have j2 : (i : Int) < 8192 := by omega
            by_cases h2 : i % 2 = 0
            · have j3 : ((i : Int) % 2 == 0) = true := beq_iff_eq.2 (by omega)
              go_wp2_with fail
              go_roundg g'
              case measure => omega
              case rel => exact ⟨i + 1, by push_cast; rfl, Lib.hid (setCell_below (p := ⟨g, i, none⟩) HBS.out HG.out _), Lib.hid ((HSS.out.set i 43).congr (fun j hj => fill_plus h8 h2 j)), by omega⟩
            · have j3 : ((i : Int) % 2 == 0) = false := beq_eq_false_iff_ne.2 (by omega)
              go_wp2_with fail
              go_roundg g'
              case measure => omega
              case rel => exact ⟨i + 1, by push_cast; rfl, HBS, Lib.hid (HSS.out.congr (fun j hj => fill_blank (fun h => h2 h.2) j)), by omega⟩
          · have j2 : ¬ (i : Int) < 8192 := by omega
            go_wp2_with fail
            go_roundg g'
            case measure => omega
            case rel => exact ⟨i + 1, by push_cast; rfl, HBS, Lib.hid (HSS.out.congr (fun j hj => fill_blank (fun h => h8 h.1) j)), by omega⟩
        · obtain rfl : i = 16384 := by omega
          have HYA := Lib.hid (HYi.out.congr (f' := fA) (fun j hj => by unfold fill; rw [if_pos hj]))
          have hcv := conv_byt (cap := 16384) HYA.out
          obtain ⟨l1, hl1⟩ := scanA
          have HS := Lib.hid (scan_ok (HW.out.below HBi.out) hl1)
          clear HYi hl1 HB3 HY
          go_wp2_with fail
          go_at_call 8; refine HS.out.mono ?_; rintro e w4 ⟨v4, rfl, -, hb4⟩
          have HB4 := Lib.hid (HBi.out.trans (hb4.mono HBi.out.size))
          have HY4 := HYA.out.below hb4
          have k1 := HY4.cell (j := 16383) (by omega)
          have k2 := HY4.frozen 16383
          have HY5 : Hid (Byt (w4.setCell ⟨g, 16383, none⟩ (.int .u8 44)) g fB) := Lib.hid ((HY4.set 16383 44).congr (fun j hj => rfl))
          have HB5 := Lib.hid (setCell_below (p := ⟨g, 16383, none⟩) HB4.out HG.out (.int .u8 44))
          have hcv5 := conv_byt (cap := 16384) HY5.out
          have HS5 := Lib.hid (scan_err (HW.out.below HB5.out) scanB)
          clear HY4 hb4 HS hcv HYA HBi
          go_wp2_with fail
          go_at_call 8; refine HS5.out.mono ?_; rintro e w6 ⟨D6, rfl, hbl6, hb6⟩
          have HB6 := Lib.hid (HB5.out.trans (hb6.mono HB5.out.size))
          have HY6 := HY5.out.below hb6
          have hne : D6 ≠ g := fun e => HY6.ne (by rw [← e]; exact hbl6) (by decide)
          have hbl6' := Lib.hid hbl6
          obtain ⟨m, hm⟩ : ∃ m, m = 2 * (k + 1) := ⟨_, rfl⟩
          have hmm : (2 : Int) * ((k : Int) + 1) = (m : Int) := by omega
          have hm0 : (m : Int) < 16384 := by omega
          have HMM := Lib.hid hm
          clear hm
          have hmw : wrap64 (m : Int) = (m : Int) := IntWalk.wrap64_in _ (by omega)
          have k3 := HY6.cell (j := m) (by omega)
          have k4 := HY6.frozen m
          have HY7 : Hid (Byt (w6.setCell ⟨g, m, none⟩ (.int .u8 32)) g (fC (k + 1))) := Lib.hid ((HY6.set m 32).congr (fun j hj => by unfold fC; rw [← HMM.out]))
          have HB7 := Lib.hid (setCell_below (p := ⟨g, m, none⟩) HB6.out HG.out (.int .u8 32))
          have HD6 := Lib.hid (hbl6.other (p := ⟨g, m, none⟩) hne (.int .u8 32))
          have hcv7 := conv_byt (cap := 16384) HY7.out
          obtain ⟨l7, hl7⟩ := scanC (n := (k + 1)) (by omega)
          have HS7 := Lib.hid (scan_ok (HW.out.below HB7.out) hl7)
          clear hbl6 hbl6' hb6 HY6 hne HS5 hcv5 HY5 HB5 hl7 HB6
          go_wp2_with fail
          go_at_call 8; refine HS7.out.mono ?_; rintro e w8 ⟨v8, rfl, -, hb8⟩
          have HB8 := Lib.hid (HB7.out.trans (hb8.mono HB7.out.size))
          have HD8 := Lib.hid (HD6.out.below hb8)
          have HY8 := HY7.out.below hb8
          have hcv8 := conv_byt (cap := 16384) HY8
          have z8 := txt_size (fC (k + 1))
          have HS8 := Lib.hid (scan_err (HW.out.below HB8.out) (scanD (t := txt (fC (k + 1)) ++ ⟨#[32]⟩) (by rw [ByteArray.size_append, z8]; rfl)))
          clear hb8 HY8 hcv7 HS7 HY7 HD6 HB7
          go_wp2_with fail
          go_at_call 8; refine HS8.out.mono ?_; rintro e w9 ⟨D9, rfl, hbl9, hb9⟩
          have HB9 := Lib.hid (HB8.out.trans (hb9.mono HB8.out.size))
          have HD9 := Lib.hid (HD8.out.below hb9)
          have HE9 := Lib.hid hbl9
          clear hb9 hbl9 HS8 hcv8 HB8 HD8 z8
          go_wp2_with fail
          go_loopg [17, 18] 100 (fun gf s17 s18 wx => ∃ i : Nat, s17 = .string (ninesB i) ∧ s18 = .int .i64 (i : Int) ∧ wx = w9 ∧ i + gf = 100)
          case atStart => exact ⟨0, rfl, rfl, rfl, rfl⟩
          case round =>
            obtain ⟨i, rfl, rfl, rfl, hfi⟩ := hrel
            have z3 := nines_size i
            by_cases hi : i < 100
            · obtain ⟨g', rfl⟩ : ∃ g', gk = g' + 1 := ⟨gk - 1, by omega⟩
              have j1 : (i : Int) < 100 := by omega
              go_wp2_with fail
              go_roundg g'
              case measure => omega
              case rel => exact ⟨i + 1, rfl, by push_cast; rfl, rfl, by omega⟩
            · obtain rfl : i = 100 := by omega
              have hE := scanE
              have hF := scanF
              have hG := scanG
              unfold nm32 at hE hF
              obtain ⟨nn, hnn⟩ : ∃ nn, ninesB 100 = nn := ⟨_, rfl⟩
              rw [hnn] at hE hG z3 ⊢
              obtain ⟨lE, hE⟩ := hE
              have HS10 := Lib.hid (scan_ok (HW.out.below HB9.out) hE)
              have HF := Lib.hid hF
              have HGG := Lib.hid hG
              clear hE hF hG hnn
              go_wp2_with fail
              go_at_call 8; refine HS10.out.mono ?_; rintro e w10 ⟨v10, rfl, -, hb10⟩
              have HB10 := Lib.hid (HB9.out.trans (hb10.mono HB9.out.size))
              have HD10 := Lib.hid (HD9.out.below hb10)
              have HE10 := Lib.hid (HE9.out.below hb10)
              have HS11 := Lib.hid (scan_err (HW.out.below HB10.out) HF.out)
              clear hb10 HS10 HD9 HE9 HF
              go_wp2_with fail
              go_at_call 8; refine HS11.out.mono ?_; rintro e w11 ⟨D11, rfl, hbl11, hb11⟩
              have HB11 := Lib.hid (HB10.out.trans (hb11.mono HB10.out.size))
              have HD11 := Lib.hid (HD10.out.below hb11)
              have HE11 := Lib.hid (HE10.out.below hb11)
              have HH11 := Lib.hid hbl11
              have HS12 := Lib.hid (scan_err (HW.out.below HB11.out) HGG.out)
              clear hb11 HS11 HD10 HE10 hbl11 HGG
              go_wp2_with fail
              go_at_call 8; refine HS12.out.mono ?_; rintro e w12 ⟨D12, rfl, hbl12, hb12⟩
              have HB12 := Lib.hid (HB11.out.trans (hb12.mono HB11.out.size))
              have HI1 := Lib.hid (is_same (HD11.out.below hb12) (by decide))
              have HE12 := Lib.hid (HE11.out.below hb12)
              have HH12 := Lib.hid (HH11.out.below hb12)
              have HK12 := Lib.hid hbl12
              clear hb12 HS12 HD11 HE11 hbl12 HH11
              go_wp2_with fail
              go_at_call 10; refine HI1.out.mono ?_; rintro e w13 ⟨rfl, hb13⟩
              have HB13 := Lib.hid (HB12.out.trans (hb13.mono HB12.out.size))
              have HI2 := Lib.hid (is_same (HE12.out.below hb13) (by decide))
              have HH13 := Lib.hid (HH12.out.below hb13)
              have HK13 := Lib.hid (HK12.out.below hb13)
              clear hb13 HI1 HE12 HH12 HK12
              go_wp2_with fail
              go_at_call 10; refine HI2.out.mono ?_; rintro e w14 ⟨rfl, hb14⟩
              have HB14 := Lib.hid (HB13.out.trans (hb14.mono HB13.out.size))
              have HI3 := Lib.hid (is_same (HH13.out.below hb14) (by decide))
              have HK14 := Lib.hid (HK13.out.below hb14)
              clear hb14 HI2 HH13 HK13
              go_wp2_with fail
              go_at_call 10; refine HI3.out.mono ?_; rintro e w15 ⟨rfl, hb15⟩
              have HB15 := Lib.hid (HB14.out.trans (hb15.mono HB14.out.size))
              have HI4 := Lib.hid (is_same (HK14.out.below hb15) (by decide))
              clear hb15 HI3 HK14
              go_wp2_with fail
              go_at_call 10; refine HI4.out.mono ?_; rintro e w16 ⟨rfl, hb16⟩
              have HB16 := Lib.hid (HB15.out.trans (hb16.mono HB15.out.size))
              clear hb16 HI4
              go_wp2
              go_ret
              exact ⟨rfl, HB16.out⟩
theorem limits_any {W : World} (x : Int) (hx1 : -9223372036854775808 ≤ x) (hx2 : x ≤ 9223372036854775807) (hW : Ready W) : Calls Tryd.prog 5 #[.int .i64 x] W fun e w' => e = .returned (.bool true) ∧ Below W.heap.size W w' := by
  have hk0 : 0 ≤ (IntKind.u64.wrap x).tmod 40 := Int.tmod_nonneg _ (Int.emod_nonneg _ (by decide))
  have hk1 : (IntKind.u64.wrap x).tmod 40 < 40 := Int.tmod_lt_of_pos _ (by omega)
  obtain ⟨n, hn⟩ : ∃ n : Nat, (n : Int) = (IntKind.u64.wrap x).tmod 40 := ⟨((IntKind.u64.wrap x).tmod 40).toNat, by omega⟩
  have hu : wrap64 ((IntKind.u64.wrap x).tmod 40) = (n : Int) := by rw [← hn]; exact IntWalk.wrap64_in _ (by omega)
  have hn40 : n < 40 := by omega
  by_cases h0 : n = 0
  · exact limits_zero x hn40 hu h0 hW
  · by_cases h1 : n ≤ 24
    · exact limits_low x hn40 hu (by omega) h1 hW
    · exact limits_high x hn40 hu (by omega) hW
end Go.Proofs.YtpdepdigacpfiaaDoor
