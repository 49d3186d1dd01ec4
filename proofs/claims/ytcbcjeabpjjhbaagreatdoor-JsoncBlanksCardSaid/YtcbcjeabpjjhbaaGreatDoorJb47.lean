/- JsoncBlanks: its loop's round -/
import Derived.Deep.DeepCutAuto
import Derived.Test.YtcbcjeabpjjhbaaGreatDoorJb06
import Derived.Test.YtcbcjeabpjjhbaaGreatDoorJb18
import Derived.Test.YtcbcjeabpjjhbaaGreatDoorJb19
import Derived.Test.YtcbcjeabpjjhbaaGreatDoorJb43
import Derived.Test.YtcbcjeabpjjhbaaGreatDoorJb46
namespace Go.Proofs.YtcbcjeabpjjhbaaGreatDoor
open Go.RowKit Go.Shelf
set_option linter.unusedVariables false

/-- How far a blank is widened at a byte. -/
def kOf (zs : List Int) (i : Nat) : Nat := if zs.length = 0 then 0 else ((zs.getD (i % zs.length) 0) % 4).toNat
theorem kOf_lt (zs : List Int) (i : Nat) : kOf zs i < 4 := by
  unfold kOf
  split
  · decide
  · omega
theorem blk_run {k : Nat} (hk : k < 4) (W : World) : (Instr.index 9 (.string ⟨#[32, 10, 9, 13]⟩) (.int .i64 (k : Int))).run Tryz.prog W = .ok (.int .u8 ((blkOf k).toNat : Int)) W := by
  have hs : k < (⟨#[32, 10, 9, 13]⟩ : ByteArray).size := by simpa [ByteArray.size] using hk
  have h := byte_run (t := ⟨#[32, 10, 9, 13]⟩) hs W
  rw [h]
  have : ∀ k, (hk : k < 4) → ((⟨#[32, 10, 9, 13]⟩ : ByteArray)[k]'(by simpa [ByteArray.size] using hk)) = blkOf k := by
    intro k hk
    match k, hk with
    | 0, _ => rfl
    | 1, _ => rfl
    | 2, _ => rfl
    | 3, _ => rfl
  rw [this k hk]
theorem u_mod (z : Int) : wrap64 ((IntKind.u64.wrap z).tmod 4) = z % 4 := by
  have h : IntKind.u64.wrap z = z % 18446744073709551616 := by simp [IntKind.wrap, IntKind.signed, IntKind.bits]
  rw [h]
  unfold wrap64
  rw [Int.tmod_eq_emod_of_nonneg (by omega)]
  omega
theorem not_byte {c q : UInt8} {n : Nat} (hq : q.toNat = n) (h : c ≠ q) : ¬ (c.toNat : Int) = (n : Int) := by
  intro e
  apply h
  apply UInt8.toNat_inj.1
  omega
theorem partB_true {tx : Bool} {c : UInt8} (h : partB tx c = true) : signB c = true ∧ tx = false := by
  unfold partB at h
  cases tx
  · exact ⟨by simpa using h, rfl⟩
  · cases h
theorem oth_make {w w' : World} (hg : w.grownBy w' none) : Oth w w' := (Lib.OthersKept.refl _ _ w).grown hg (fun g e => by cases e)
set_option maxRecDepth 100000 in
set_option maxHeartbeats 4000000 in
theorem blanks_yes {W : World} {v : Value} {T : VT} {bv : Value} {zs : List Int} (hT : Is W.heap.size W v T) (hz : IntsAt W.heap.size W bv zs) (hR : ReadyJ W) (hc : (encR T).2 = 0) (hl : ¬ 10000 < (jsT T).length) : Calls Tryz.prog 6 #[v, bv] W fun e w' => e = .returned (.bool true) ∧ Below W.heap.size W w' := by
  obtain ⟨k, b, t, ad, n, cap, adk, nk, capk, rfl⟩ := hT.shape
  obtain ⟨Wz, hWz⟩ : ∃ Wz, W.alloc (.cells #[.int .i64 k, .bool b, .string t, .slice ad n cap, .slice adk nk capk] 26) = Wz := ⟨_, rfl⟩
  have hk0 : Blk Wz W.heap.size #[.int .i64 k, .bool b, .string t, .slice ad n cap, .slice adk nk capk] 26 := by rw [← hWz]; exact Blk.new _ _ _
  have HZ : Hid (Below W.heap.size W Wz) := by rw [← hWz]; exact Lib.hid (below_new0 _ _)
  have HI := Lib.hid hT
  have HR := Lib.hid (hR.below HZ.out)
  have HK := Lib.hid hk0
  have HA := Lib.hid (awake_any HR.out)
  obtain ⟨adz, capz, rfl, hzc, hzl, hzr, hzp⟩ := hz
  have HZR := Lib.hid hzr
  have HZP := Lib.hid hzp
  obtain ⟨nz, hnz⟩ : ∃ nz, zs.length = nz := ⟨_, rfl⟩
  have HNZ := Lib.hid hnz
  rw [hnz] at hzc hzl ⊢
  obtain ⟨hf, hsz, hlen, he⟩ := enc_ok hc
  have HFT := Lib.hid hf
  have HST := Lib.hid hsz
  obtain ⟨s, hs⟩ : ∃ s, jsB T = s := ⟨_, rfl⟩
  have hsl : s.size ≤ 10000 := by rw [← hs, jsB_size]; omega
  have HJ : Hid (s.data.toList = jsT T) := Lib.hid (by rw [← hs]; unfold jsB; simp)
  have HJL := Lib.hid hl
  rw [hs] at he
  have HRW0 := Lib.hid (fun (w' : World) (hb : Below W.heap.size W w') => hR.below hb)
  clear hT hR hk0 hc hf hsz hlen hzr hzp hnz hs hl
  go_enter Tryz.func6, Tryz.ntmps6
  go_wp2_with (go_at_call 7; refine HA.out.mono ?_; rintro e w1 ⟨rfl, hb1⟩; have d0 := (HK.out.below hb1).cell 0; have d1 := (HK.out.below hb1).cell 1; have d2 := (HK.out.below hb1).cell 2; have d3 := (HK.out.below hb1).cell 3; have d4 := (HK.out.below hb1).cell 4; refine Hid.out ?_)
  refine Lib.hid ?_
  have HB1 : Hid (Below W.heap.size W w1) := Lib.hid (HZ.out.trans (hb1.mono HZ.out.size))
  have HK1 := Lib.hid (HK.out.below hb1)
  have HR1 := Lib.hid (HR.out.below hb1)
  have HE := Lib.hid (encode_any HI.out HB1.out HB1.out.size HR1.out)
  rw [he] at HE
  clear hb1 he
  have i0 : ¬ (10000 : Int) < (s.size : Int) := by omega
  go_wp2_with (go_at_call 8; refine HE.out.mono ?_; rintro e w2 ⟨rfl, hb2⟩; refine Hid.out ?_)
  refine Lib.hid ?_
  have HB2 : Hid (Below W.heap.size W w2) := Lib.hid (HB1.out.trans (hb2.mono HB1.out.size))
  have HK2 := Lib.hid (HK1.out.below hb2)
  have HR2 := Lib.hid (HR1.out.below hb2)
  clear hb2 d0 d1 d2 d3 d4 HE HA
  obtain ⟨i0', hi, hz0, hz1, hz2⟩ := info_byte
  go_wp2_with (at_make; refine wpList_make_own _ rfl _ _ 44 rfl W.heap.size 5 i0' (.int .u8 0) 1 Tryz.underlying44 hi hz0 hz1 .i64 .i64 (3 * (s.size : Int)) (3 * s.size) rfl rfl (by omega) (by rw [hz2]; omega) (by unfold maxLen; omega) HB2.out.size ?_; intro w3 hown hgrow; refine Hid.out ?_)
  refine Lib.hid ?_
  have HB3 : Hid (Below W.heap.size W w3) := Lib.hid (HB2.out.grown hgrow HB2.out.size (fun k hk => by cases hk))
  have HY3 : Hid (Row W.heap.size w3 (.slice (some ⟨w2.heap.size, 0, none⟩) 0 (3 * s.size)) []) := Lib.hid (by simpa [Row, Lib.byteCells] using hown)
  have HK3 : Hid (Blk w3 W.heap.size #[.int .i64 k, .bool b, .string t, .slice ad n cap, .slice adk nk capk] 26) := Lib.hid ((oth_make hgrow).blk HK2.out (by decide))
  clear hown hgrow hi hz0 hz1 hz2
  obtain ⟨X, hX⟩ : ∃ X, wideL (kOf zs) (jsT T) 0 false false = X := ⟨_, rfl⟩
  have HX := Lib.hid hX
  have HXL : Hid (X.length ≤ 30000) := Lib.hid (by
    have h1 := wideL_len (kOf zs) (jsT T) 0 false false
    rw [hX] at h1
    have h2 : s.data.toList.length = s.size := by simp
    rw [HJ.out] at h2
    omega)
  clear hX
  go_wp2_with fail
  go_loopg [7, 8, 9, 10] (s.size + 1) (fun gf s7 s8 s9 s10 wx => ∃ (i : Nat) (tx bk : Bool) (acc : List UInt8), s10 = .int .i64 (i : Int) ∧ s8 = .bool tx ∧ s9 = .bool bk ∧ i ≤ s.size ∧ Hid (Below W.heap.size W wx) ∧ Hid (Blk wx W.heap.size #[.int .i64 k, .bool b, .string t, .slice ad n cap, .slice adk nk capk] 26) ∧ Hid (Row W.heap.size wx s7 acc) ∧ Hid (acc ++ wideL (kOf zs) (rest s i) i tx bk = X) ∧ s.size < i + gf)
  case atStart => exact ⟨0, false, false, [], rfl, rfl, rfl, by omega, HB3, HK3, HY3, Lib.hid (by rw [← HX.out, ← HJ.out]; rfl), by omega⟩
  case round =>
    obtain ⟨i, tx, bk, acc, rfl, rfl, rfl, hile, HB, HKB, HRW, HE, hg⟩ := hrel
    by_cases hlt : i < s.size
    · have hix := byte_run hlt
      have HC := Lib.hid (rest_cons hlt)
      obtain ⟨c, hc⟩ : ∃ c, s[i]'hlt = c := ⟨_, rfl⟩
      rw [hc] at hix HC
      have HS : Hid ((acc ++ outW (kOf zs) i (partB tx c) c) ++ wideL (kOf zs) (rest s (i + 1)) (i + 1) (txB tx bk c) (bkB tx bk c) = X) := Lib.hid (by
        rw [← HE.out, HC.out]
        conv => rhs; unfold wideL
        rw [List.append_assoc])
      have hal : acc.length ≤ 30000 := by
        have h1 := congrArg List.length HE.out
        have h2 := HXL.out
        rw [List.length_append] at h1
        omega
      obtain ⟨g', rfl⟩ : ∃ g', gk = g' + 1 := ⟨gk - 1, by omega⟩
      have j0 : (i : Int) < (s.size : Int) := by omega
      have jn : (0 : Int) ≤ (i : Int) := by omega
      clear hc HC HE
      go_upto_if 41 with fail
      go_cut [11] (fun s11 wx => s11 = .int .i64 ((kOf zs i : Nat) : Int) ∧ wx = wr)
      case first =>
        by_cases hn0 : nz = 0
        · have hk0 : kOf zs i = 0 := by unfold kOf; rw [HNZ.out, if_pos hn0]
          have q0 : ¬ (0 : Int) < (nz : Int) := by omega
          have q2 : ¬ 0 < nz := by omega
          have HK0 := Lib.hid hk0
          clear hk0 hn0
          go_wp2_with fail
          go_meet
          exact ⟨by rw [HK0.out]; rfl, rfl⟩
        · have q0 : (0 : Int) < (nz : Int) := by omega
          have q1 : ¬ (nz : Int) = 0 := by omega
          have q2 : 0 < nz := by omega
          obtain ⟨gz, oz, haz, hgz, hcz⟩ := HZP.out (by rw [HNZ.out]; omega)
          obtain ⟨j, hj⟩ : ∃ j, i % nz = j := ⟨_, rfl⟩
          have hjz : j < zs.length := by rw [HNZ.out, ← hj]; exact Nat.mod_lt _ (by omega)
          have hcell := (HB.out.cell (p := ⟨gz, oz + j, none⟩) hgz).trans (hcz j hjz)
          obtain ⟨z, hzz⟩ : ∃ z, zs[j]'hjz = z := ⟨_, rfl⟩
          rw [hzz] at hcell
          have hk : ((kOf zs i : Nat) : Int) = z % 4 := by
            unfold kOf
            rw [HNZ.out, if_neg hn0]
            have : zs.getD (i % nz) 0 = z := by rw [hj]; simp [List.getD, hjz, hzz]
            rw [this]
            omega
          have hmod : ((i : Int) % (nz : Int)) = (j : Int) := by rw [← hj]; omega
          have hj0 : (0 : Int) ≤ (j : Int) := by omega
          have hj1 : (j : Int) < (nz : Int) := by rw [HNZ.out] at hjz; omega
          have hzr := HZR.out z (hzz ▸ List.getElem_mem hjz)
          have HKK := Lib.hid hk
          subst haz
          clear hk hzz hcz hj hjz hn0
          go_wp2_with fail
          go_meet
          exact ⟨by rw [HKK.out, u_mod], rfl⟩
      case rest =>
        obtain ⟨h11, hwx⟩ := hcut
        rw [hwx]
        subst h11
        obtain ⟨kk, hkk⟩ : ∃ kk, kOf zs i = kk := ⟨_, rfl⟩
        have hk4 : kk < 4 := by rw [← hkk]; exact kOf_lt zs i
        rw [hkk]
        have HKK := Lib.hid hkk
        clear hwx hkk
        go_upto_region 14 with fail
        go_cut [12] (fun s12 wx => s12 = .bool (partB tx c) ∧ wx = wr)
        case first =>
          clear HS HRW HB HKB HXL HX HY3 HZP HZR
          cases tx
          · by_cases c1 : c = 123
            · subst c1
              go_wp2_with fail
              go_meet
              exact ⟨rfl, rfl⟩
            by_cases c2 : c = 91
            · subst c2
              go_wp2_with fail
              go_meet
              exact ⟨rfl, rfl⟩
            by_cases c3 : c = 44
            · subst c3
              go_wp2_with fail
              go_meet
              exact ⟨rfl, rfl⟩
            by_cases c4 : c = 58
            · subst c4
              go_wp2_with fail
              go_meet
              exact ⟨rfl, rfl⟩
            by_cases c5 : c = 93
            · subst c5
              go_wp2_with fail
              go_meet
              exact ⟨rfl, rfl⟩
            by_cases c6 : c = 125
            · subst c6
              go_wp2_with fail
              go_meet
              exact ⟨rfl, rfl⟩
            have e1 := not_byte (q := 123) (n := 123) (by decide) c1
            have e2 := not_byte (q := 91) (n := 91) (by decide) c2
            have e3 := not_byte (q := 44) (n := 44) (by decide) c3
            have e4 := not_byte (q := 58) (n := 58) (by decide) c4
            have e5 := not_byte (q := 93) (n := 93) (by decide) c5
            have e6 := not_byte (q := 125) (n := 125) (by decide) c6
            have HP : Hid (partB false c = false) := Lib.hid (by unfold partB signB; rw [beq_eq_false_iff_ne.2 c1, beq_eq_false_iff_ne.2 c2, beq_eq_false_iff_ne.2 c3, beq_eq_false_iff_ne.2 c4, beq_eq_false_iff_ne.2 c5, beq_eq_false_iff_ne.2 c6]; rfl)
            clear c1 c2 c3 c4 c5 c6
            go_wp2_with fail
            go_meet
            exact ⟨by rw [HP.out, show ((c.toNat : Int) == 123) = false from beq_eq_false_iff_ne.2 e1, show ((c.toNat : Int) == 91) = false from beq_eq_false_iff_ne.2 e2, show ((c.toNat : Int) == 44) = false from beq_eq_false_iff_ne.2 e3, show ((c.toNat : Int) == 58) = false from beq_eq_false_iff_ne.2 e4, show ((c.toNat : Int) == 93) = false from beq_eq_false_iff_ne.2 e5, show ((c.toNat : Int) == 125) = false from beq_eq_false_iff_ne.2 e6]; rfl, rfl⟩
          · go_wp2_with fail
            go_meet
            exact ⟨rfl, rfl⟩
        case rest =>
          obtain ⟨h12, hwx⟩ := hcut
          rw [hwx]
          subst h12
          clear hwx
          obtain ⟨p, hp⟩ : ∃ p, partB tx c = p := ⟨_, rfl⟩
          rw [hp] at HS ⊢
          have HPP := Lib.hid hp
          clear hp
          have hszr := HB.out.size
          cases p
          · have HBN := Lib.hid (below_new0 wr (.cells #[.int .u8 (c.toNat : Int)] 5))
            have hrow := HRW.out.below HBN.out
            have hsz : W.heap.size ≤ (wr.alloc (.cells #[.int .u8 (c.toNat : Int)] 5)).heap.size := by simp; omega
            by_cases c34 : c = 34
            · subst c34
              cases tx
              · cases bk
                · have ht : txB false false 34 = true := by decide
                  have hb : bkB false false 34 = false := by decide
                  rw [ht, hb] at HS
                  clear ht hb
                  go_wp2_with (at_builtin; refine app_u8 (N := [34]) rfl rfl rfl rfl hrow (Blk.new _ _ _) rfl (by simp) (by simp; omega) hsz ?_; intro v4 w4 ho4 hb4 hq4; refine Hid.out ?_)
                  refine Lib.hid ?_
                  have HB4 : Hid (Below W.heap.size W w4) := Lib.hid ((HB.out.trans (HBN.out.mono hszr)).trans hb4)
                  have HK4 : Hid (Blk w4 W.heap.size #[.int .i64 k, .bool b, .string t, .slice ad n cap, .slice adk nk capk] 26) := Lib.hid (hq4.blk (HKB.out.below HBN.out) (by decide))
                  have HR4 := Lib.hid ho4
                  clear ho4 hb4 hq4 hrow hsz
                  go_wp2_with fail
                  go_roundg g'
                  case measure => omega
                  case rel => exact ⟨i + 1, true, false, acc ++ [34], by go_num, rfl, rfl, by omega, HB4, HK4, HR4, HS, by omega⟩
                · have ht : txB false true 34 = false := by decide
                  have hb : bkB false true 34 = false := by decide
                  rw [ht, hb] at HS
                  clear ht hb
                  go_wp2_with (at_builtin; refine app_u8 (N := [34]) rfl rfl rfl rfl hrow (Blk.new _ _ _) rfl (by simp) (by simp; omega) hsz ?_; intro v4 w4 ho4 hb4 hq4; refine Hid.out ?_)
                  refine Lib.hid ?_
                  have HB4 : Hid (Below W.heap.size W w4) := Lib.hid ((HB.out.trans (HBN.out.mono hszr)).trans hb4)
                  have HK4 : Hid (Blk w4 W.heap.size #[.int .i64 k, .bool b, .string t, .slice ad n cap, .slice adk nk capk] 26) := Lib.hid (hq4.blk (HKB.out.below HBN.out) (by decide))
                  have HR4 := Lib.hid ho4
                  clear ho4 hb4 hq4 hrow hsz
                  go_wp2_with fail
                  go_roundg g'
                  case measure => omega
                  case rel => exact ⟨i + 1, false, false, acc ++ [34], by go_num, rfl, rfl, by omega, HB4, HK4, HR4, HS, by omega⟩
              · cases bk
                · have ht : txB true false 34 = false := by decide
                  have hb : bkB true false 34 = false := by decide
                  rw [ht, hb] at HS
                  clear ht hb
                  go_wp2_with (at_builtin; refine app_u8 (N := [34]) rfl rfl rfl rfl hrow (Blk.new _ _ _) rfl (by simp) (by simp; omega) hsz ?_; intro v4 w4 ho4 hb4 hq4; refine Hid.out ?_)
                  refine Lib.hid ?_
                  have HB4 : Hid (Below W.heap.size W w4) := Lib.hid ((HB.out.trans (HBN.out.mono hszr)).trans hb4)
                  have HK4 : Hid (Blk w4 W.heap.size #[.int .i64 k, .bool b, .string t, .slice ad n cap, .slice adk nk capk] 26) := Lib.hid (hq4.blk (HKB.out.below HBN.out) (by decide))
                  have HR4 := Lib.hid ho4
                  clear ho4 hb4 hq4 hrow hsz
                  go_wp2_with fail
                  go_roundg g'
                  case measure => omega
                  case rel => exact ⟨i + 1, false, false, acc ++ [34], by go_num, rfl, rfl, by omega, HB4, HK4, HR4, HS, by omega⟩
                · have ht : txB true true 34 = true := by decide
                  have hb : bkB true true 34 = false := by decide
                  rw [ht, hb] at HS
                  clear ht hb
                  go_wp2_with (at_builtin; refine app_u8 (N := [34]) rfl rfl rfl rfl hrow (Blk.new _ _ _) rfl (by simp) (by simp; omega) hsz ?_; intro v4 w4 ho4 hb4 hq4; refine Hid.out ?_)
                  refine Lib.hid ?_
                  have HB4 : Hid (Below W.heap.size W w4) := Lib.hid ((HB.out.trans (HBN.out.mono hszr)).trans hb4)
                  have HK4 : Hid (Blk w4 W.heap.size #[.int .i64 k, .bool b, .string t, .slice ad n cap, .slice adk nk capk] 26) := Lib.hid (hq4.blk (HKB.out.below HBN.out) (by decide))
                  have HR4 := Lib.hid ho4
                  clear ho4 hb4 hq4 hrow hsz
                  go_wp2_with fail
                  go_roundg g'
                  case measure => omega
                  case rel => exact ⟨i + 1, true, false, acc ++ [34], by go_num, rfl, rfl, by omega, HB4, HK4, HR4, HS, by omega⟩
            by_cases c92 : c = 92
            · subst c92
              cases tx
              · cases bk
                · have ht : txB false false 92 = false := by decide
                  have hb : bkB false false 92 = false := by decide
                  rw [ht, hb] at HS
                  clear ht hb
                  go_wp2_with (at_builtin; refine app_u8 (N := [92]) rfl rfl rfl rfl hrow (Blk.new _ _ _) rfl (by simp) (by simp; omega) hsz ?_; intro v4 w4 ho4 hb4 hq4; refine Hid.out ?_)
                  refine Lib.hid ?_
                  have HB4 : Hid (Below W.heap.size W w4) := Lib.hid ((HB.out.trans (HBN.out.mono hszr)).trans hb4)
                  have HK4 : Hid (Blk w4 W.heap.size #[.int .i64 k, .bool b, .string t, .slice ad n cap, .slice adk nk capk] 26) := Lib.hid (hq4.blk (HKB.out.below HBN.out) (by decide))
                  have HR4 := Lib.hid ho4
                  clear ho4 hb4 hq4 hrow hsz
                  go_wp2_with fail
                  go_roundg g'
                  case measure => omega
                  case rel => exact ⟨i + 1, false, false, acc ++ [92], by go_num, rfl, rfl, by omega, HB4, HK4, HR4, HS, by omega⟩
                · have ht : txB false true 92 = false := by decide
                  have hb : bkB false true 92 = false := by decide
                  rw [ht, hb] at HS
                  clear ht hb
                  go_wp2_with (at_builtin; refine app_u8 (N := [92]) rfl rfl rfl rfl hrow (Blk.new _ _ _) rfl (by simp) (by simp; omega) hsz ?_; intro v4 w4 ho4 hb4 hq4; refine Hid.out ?_)
                  refine Lib.hid ?_
                  have HB4 : Hid (Below W.heap.size W w4) := Lib.hid ((HB.out.trans (HBN.out.mono hszr)).trans hb4)
                  have HK4 : Hid (Blk w4 W.heap.size #[.int .i64 k, .bool b, .string t, .slice ad n cap, .slice adk nk capk] 26) := Lib.hid (hq4.blk (HKB.out.below HBN.out) (by decide))
                  have HR4 := Lib.hid ho4
                  clear ho4 hb4 hq4 hrow hsz
                  go_wp2_with fail
                  go_roundg g'
                  case measure => omega
                  case rel => exact ⟨i + 1, false, false, acc ++ [92], by go_num, rfl, rfl, by omega, HB4, HK4, HR4, HS, by omega⟩
              · cases bk
                · have ht : txB true false 92 = true := by decide
                  have hb : bkB true false 92 = true := by decide
                  rw [ht, hb] at HS
                  clear ht hb
                  go_wp2_with (at_builtin; refine app_u8 (N := [92]) rfl rfl rfl rfl hrow (Blk.new _ _ _) rfl (by simp) (by simp; omega) hsz ?_; intro v4 w4 ho4 hb4 hq4; refine Hid.out ?_)
                  refine Lib.hid ?_
                  have HB4 : Hid (Below W.heap.size W w4) := Lib.hid ((HB.out.trans (HBN.out.mono hszr)).trans hb4)
                  have HK4 : Hid (Blk w4 W.heap.size #[.int .i64 k, .bool b, .string t, .slice ad n cap, .slice adk nk capk] 26) := Lib.hid (hq4.blk (HKB.out.below HBN.out) (by decide))
                  have HR4 := Lib.hid ho4
                  clear ho4 hb4 hq4 hrow hsz
                  go_wp2_with fail
                  go_roundg g'
                  case measure => omega
                  case rel => exact ⟨i + 1, true, true, acc ++ [92], by go_num, rfl, rfl, by omega, HB4, HK4, HR4, HS, by omega⟩
                · have ht : txB true true 92 = true := by decide
                  have hb : bkB true true 92 = false := by decide
                  rw [ht, hb] at HS
                  clear ht hb
                  go_wp2_with (at_builtin; refine app_u8 (N := [92]) rfl rfl rfl rfl hrow (Blk.new _ _ _) rfl (by simp) (by simp; omega) hsz ?_; intro v4 w4 ho4 hb4 hq4; refine Hid.out ?_)
                  refine Lib.hid ?_
                  have HB4 : Hid (Below W.heap.size W w4) := Lib.hid ((HB.out.trans (HBN.out.mono hszr)).trans hb4)
                  have HK4 : Hid (Blk w4 W.heap.size #[.int .i64 k, .bool b, .string t, .slice ad n cap, .slice adk nk capk] 26) := Lib.hid (hq4.blk (HKB.out.below HBN.out) (by decide))
                  have HR4 := Lib.hid ho4
                  clear ho4 hb4 hq4 hrow hsz
                  go_wp2_with fail
                  go_roundg g'
                  case measure => omega
                  case rel => exact ⟨i + 1, true, false, acc ++ [92], by go_num, rfl, rfl, by omega, HB4, HK4, HR4, HS, by omega⟩
            have e34 := not_byte (q := 34) (n := 34) (by decide) c34
            have e92 := not_byte (q := 92) (n := 92) (by decide) c92
            cases tx
            · cases bk
              · have ht : txB false false c = false := by unfold txB; rw [if_neg (fun e => c34 e.1)]
                have hb : bkB false false c = false := by
                  unfold bkB
                  have : (c == 92) = false := by simpa using c92
                  rw [this]; simp
                rw [ht, hb] at HS
                clear ht hb
                go_wp2_with (at_builtin; refine app_u8 (N := [c]) rfl rfl rfl rfl hrow (Blk.new _ _ _) rfl (by simp) (by simp; omega) hsz ?_; intro v4 w4 ho4 hb4 hq4; refine Hid.out ?_)
                refine Lib.hid ?_
                have HB4 : Hid (Below W.heap.size W w4) := Lib.hid ((HB.out.trans (HBN.out.mono hszr)).trans hb4)
                have HK4 : Hid (Blk w4 W.heap.size #[.int .i64 k, .bool b, .string t, .slice ad n cap, .slice adk nk capk] 26) := Lib.hid (hq4.blk (HKB.out.below HBN.out) (by decide))
                have HR4 := Lib.hid ho4
                clear ho4 hb4 hq4 hrow hsz
                go_wp2_with fail
                go_roundg g'
                case measure => omega
                case rel => exact ⟨i + 1, false, false, acc ++ [c], by go_num, rfl, rfl, by omega, HB4, HK4, HR4, HS, by omega⟩
              · have ht : txB false true c = false := by unfold txB; rw [if_neg (fun e => c34 e.1)]
                have hb : bkB false true c = false := by
                  unfold bkB
                  have : (c == 92) = false := by simpa using c92
                  rw [this]; simp
                rw [ht, hb] at HS
                clear ht hb
                go_wp2_with (at_builtin; refine app_u8 (N := [c]) rfl rfl rfl rfl hrow (Blk.new _ _ _) rfl (by simp) (by simp; omega) hsz ?_; intro v4 w4 ho4 hb4 hq4; refine Hid.out ?_)
                refine Lib.hid ?_
                have HB4 : Hid (Below W.heap.size W w4) := Lib.hid ((HB.out.trans (HBN.out.mono hszr)).trans hb4)
                have HK4 : Hid (Blk w4 W.heap.size #[.int .i64 k, .bool b, .string t, .slice ad n cap, .slice adk nk capk] 26) := Lib.hid (hq4.blk (HKB.out.below HBN.out) (by decide))
                have HR4 := Lib.hid ho4
                clear ho4 hb4 hq4 hrow hsz
                go_wp2_with fail
                go_roundg g'
                case measure => omega
                case rel => exact ⟨i + 1, false, false, acc ++ [c], by go_num, rfl, rfl, by omega, HB4, HK4, HR4, HS, by omega⟩
            · cases bk
              · have ht : txB true false c = true := by unfold txB; rw [if_neg (fun e => c34 e.1)]
                have hb : bkB true false c = false := by
                  unfold bkB
                  have : (c == 92) = false := by simpa using c92
                  rw [this]; simp
                rw [ht, hb] at HS
                clear ht hb
                go_wp2_with (at_builtin; refine app_u8 (N := [c]) rfl rfl rfl rfl hrow (Blk.new _ _ _) rfl (by simp) (by simp; omega) hsz ?_; intro v4 w4 ho4 hb4 hq4; refine Hid.out ?_)
                refine Lib.hid ?_
                have HB4 : Hid (Below W.heap.size W w4) := Lib.hid ((HB.out.trans (HBN.out.mono hszr)).trans hb4)
                have HK4 : Hid (Blk w4 W.heap.size #[.int .i64 k, .bool b, .string t, .slice ad n cap, .slice adk nk capk] 26) := Lib.hid (hq4.blk (HKB.out.below HBN.out) (by decide))
                have HR4 := Lib.hid ho4
                clear ho4 hb4 hq4 hrow hsz
                go_wp2_with fail
                go_roundg g'
                case measure => omega
                case rel => exact ⟨i + 1, true, false, acc ++ [c], by go_num, rfl, rfl, by omega, HB4, HK4, HR4, HS, by omega⟩
              · have ht : txB true true c = true := by unfold txB; rw [if_neg (fun e => c34 e.1)]
                have hb : bkB true true c = false := by
                  unfold bkB
                  have : (c == 92) = false := by simpa using c92
                  rw [this]; simp
                rw [ht, hb] at HS
                clear ht hb
                go_wp2_with (at_builtin; refine app_u8 (N := [c]) rfl rfl rfl rfl hrow (Blk.new _ _ _) rfl (by simp) (by simp; omega) hsz ?_; intro v4 w4 ho4 hb4 hq4; refine Hid.out ?_)
                refine Lib.hid ?_
                have HB4 : Hid (Below W.heap.size W w4) := Lib.hid ((HB.out.trans (HBN.out.mono hszr)).trans hb4)
                have HK4 : Hid (Blk w4 W.heap.size #[.int .i64 k, .bool b, .string t, .slice ad n cap, .slice adk nk capk] 26) := Lib.hid (hq4.blk (HKB.out.below HBN.out) (by decide))
                have HR4 := Lib.hid ho4
                clear ho4 hb4 hq4 hrow hsz
                go_wp2_with fail
                go_roundg g'
                case measure => omega
                case rel => exact ⟨i + 1, true, false, acc ++ [c], by go_num, rfl, rfl, by omega, HB4, HK4, HR4, HS, by omega⟩
          · obtain ⟨hsg, htx⟩ := partB_true HPP.out
            subst htx
            have c34 : c ≠ 34 := by rintro rfl; revert hsg; decide
            have e34 := not_byte (q := 34) (n := 34) (by decide) c34
            have ht : txB false bk c = false := by unfold txB; rw [if_neg (fun e => c34 e.1)]
            have hb : bkB false bk c = false := by unfold bkB; rw [ht]; rfl
            rw [ht, hb] at HS
            have hbx := blk_run hk4
            have HBN := Lib.hid (below_new0 wr (.cells #[.int .u8 ((blkOf kk).toNat : Int)] 5))
            have hrow := HRW.out.below HBN.out
            have hsz : W.heap.size ≤ (wr.alloc (.cells #[.int .u8 ((blkOf kk).toNat : Int)] 5)).heap.size := by simp; omega
            have hk0 : (0 : Int) ≤ (kk : Int) := by omega
            clear ht hb hsg
            go_wp2_with (at_builtin; refine app_u8 (N := [blkOf kk]) rfl rfl rfl rfl hrow (Blk.new _ _ _) rfl (by simp) (by simp; omega) hsz ?_; intro v4 w4 ho4 hb4 hq4; refine Hid.out ?_)
            refine Lib.hid ?_
            have HB4 : Hid (Below W.heap.size W w4) := Lib.hid ((HB.out.trans (HBN.out.mono hszr)).trans hb4)
            have HK4 : Hid (Blk w4 W.heap.size #[.int .i64 k, .bool b, .string t, .slice ad n cap, .slice adk nk capk] 26) := Lib.hid (hq4.blk (HKB.out.below HBN.out) (by decide))
            have HBN4 := Lib.hid (below_new0 w4 (.cells #[.int .u8 (c.toNat : Int)] 5))
            have hrow4 := Row.below ho4 HBN4.out
            have hsz4 : W.heap.size ≤ (w4.alloc (.cells #[.int .u8 (c.toNat : Int)] 5)).heap.size := by have := HB4.out.size; simp; omega
            clear ho4 hb4 hq4 hrow hsz
            go_wp2_with (at_builtin; refine app_u8 (N := [c]) rfl rfl rfl rfl hrow4 (Blk.new _ _ _) rfl (by simp) (by simp; omega) hsz4 ?_; intro v5 w5 ho5 hb5 hq5; refine Hid.out ?_)
            refine Lib.hid ?_
            have HB5 : Hid (Below W.heap.size W w5) := Lib.hid ((HB4.out.trans (HBN4.out.mono HB4.out.size)).trans hb5)
            have HK5 : Hid (Blk w5 W.heap.size #[.int .i64 k, .bool b, .string t, .slice ad n cap, .slice adk nk capk] 26) := Lib.hid (hq5.blk (HK4.out.below HBN4.out) (by decide))
            by_cases h0 : kk = 0
            · have HO : Hid (acc ++ outW (kOf zs) i true c = acc ++ [blkOf kk] ++ [c]) := Lib.hid (by unfold outW preW posW; rw [HKK.out, h0]; simp)
              rw [HO.out] at HS
              have HR5 := Lib.hid ho5
              have q0 : ¬ (0 : Int) < (kk : Int) := by omega
              clear ho5 hb5 hq5 hrow4 hsz4 h0
              go_wp2_with fail
              go_roundg g'
              case measure => omega
              case rel => exact ⟨i + 1, false, false, acc ++ [blkOf kk] ++ [c], by go_num, rfl, rfl, by omega, HB5, HK5, HR5, HS, by omega⟩
            · have HO : Hid (acc ++ outW (kOf zs) i true c = acc ++ [blkOf kk] ++ [c] ++ [32]) := Lib.hid (by unfold outW preW posW; rw [HKK.out]; simp; omega)
              rw [HO.out] at HS
              have HBN5 := Lib.hid (below_new0 w5 (.cells #[.int .u8 32] 5))
              have hrow5 := Row.below ho5 HBN5.out
              have hsz5 : W.heap.size ≤ (w5.alloc (.cells #[.int .u8 32] 5)).heap.size := by have := HB5.out.size; simp; omega
              have q0 : (0 : Int) < (kk : Int) := by omega
              clear ho5 hb5 hq5 hrow4 hsz4
              go_wp2_with (at_builtin; refine app_u8 (N := [32]) rfl rfl rfl rfl hrow5 (Blk.new _ _ _) rfl (by simp) (by simp; omega) hsz5 ?_; intro v6 w6 ho6 hb6 hq6; refine Hid.out ?_)
              refine Lib.hid ?_
              have HB6 : Hid (Below W.heap.size W w6) := Lib.hid ((HB5.out.trans (HBN5.out.mono HB5.out.size)).trans hb6)
              have HK6 : Hid (Blk w6 W.heap.size #[.int .i64 k, .bool b, .string t, .slice ad n cap, .slice adk nk capk] 26) := Lib.hid (hq6.blk (HK5.out.below HBN5.out) (by decide))
              have HR6 := Lib.hid ho6
              clear ho6 hb6 hq6 hrow5 hsz5
              go_wp2_with fail
              go_roundg g'
              case measure => omega
              case rel => exact ⟨i + 1, false, false, acc ++ [blkOf kk] ++ [c] ++ [32], by go_num, rfl, rfl, by omega, HB6, HK6, HR6, HS, by omega⟩
    · have hie : i = s.size := by omega
      have hnil : rest s i = [] := rest_nil (by omega)
      have hXa : acc = X := by
        rw [← HE.out, hnil]
        unfold wideL
        simp
      have j0 : ¬ (i : Int) < (s.size : Int) := by omega
      obtain ⟨ad7, cap7, hv7⟩ := row_shape HRW.out
      rw [hXa] at hv7
      have HRX : Row W.heap.size wr (.slice ad7 X.length cap7) X := by rw [← hv7, ← hXa]; exact HRW.out
      have hcv := conv_row HRX
      have HW : Hid (wholeJ ⟨X.toArray⟩ = .ok T) := Lib.hid (wide_back (kf := kOf zs) HFT.out HST.out (by have := HJL.out; omega) (by rw [HX.out]))
      have HD := Lib.hid (decode_any (t := ⟨X.toArray⟩) (HRW0.out _ HB.out))
      rw [HW.out] at HD
      subst hv7
      clear hie hnil hXa HE HRX
      go_wp2_with (go_at_call 10; refine HD.out.mono ?_; rintro e w4 ⟨hb4, v4, rfl, hf4, hs4⟩; obtain ⟨y1, y2, y3, ya, yn, yc, yk, ym, yd, rfl⟩ := hf4.shape; refine Hid.out ?_)
      refine Lib.hid ?_
      have HB4 : Hid (Below W.heap.size W w4) := Lib.hid (HB.out.trans (hb4.mono HB.out.size))
      have HF4 := Lib.hid hf4.at
      have HZ4 := Lib.hid (below_new0 w4 (.cells #[.int .i64 y1, .bool y2, .string y3, .slice ya yn yc, .slice yk ym yd] 26))
      have hbv := Blk.new w4 #[.int .i64 y1, .bool y2, .string y3, .slice ya yn yc, .slice yk ym yd] 26
      have q0 := hbv.cell 0
      have q1 := hbv.cell 1
      have q2 := hbv.cell 2
      have q3 := hbv.cell 3
      have q4 := hbv.cell 4
      have HK4 := Lib.hid ((HKB.out.below hb4).below HZ4.out)
      have e0 := HK4.out.cell 0
      have e1 := HK4.out.cell 1
      have e2 := HK4.out.cell 2
      have e3 := HK4.out.cell 3
      have e4 := HK4.out.cell 4
      have HS := Lib.hid (same_any ((HI.out.later HB4.out).wide HB4.out.size) _ _ _ HF4.out HZ4.out (by simp))
      rw [sameT_refl] at HS
      have HB5 : Hid (Below W.heap.size W (w4.alloc (.cells #[.int .i64 y1, .bool y2, .string y3, .slice ya yn yc, .slice yk ym yd] 26))) := Lib.hid (HB4.out.trans (HZ4.out.mono HB4.out.size))
      have hpn : ∀ w : World, (binOp BinOp.eql 34 (.pointer none) (.pointer none)).run Tryz.prog w = .ok (.bool true) w := fun _ => rfl
      clear hb4 hf4 hs4 hbv
      go_wp2_with (go_at_call 13; refine HS.out.mono ?_; rintro e w5 ⟨rfl, hb5⟩)
      go_ret
      exact ⟨rfl, HB5.out.trans (hb5.mono HB5.out.size)⟩

end Go.Proofs.YtcbcjeabpjjhbaaGreatDoor
