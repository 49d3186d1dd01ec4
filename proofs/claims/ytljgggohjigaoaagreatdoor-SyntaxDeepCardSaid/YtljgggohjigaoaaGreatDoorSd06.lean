/- Nested texts parsed · SyntaxDeep: the walk · SyntaxDeep: the walk at 24 -/
import Derived.OwnWalk
import Derived.Test.YtljgggohjigaoaaGreatDoorSd02
import Derived.Test.YtljgggohjigaoaaGreatDoorSd03
import Derived.Test.YtljgggohjigaoaaGreatDoorSd04
import Derived.Test.YtljgggohjigaoaaGreatDoorSd05
namespace Go.Proofs.YtljgggohjigaoaaGreatDoor
theorem deepN_all {n : Nat} (hn : n < 40) : (List.range 6).all (deepB n) = true ∧ blkB n = true := by
  obtain rfl | rfl | rfl | rfl | rfl | rfl | rfl | rfl | rfl | rfl | rfl | rfl | rfl | rfl | rfl | rfl | rfl | rfl | rfl | rfl | rfl | rfl | rfl | rfl | rfl | rfl | rfl | rfl | rfl | rfl | rfl | rfl | rfl | rfl | rfl | rfl | rfl | rfl | rfl | rfl : n = 0 ∨ n = 1 ∨ n = 2 ∨ n = 3 ∨ n = 4 ∨ n = 5 ∨ n = 6 ∨ n = 7 ∨ n = 8 ∨ n = 9 ∨ n = 10 ∨ n = 11 ∨ n = 12 ∨ n = 13 ∨ n = 14 ∨ n = 15 ∨ n = 16 ∨ n = 17 ∨ n = 18 ∨ n = 19 ∨ n = 20 ∨ n = 21 ∨ n = 22 ∨ n = 23 ∨ n = 24 ∨ n = 25 ∨ n = 26 ∨ n = 27 ∨ n = 28 ∨ n = 29 ∨ n = 30 ∨ n = 31 ∨ n = 32 ∨ n = 33 ∨ n = 34 ∨ n = 35 ∨ n = 36 ∨ n = 37 ∨ n = 38 ∨ n = 39 := by omega
  · exact ⟨deepN_0, blkN_0⟩
  · exact ⟨deepN_1, blkN_1⟩
  · exact ⟨deepN_2, blkN_2⟩
  · exact ⟨deepN_3, blkN_3⟩
  · exact ⟨deepN_4, blkN_4⟩
  · exact ⟨deepN_5, blkN_5⟩
  · exact ⟨deepN_6, blkN_6⟩
  · exact ⟨deepN_7, blkN_7⟩
  · exact ⟨deepN_8, blkN_8⟩
  · exact ⟨deepN_9, blkN_9⟩
  · exact ⟨deepN_10, blkN_10⟩
  · exact ⟨deepN_11, blkN_11⟩
  · exact ⟨deepN_12, blkN_12⟩
  · exact ⟨deepN_13, blkN_13⟩
  · exact ⟨deepN_14, blkN_14⟩
  · exact ⟨deepN_15, blkN_15⟩
  · exact ⟨deepN_16, blkN_16⟩
  · exact ⟨deepN_17, blkN_17⟩
  · exact ⟨deepN_18, blkN_18⟩
  · exact ⟨deepN_19, blkN_19⟩
  · exact ⟨deepN_20, blkN_20⟩
  · exact ⟨deepN_21, blkN_21⟩
  · exact ⟨deepN_22, blkN_22⟩
  · exact ⟨deepN_23, blkN_23⟩
  · exact ⟨deepN_24, blkN_24⟩
  · exact ⟨deepN_25, blkN_25⟩
  · exact ⟨deepN_26, blkN_26⟩
  · exact ⟨deepN_27, blkN_27⟩
  · exact ⟨deepN_28, blkN_28⟩
  · exact ⟨deepN_29, blkN_29⟩
  · exact ⟨deepN_30, blkN_30⟩
  · exact ⟨deepN_31, blkN_31⟩
  · exact ⟨deepN_32, blkN_32⟩
  · exact ⟨deepN_33, blkN_33⟩
  · exact ⟨deepN_34, blkN_34⟩
  · exact ⟨deepN_35, blkN_35⟩
  · exact ⟨deepN_36, blkN_36⟩
  · exact ⟨deepN_37, blkN_37⟩
  · exact ⟨deepN_38, blkN_38⟩
  · exact ⟨deepN_39, blkN_39⟩
theorem deep_all {n h : Nat} (hn : n < 40) (hh : h < 6) : (n ≤ 23 ∧ ∃ f, parseF (deepT (ahD h) (beD h) n) = .ok f) ∨ (23 < n ∧ ∃ p, parseF (deepT (ahD h) (beD h) n) = .error (7, p)) := deep_res (List.all_eq_true.1 (deepN_all hn).1 h (List.mem_range.2 hh))
theorem blk_all {n : Nat} (hn : n < 40) : (n ≤ 24 ∧ ∃ f, parseF (blkT n) = .ok f) ∨ (24 < n ∧ parseF (blkT n) = .error (7, 98)) := blk_res (deepN_all hn).2
end Go.Proofs.YtljgggohjigaoaaGreatDoor
namespace Go.Proofs.YtljgggohjigaoaaGreatDoor
open Go.RowKit Go.Shelf
set_option linter.unusedVariables false
set_option linter.unusedSimpArgs false

theorem idx_ah {h : Nat} (hh : h < 6) (w : World) : (Instr.index 46 (.agg #[.string ⟨#[40]⟩, .string ⟨#[91]⟩, .string ⟨#[102, 40]⟩, .string ⟨#[45]⟩, .string ⟨#[116, 114, 117, 101, 32, 63, 32]⟩, .string ⟨#[123, 32, 107, 32, 61, 32]⟩]) (.int .i64 (h : Int))).run Tryz.prog w = .ok (.string (ahD h)) w := by
  obtain rfl | rfl | rfl | rfl | rfl | rfl : h = 0 ∨ h = 1 ∨ h = 2 ∨ h = 3 ∨ h = 4 ∨ h = 5 := by omega
  all_goals kernel_rfl
theorem idx_be {h : Nat} (hh : h < 6) (w : World) : (Instr.index 46 (.agg #[.string ⟨#[41]⟩, .string ⟨#[93]⟩, .string ⟨#[41]⟩, .string ⟨#[]⟩, .string ⟨#[32, 58, 32, 49]⟩, .string ⟨#[32, 125]⟩]) (.int .i64 (h : Int))).run Tryz.prog w = .ok (.string (beD h)) w := by
  obtain rfl | rfl | rfl | rfl | rfl | rfl : h = 0 ∨ h = 1 ∨ h = 2 ∨ h = 3 ∨ h = 4 ∨ h = 5 := by omega
  all_goals kernel_rfl
set_option maxRecDepth 100000 in
set_option maxHeartbeats 8000000 in
theorem deep_low {W : World} {x y : Int} {n h : Nat} (hn : n < 40) (hh : h < 6) (hc : n ≤ 23) (hu : wrap64 ((IntKind.u64.wrap x).tmod 40) = (n : Int)) (hv : wrap64 ((IntKind.u64.wrap y).tmod 6) = (h : Int)) (hR : ReadyP W) :
    Calls Tryz.prog 4 #[.int .i64 x, .int .i64 y] W fun e w' => e = .returned (.bool true) ∧ Below W.heap.size W w' := by
  obtain ⟨f1, hp1⟩ : ∃ v, parseF (deepT (ahD h) (beD h) n) = .ok v := by
    rcases deep_all hn hh with ⟨h1, v, h2⟩ | ⟨h1, v, h2⟩
    · exact ⟨v, h2⟩
    · omega
  obtain ⟨f2, hp2⟩ : ∃ f, parseF (blkT n) = .ok f := by
    rcases blk_all hn with ⟨h1, v, h2⟩ | ⟨h1, h2⟩
    · exact ⟨v, h2⟩
    · omega
  have hiA := fun w => idx_ah hh w
  have hiB := fun w => idx_be hh w
  have zA := ahD_size h
  have zB := beD_size h
  obtain ⟨A, hA⟩ : ∃ A, ahD h = A := ⟨_, rfl⟩
  obtain ⟨B, hB⟩ : ∃ B, beD h = B := ⟨_, rfl⟩
  rw [hA, hB] at hp1
  simp only [hA] at hiA
  simp only [hB] at hiB
  rw [hA] at zA
  rw [hB] at zB
  have HP1 : Hid (∀ w, ReadyP w → Calls Tryz.prog 11 #[.string ((((⟨#[97, 32, 123, 10, 120, 32, 61, 32]⟩ ++ opnD A n) ++ ⟨#[49]⟩) ++ shtD B n) ++ ⟨#[10, 125]⟩)] w (ParE w (.ok f1))) := Lib.hid (fun w hw => by
    have := parse_any (t := deepT A B n) hw
    rw [hp1] at this
    exact this)
  have HP2 : Hid (∀ w, ReadyP w → Calls Tryz.prog 11 #[.string (opnD ⟨#[98, 32, 123, 10]⟩ n ++ shtD ⟨#[125, 10]⟩ n)] w (ParE w (.ok f2))) := Lib.hid (fun w hw => by
    have := parse_any (t := blkT n) hw
    rw [hp2] at this
    exact this)
  have HA := Lib.hid (awake5 hR)
  have HR := Lib.hid hR
  have zO : ∀ k, k < 41 → (opnD A k).size ≤ 300 := fun k hk => by
    rw [opnD_size]
    have := Nat.mul_le_mul (Nat.le_of_lt_succ hk) zA
    omega
  have zS : ∀ k, k < 41 → (shtD B k).size ≤ 300 := fun k hk => by
    rw [shtD_size]
    have := Nat.mul_le_mul (Nat.le_of_lt_succ hk) zB
    omega
  have HZ := Lib.hid (And.intro zO zS)
  have HC := Lib.hid hc
  clear hp1 hp2 hA hB hR hh zO zS hc
  go_enter Tryz.func4, Tryz.ntmps4
  go_wp2_with fail
  go_at_call 9; refine HA.out.mono ?_; rintro r w1 ⟨rfl, hb1⟩
  have HB1 := Lib.hid hb1
  clear hb1 HA
  go_wp2_with fail
  clear hiA hiB
  go_loopg [7, 8, 9] 41 (fun gf s7 s8 s9 wx => ∃ k : Nat, s7 = .string (opnD A k) ∧ s8 = .string (shtD B k) ∧ s9 = .int .i64 (k : Int) ∧ wx = w1 ∧ n ≤ k + gf ∧ k ≤ n)
  case atStart => exact ⟨0, rfl, rfl, rfl, rfl, by omega, by omega⟩
  case round =>
    obtain ⟨k, rfl, rfl, rfl, rfl, hfu, hk⟩ := hrel
    have z1 := HZ.out.1 k (by omega)
    have z2 := HZ.out.2 k (by omega)
    by_cases hkn : k < n
    · obtain ⟨g', rfl⟩ : ∃ g', gk = g' + 1 := ⟨gk - 1, by omega⟩
      have q1 : (k : Int) < (n : Int) := by omega
      have z3 : ¬ 9223372036854775807 < (opnD A k).size + A.size := by omega
      have z4 : ¬ 9223372036854775807 < B.size + (shtD B k).size := by omega
      go_wp2_with fail
      go_roundg g'
      case measure => omega
      case rel => exact ⟨k + 1, rfl, rfl, by push_cast; rfl, rfl, by omega, by omega⟩
    · have q1 : ¬ (k : Int) < (n : Int) := by omega
      obtain rfl : n = k := by omega
      have hcc := HC.out
      have q2 : (n : Int) ≤ 23 := by omega
      have q3 : ¬ (23 : Int) < (n : Int) := by omega
      have q4 : (n : Int) ≤ 24 := by omega
      have q5 : ¬ (24 : Int) < (n : Int) := by omega
      have HCL := Lib.hid (HP1.out wr (HR.out.below HB1.out))
      clear HP1 hcc hfu hk
      go_wp2_with fail
      go_at_call 11; refine HCL.out.mono ?_
      rintro e w2 ⟨hb2, m, F, lo, rfl, hfo, -, -⟩
      obtain ⟨⟨aE, cE, eE⟩, ⟨aB, cB, eB⟩, aT, cT, eT⟩ := hfo.slices
      obtain ⟨nE, hnE⟩ : ∃ n, f1.exprs.length = n := ⟨_, rfl⟩
      obtain ⟨nB, hnB⟩ : ∃ n, f1.blocks.length = n := ⟨_, rfl⟩
      obtain ⟨nT, hnT⟩ : ∃ n, f1.top.length = n := ⟨_, rfl⟩
      rw [hnE] at eE
      rw [hnB] at eB
      rw [hnT] at eT
      rw [eE, eB, eT]
      clear hfo eE eB eT hnE hnB hnT
      have s23 := below_new w2 (.cells #[.slice aE nE cE, .slice aB nB cB, .slice aT nT cT] 28)
      obtain ⟨w3, hw3⟩ : ∃ w3, w2.alloc (.cells #[.slice aE nE cE, .slice aB nB cB, .slice aT nT cT] 28) = w3 := ⟨_, rfl⟩
      rw [hw3] at s23
      have HB3 := Lib.hid (HB1.out.trans ((hb2.mono HB1.out.size).trans (s23.mono (Nat.le_trans HB1.out.size hb2.size))))
      have HW3 := Lib.hid hw3
      clear hw3 s23 hb2 HCL z1 z2 q1
      go_wp2_with fail
      rw [HW3.out]
      go_loopg [7, 8, 12] 41 (fun gf s7 s8 s12 wx => ∃ k : Nat, s7 = .string (opnD ⟨#[98, 32, 123, 10]⟩ k) ∧ s8 = .string (shtD ⟨#[125, 10]⟩ k) ∧ s12 = .int .i64 (k : Int) ∧ wx = w3 ∧ n ≤ k + gf ∧ k ≤ n)
      case atStart => exact ⟨0, rfl, rfl, rfl, rfl, by omega, by omega⟩
      case round =>
        obtain ⟨k, rfl, rfl, rfl, rfl, hfu, hk⟩ := hrel
        have z1 : (opnD ⟨#[98, 32, 123, 10]⟩ k).size = k * 4 := opnD_size _ _
        have z2 : (shtD ⟨#[125, 10]⟩ k).size = k * 2 := shtD_size _ _
        by_cases hkn : k < n
        · obtain ⟨g', rfl⟩ : ∃ g', gk = g' + 1 := ⟨gk - 1, by omega⟩
          have q1 : (k : Int) < (n : Int) := by omega
          have z3 : ¬ 9223372036854775807 < (opnD ⟨#[98, 32, 123, 10]⟩ k).size + 4 := by omega
          have z4 : ¬ 9223372036854775807 < 2 + (shtD ⟨#[125, 10]⟩ k).size := by omega
          go_wp2_with fail
          go_roundg g'
          case measure => omega
          case rel => exact ⟨k + 1, rfl, rfl, by push_cast; rfl, rfl, by omega, by omega⟩
        · have q1 : ¬ (k : Int) < (n : Int) := by omega
          obtain rfl : n = k := by omega
          have z5 : ¬ 9223372036854775807 < (opnD ⟨#[98, 32, 123, 10]⟩ n).size + (shtD ⟨#[125, 10]⟩ n).size := by omega
          have HCL := Lib.hid (HP2.out wr (HR.out.below HB3.out))
          clear HP2 hfu hk
          go_wp2_with fail
          go_at_call 11; refine HCL.out.mono ?_
          rintro e w4 ⟨hb4, m4, F4, lo4, rfl, -, -, -⟩
          have HB4 := Lib.hid (HB3.out.trans (hb4.mono HB3.out.size))
          clear hb4 HCL
          go_wp2_with fail
          go_ret
          exact ⟨rfl, HB4.out⟩
end Go.Proofs.YtljgggohjigaoaaGreatDoor
namespace Go.Proofs.YtljgggohjigaoaaGreatDoor
open Go.RowKit Go.Shelf
set_option linter.unusedVariables false
set_option linter.unusedSimpArgs false

set_option maxRecDepth 100000 in
set_option maxHeartbeats 8000000 in
theorem deep_mid {W : World} {x y : Int} {n h : Nat} (hn : n < 40) (hh : h < 6) (hc : n = 24) (hu : wrap64 ((IntKind.u64.wrap x).tmod 40) = (n : Int)) (hv : wrap64 ((IntKind.u64.wrap y).tmod 6) = (h : Int)) (hR : ReadyP W) :
    Calls Tryz.prog 4 #[.int .i64 x, .int .i64 y] W fun e w' => e = .returned (.bool true) ∧ Below W.heap.size W w' := by
  obtain ⟨p1, hp1⟩ : ∃ v, parseF (deepT (ahD h) (beD h) n) = .error (7, v) := by
    rcases deep_all hn hh with ⟨h1, v, h2⟩ | ⟨h1, v, h2⟩
    · omega
    · exact ⟨v, h2⟩
  obtain ⟨f2, hp2⟩ : ∃ f, parseF (blkT n) = .ok f := by
    rcases blk_all hn with ⟨h1, v, h2⟩ | ⟨h1, h2⟩
    · exact ⟨v, h2⟩
    · omega
  have hiA := fun w => idx_ah hh w
  have hiB := fun w => idx_be hh w
  have zA := ahD_size h
  have zB := beD_size h
  obtain ⟨A, hA⟩ : ∃ A, ahD h = A := ⟨_, rfl⟩
  obtain ⟨B, hB⟩ : ∃ B, beD h = B := ⟨_, rfl⟩
  rw [hA, hB] at hp1
  simp only [hA] at hiA
  simp only [hB] at hiB
  rw [hA] at zA
  rw [hB] at zB
  have HP1 : Hid (∀ w, ReadyP w → Calls Tryz.prog 11 #[.string ((((⟨#[97, 32, 123, 10, 120, 32, 61, 32]⟩ ++ opnD A n) ++ ⟨#[49]⟩) ++ shtD B n) ++ ⟨#[10, 125]⟩)] w (ParE w (.error (7, p1)))) := Lib.hid (fun w hw => by
    have := parse_any (t := deepT A B n) hw
    rw [hp1] at this
    exact this)
  have HP2 : Hid (∀ w, ReadyP w → Calls Tryz.prog 11 #[.string (opnD ⟨#[98, 32, 123, 10]⟩ n ++ shtD ⟨#[125, 10]⟩ n)] w (ParE w (.ok f2))) := Lib.hid (fun w hw => by
    have := parse_any (t := blkT n) hw
    rw [hp2] at this
    exact this)
  have HA := Lib.hid (awake5 hR)
  have HR := Lib.hid hR
  have zO : ∀ k, k < 41 → (opnD A k).size ≤ 300 := fun k hk => by
    rw [opnD_size]
    have := Nat.mul_le_mul (Nat.le_of_lt_succ hk) zA
    omega
  have zS : ∀ k, k < 41 → (shtD B k).size ≤ 300 := fun k hk => by
    rw [shtD_size]
    have := Nat.mul_le_mul (Nat.le_of_lt_succ hk) zB
    omega
  have HZ := Lib.hid (And.intro zO zS)
  have HC := Lib.hid hc
  clear hp1 hp2 hA hB hR hh zO zS hc
  go_enter Tryz.func4, Tryz.ntmps4
  go_wp2_with fail
  go_at_call 9; refine HA.out.mono ?_; rintro r w1 ⟨rfl, hb1⟩
  have HB1 := Lib.hid hb1
  clear hb1 HA
  go_wp2_with fail
  clear hiA hiB
  go_loopg [7, 8, 9] 41 (fun gf s7 s8 s9 wx => ∃ k : Nat, s7 = .string (opnD A k) ∧ s8 = .string (shtD B k) ∧ s9 = .int .i64 (k : Int) ∧ wx = w1 ∧ n ≤ k + gf ∧ k ≤ n)
  case atStart => exact ⟨0, rfl, rfl, rfl, rfl, by omega, by omega⟩
  case round =>
    obtain ⟨k, rfl, rfl, rfl, rfl, hfu, hk⟩ := hrel
    have z1 := HZ.out.1 k (by omega)
    have z2 := HZ.out.2 k (by omega)
    by_cases hkn : k < n
    · obtain ⟨g', rfl⟩ : ∃ g', gk = g' + 1 := ⟨gk - 1, by omega⟩
      have q1 : (k : Int) < (n : Int) := by omega
      have z3 : ¬ 9223372036854775807 < (opnD A k).size + A.size := by omega
      have z4 : ¬ 9223372036854775807 < B.size + (shtD B k).size := by omega
      go_wp2_with fail
      go_roundg g'
      case measure => omega
      case rel => exact ⟨k + 1, rfl, rfl, by push_cast; rfl, rfl, by omega, by omega⟩
    · have q1 : ¬ (k : Int) < (n : Int) := by omega
      obtain rfl : n = k := by omega
      have hcc := HC.out
      have q2 : ¬ (n : Int) ≤ 23 := by omega
      have q3 : (23 : Int) < (n : Int) := by omega
      have q4 : (n : Int) ≤ 24 := by omega
      have q5 : ¬ (24 : Int) < (n : Int) := by omega
      have HCL := Lib.hid (HP1.out wr (HR.out.below HB1.out))
      clear HP1 hcc hfu hk
      go_wp2_with fail
      go_at_call 11; refine HCL.out.mono ?_
      rintro e w2 ⟨hb2, D, rfl, hD, hdb⟩
      have s23 := below_new w2 (.cells #[.slice none 0 0, .slice none 0 0, .slice none 0 0] 28)
      obtain ⟨w3, hw3⟩ : ∃ w3, w2.alloc (.cells #[.slice none 0 0, .slice none 0 0, .slice none 0 0] 28) = w3 := ⟨_, rfl⟩
      rw [hw3] at s23
      have HB3 := Lib.hid (HB1.out.trans ((hb2.mono HB1.out.size).trans (s23.mono (Nat.le_trans HB1.out.size hb2.size))))
      have d0 : (w2.alloc (.cells #[.slice none 0 0, .slice none 0 0, .slice none 0 0] 28)).cell? ⟨D, 0, none⟩ = some (.int .i64 7) := (hdb.below (below_new _ _)).cell 0
      clear hdb hD
      have HW3 := Lib.hid hw3
      clear hw3 s23 hb2 HCL z1 z2 q1
      go_wp2_with fail
      rw [HW3.out]
      go_loopg [7, 8, 12] 41 (fun gf s7 s8 s12 wx => ∃ k : Nat, s7 = .string (opnD ⟨#[98, 32, 123, 10]⟩ k) ∧ s8 = .string (shtD ⟨#[125, 10]⟩ k) ∧ s12 = .int .i64 (k : Int) ∧ wx = w3 ∧ n ≤ k + gf ∧ k ≤ n)
      case atStart => exact ⟨0, rfl, rfl, rfl, rfl, by omega, by omega⟩
      case round =>
        obtain ⟨k, rfl, rfl, rfl, rfl, hfu, hk⟩ := hrel
        have z1 : (opnD ⟨#[98, 32, 123, 10]⟩ k).size = k * 4 := opnD_size _ _
        have z2 : (shtD ⟨#[125, 10]⟩ k).size = k * 2 := shtD_size _ _
        by_cases hkn : k < n
        · obtain ⟨g', rfl⟩ : ∃ g', gk = g' + 1 := ⟨gk - 1, by omega⟩
          have q1 : (k : Int) < (n : Int) := by omega
          have z3 : ¬ 9223372036854775807 < (opnD ⟨#[98, 32, 123, 10]⟩ k).size + 4 := by omega
          have z4 : ¬ 9223372036854775807 < 2 + (shtD ⟨#[125, 10]⟩ k).size := by omega
          go_wp2_with fail
          go_roundg g'
          case measure => omega
          case rel => exact ⟨k + 1, rfl, rfl, by push_cast; rfl, rfl, by omega, by omega⟩
        · have q1 : ¬ (k : Int) < (n : Int) := by omega
          obtain rfl : n = k := by omega
          have z5 : ¬ 9223372036854775807 < (opnD ⟨#[98, 32, 123, 10]⟩ n).size + (shtD ⟨#[125, 10]⟩ n).size := by omega
          have HCL := Lib.hid (HP2.out wr (HR.out.below HB3.out))
          clear HP2 hfu hk
          go_wp2_with fail
          go_at_call 11; refine HCL.out.mono ?_
          rintro e w4 ⟨hb4, m4, F4, lo4, rfl, -, -, -⟩
          have HB4 := Lib.hid (HB3.out.trans (hb4.mono HB3.out.size))
          clear hb4 HCL
          go_wp2_with fail
          go_ret
          exact ⟨rfl, HB4.out⟩
end Go.Proofs.YtljgggohjigaoaaGreatDoor
