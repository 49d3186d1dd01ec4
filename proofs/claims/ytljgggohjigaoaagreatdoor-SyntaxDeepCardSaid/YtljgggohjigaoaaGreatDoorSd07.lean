/- SyntaxDeep: the walk above 24 · SyntaxDeep, whatever the input -/
import Derived.OwnWalk
import Derived.Test.YtljgggohjigaoaaGreatDoorSd06
import Derived.Test.YtljgggohjigaoaaGreatDoorSy39
namespace Go.Proofs.YtljgggohjigaoaaGreatDoor
open Go.RowKit Go.Shelf
set_option linter.unusedVariables false
set_option linter.unusedSimpArgs false

set_option maxRecDepth 100000 in
set_option maxHeartbeats 8000000 in
theorem deep_high {W : World} {x y : Int} {n h : Nat} (hn : n < 40) (hh : h < 6) (hc : 24 < n) (hu : wrap64 ((IntKind.u64.wrap x).tmod 40) = (n : Int)) (hv : wrap64 ((IntKind.u64.wrap y).tmod 6) = (h : Int)) (hR : ReadyP W) :
    Calls Tryz.prog 4 #[.int .i64 x, .int .i64 y] W fun e w' => e = .returned (.bool true) ∧ Below W.heap.size W w' := by
  obtain ⟨p1, hp1⟩ : ∃ v, parseF (deepT (ahD h) (beD h) n) = .error (7, v) := by
    rcases deep_all hn hh with ⟨h1, v, h2⟩ | ⟨h1, v, h2⟩
    · omega
    · exact ⟨v, h2⟩
  have hp2 : parseF (blkT n) = .error (7, 98) := by
    rcases blk_all hn with ⟨h1, v, h2⟩ | ⟨h1, h2⟩
    · omega
    · exact h2
  have hiA := fun w => idx_ah hh w
  have hiB := fun w => idx_be hh w
  have zA := ahD_size h
  have zB := beD_size h
  obtain ⟨A, hA⟩ : ∃ A, ahD h = A := ⟨_, rfl⟩
  obtain ⟨B, hB⟩ : ∃ B, beD h = B := ⟨_, rfl⟩
  rw [hA, hB] at hp1
  simp only [hA] at hiA
  simp only [hB] at hiB
  rw [hA] at zA
  rw [hB] at zB
  have HP1 : Hid (∀ w, ReadyP w → Calls Tryz.prog 11 #[.string ((((⟨#[97, 32, 123, 10, 120, 32, 61, 32]⟩ ++ opnD A n) ++ ⟨#[49]⟩) ++ shtD B n) ++ ⟨#[10, 125]⟩)] w (ParE w (.error (7, p1)))) := Lib.hid (fun w hw => by
    have := parse_any (t := deepT A B n) hw
    rw [hp1] at this
    exact this)
  have HP2 : Hid (∀ w, ReadyP w → Calls Tryz.prog 11 #[.string (opnD ⟨#[98, 32, 123, 10]⟩ n ++ shtD ⟨#[125, 10]⟩ n)] w (ParE w (.error (7, 98)))) := Lib.hid (fun w hw => by
    have := parse_any (t := blkT n) hw
    rw [hp2] at this
    exact this)
  have HA := Lib.hid (awake5 hR)
  have HR := Lib.hid hR
  have zO : ∀ k, k < 41 → (opnD A k).size ≤ 300 := fun k hk => by
    rw [opnD_size]
    have := Nat.mul_le_mul (Nat.le_of_lt_succ hk) zA
    omega
  have zS : ∀ k, k < 41 → (shtD B k).size ≤ 300 := fun k hk => by
    rw [shtD_size]
    have := Nat.mul_le_mul (Nat.le_of_lt_succ hk) zB
    omega
  have HZ := Lib.hid (And.intro zO zS)
  have HC := Lib.hid hc
  clear hp1 hp2 hA hB hR hh zO zS hc
  go_enter Tryz.func4, Tryz.ntmps4
  go_wp2_with fail
  go_at_call 9; refine HA.out.mono ?_; rintro r w1 ⟨rfl, hb1⟩
  have HB1 := Lib.hid hb1
  clear hb1 HA
  go_wp2_with fail
  clear hiA hiB
  go_loopg [7, 8, 9] 41 (fun gf s7 s8 s9 wx => ∃ k : Nat, s7 = .string (opnD A k) ∧ s8 = .string (shtD B k) ∧ s9 = .int .i64 (k : Int) ∧ wx = w1 ∧ n ≤ k + gf ∧ k ≤ n)
  case atStart => exact ⟨0, rfl, rfl, rfl, rfl, by omega, by omega⟩
  case round =>
    obtain ⟨k, rfl, rfl, rfl, rfl, hfu, hk⟩ := hrel
    have z1 := HZ.out.1 k (by omega)
    have z2 := HZ.out.2 k (by omega)
    by_cases hkn : k < n
    · obtain ⟨g', rfl⟩ : ∃ g', gk = g' + 1 := ⟨gk - 1, by omega⟩
      have q1 : (k : Int) < (n : Int) := by omega
      have z3 : ¬ 9223372036854775807 < (opnD A k).size + A.size := by omega
      have z4 : ¬ 9223372036854775807 < B.size + (shtD B k).size := by omega
      go_wp2_with fail
      go_roundg g'
      case measure => omega
      case rel => exact ⟨k + 1, rfl, rfl, by push_cast; rfl, rfl, by omega, by omega⟩
    · have q1 : ¬ (k : Int) < (n : Int) := by omega
      obtain rfl : n = k := by omega
      have hcc := HC.out
      have q2 : ¬ (n : Int) ≤ 23 := by omega
      have q3 : (23 : Int) < (n : Int) := by omega
      have q4 : ¬ (n : Int) ≤ 24 := by omega
      have q5 : (24 : Int) < (n : Int) := by omega
      have HCL := Lib.hid (HP1.out wr (HR.out.below HB1.out))
      clear HP1 hcc hfu hk
      go_wp2_with fail
      go_at_call 11; refine HCL.out.mono ?_
      rintro e w2 ⟨hb2, D, rfl, hD, hdb⟩
      have s23 := below_new w2 (.cells #[.slice none 0 0, .slice none 0 0, .slice none 0 0] 28)
      obtain ⟨w3, hw3⟩ : ∃ w3, w2.alloc (.cells #[.slice none 0 0, .slice none 0 0, .slice none 0 0] 28) = w3 := ⟨_, rfl⟩
      rw [hw3] at s23
      have HB3 := Lib.hid (HB1.out.trans ((hb2.mono HB1.out.size).trans (s23.mono (Nat.le_trans HB1.out.size hb2.size))))
      have d0 : (w2.alloc (.cells #[.slice none 0 0, .slice none 0 0, .slice none 0 0] 28)).cell? ⟨D, 0, none⟩ = some (.int .i64 7) := (hdb.below (below_new _ _)).cell 0
      clear hdb hD
      have HW3 := Lib.hid hw3
      clear hw3 s23 hb2 HCL z1 z2 q1
      go_wp2_with fail
      rw [HW3.out]
      go_loopg [7, 8, 12] 41 (fun gf s7 s8 s12 wx => ∃ k : Nat, s7 = .string (opnD ⟨#[98, 32, 123, 10]⟩ k) ∧ s8 = .string (shtD ⟨#[125, 10]⟩ k) ∧ s12 = .int .i64 (k : Int) ∧ wx = w3 ∧ n ≤ k + gf ∧ k ≤ n)
      case atStart => exact ⟨0, rfl, rfl, rfl, rfl, by omega, by omega⟩
      case round =>
        obtain ⟨k, rfl, rfl, rfl, rfl, hfu, hk⟩ := hrel
        have z1 : (opnD ⟨#[98, 32, 123, 10]⟩ k).size = k * 4 := opnD_size _ _
        have z2 : (shtD ⟨#[125, 10]⟩ k).size = k * 2 := shtD_size _ _
        by_cases hkn : k < n
        · obtain ⟨g', rfl⟩ : ∃ g', gk = g' + 1 := ⟨gk - 1, by omega⟩
          have q1 : (k : Int) < (n : Int) := by omega
          have z3 : ¬ 9223372036854775807 < (opnD ⟨#[98, 32, 123, 10]⟩ k).size + 4 := by omega
          have z4 : ¬ 9223372036854775807 < 2 + (shtD ⟨#[125, 10]⟩ k).size := by omega
          go_wp2_with fail
          go_roundg g'
          case measure => omega
          case rel => exact ⟨k + 1, rfl, rfl, by push_cast; rfl, rfl, by omega, by omega⟩
        · have q1 : ¬ (k : Int) < (n : Int) := by omega
          obtain rfl : n = k := by omega
          have z5 : ¬ 9223372036854775807 < (opnD ⟨#[98, 32, 123, 10]⟩ n).size + (shtD ⟨#[125, 10]⟩ n).size := by omega
          have HCL := Lib.hid (HP2.out wr (HR.out.below HB3.out))
          clear HP2 hfu hk
          go_wp2_with fail
          go_at_call 11; refine HCL.out.mono ?_
          rintro e w4 ⟨hb4, D4, rfl, hD4, hdb4⟩
          have v0 := hdb4.cell 0
          have v2 := hdb4.cell 2
          clear hdb4 hD4
          have HB4 := Lib.hid (HB3.out.trans (hb4.mono HB3.out.size))
          clear hb4 HCL
          go_wp2_with fail
          go_ret
          exact ⟨rfl, HB4.out⟩
end Go.Proofs.YtljgggohjigaoaaGreatDoor
namespace Go.Proofs.YtljgggohjigaoaaGreatDoor
open Go.RowKit Go.Shelf
theorem deep5_any {W : World} (x : Int) (_hx1 : -9223372036854775808 ≤ x) (_hx2 : x ≤ 9223372036854775807) (y : Int) (_hy1 : -9223372036854775808 ≤ y) (_hy2 : y ≤ 9223372036854775807) (hW : ReadyP W) :
    Calls Tryz.prog 4 #[.int .i64 x, .int .i64 y] W fun e w' => e = .returned (.bool true) ∧ Below W.heap.size W w' := by
  obtain ⟨n, hn, hu⟩ := mod_of x 40 (by decide) (by decide)
  obtain ⟨h, hh, hv⟩ := mod_of y 6 (by decide) (by decide)
  by_cases h1 : n ≤ 23
  · exact deep_low hn hh h1 hu hv hW
  · by_cases h2 : n = 24
    · exact deep_mid hn hh h2 hu hv hW
    · exact deep_high hn hh (by omega) hu hv hW
end Go.Proofs.YtljgggohjigaoaaGreatDoor
