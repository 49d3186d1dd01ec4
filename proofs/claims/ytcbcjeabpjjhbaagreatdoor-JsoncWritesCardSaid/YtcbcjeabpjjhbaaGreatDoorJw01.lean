/- The document's Rune, way by way (gen/genRuneJ.py) · The document's Rune, way by way (gen/genRuneJ.py) · The document's Rune, way by way (gen/genRuneJ.py) · The document's Rune, way by way (gen/genRuneJ.py) · The document's Rune, way by way (gen/genRuneJ.py) -/
import Derived.Test.YtcbcjeabpjjhbaaGreatDoorJb24
namespace Go.Proofs.YtcbcjeabpjjhbaaGreatDoor
open Go.RowKit
set_option linter.unusedVariables false

set_option maxRecDepth 100000 in
set_option maxHeartbeats 4000000 in
theorem rune_neg {a : Nat} {t : ByteArray} {z0 : Int} (ha : a ≤ 100000) (h0 : OneAt t (a : Int) z0) (c0 : -1 ≤ z0) (c1 : z0 < 0) : RuneIs t a 0 := fun W => by
  have i0 : (0 : Int) ≤ (a : Int) := by omega
  have H0 : Hid (∀ w : World, Calls Tryz.prog 73 #[.string t, .int .i64 (a : Int)] w fun e w' => e = .returned (.int .i64 z0) ∧ w = w') := Lib.hid h0
  clear h0
  go_enter Tryz.func56, Tryz.ntmps56
  go_wp2_with (go_at_call 73; with_reducible refine (H0.out _).mono ?_; rintro e w' ⟨rfl, rfl⟩)
  all_goals (first | (exfalso; omega) | (go_ret; exact ⟨rfl, rfl⟩))
set_option maxRecDepth 100000 in
set_option maxHeartbeats 4000000 in
theorem rune_asc {a : Nat} {t : ByteArray} {z0 : Int} (ha : a ≤ 100000) (h0 : OneAt t (a : Int) z0) (c0 : 0 ≤ z0) (c1 : z0 < 128) : RuneIs t a 1 := fun W => by
  have i0 : (0 : Int) ≤ (a : Int) := by omega
  have H0 : Hid (∀ w : World, Calls Tryz.prog 73 #[.string t, .int .i64 (a : Int)] w fun e w' => e = .returned (.int .i64 z0) ∧ w = w') := Lib.hid h0
  clear h0
  go_enter Tryz.func56, Tryz.ntmps56
  go_wp2_with (go_at_call 73; with_reducible refine (H0.out _).mono ?_; rintro e w' ⟨rfl, rfl⟩)
  all_goals (first | (exfalso; omega) | (go_ret; exact ⟨rfl, rfl⟩))
set_option maxRecDepth 100000 in
set_option maxHeartbeats 4000000 in
theorem rune_low {a : Nat} {t : ByteArray} {z0 : Int} (ha : a ≤ 100000) (h0 : OneAt t (a : Int) z0) (c0 : 128 ≤ z0) (c1 : ¬ 194 ≤ z0) (c2 : ¬ 224 ≤ z0) (c3 : ¬ 240 ≤ z0) : RuneIs t a 0 := fun W => by
  have i0 : (0 : Int) ≤ (a : Int) := by omega
  have H0 : Hid (∀ w : World, Calls Tryz.prog 73 #[.string t, .int .i64 (a : Int)] w fun e w' => e = .returned (.int .i64 z0) ∧ w = w') := Lib.hid h0
  clear h0
  go_enter Tryz.func56, Tryz.ntmps56
  go_wp2_with (go_at_call 73; with_reducible refine (H0.out _).mono ?_; rintro e w' ⟨rfl, rfl⟩)
  all_goals (first | (exfalso; omega) | (go_ret; exact ⟨rfl, rfl⟩))
set_option maxRecDepth 100000 in
set_option maxHeartbeats 4000000 in
theorem rune_top {a : Nat} {t : ByteArray} {z0 : Int} (ha : a ≤ 100000) (h0 : OneAt t (a : Int) z0) (c0 : 194 ≤ z0) (c1 : 224 ≤ z0) (c2 : 240 ≤ z0) (c3 : 245 ≤ z0) (c4 : z0 < 256) : RuneIs t a 0 := fun W => by
  have i0 : (0 : Int) ≤ (a : Int) := by omega
  have H0 : Hid (∀ w : World, Calls Tryz.prog 73 #[.string t, .int .i64 (a : Int)] w fun e w' => e = .returned (.int .i64 z0) ∧ w = w') := Lib.hid h0
  clear h0
  go_enter Tryz.func56, Tryz.ntmps56
  go_wp2_with (go_at_call 73; with_reducible refine (H0.out _).mono ?_; rintro e w' ⟨rfl, rfl⟩)
  all_goals (first | (exfalso; omega) | (go_ret; exact ⟨rfl, rfl⟩))
end Go.Proofs.YtcbcjeabpjjhbaaGreatDoor
namespace Go.Proofs.YtcbcjeabpjjhbaaGreatDoor
open Go.RowKit
set_option linter.unusedVariables false

set_option maxRecDepth 100000 in
set_option maxHeartbeats 4000000 in
theorem rune_two {a : Nat} {t : ByteArray} {z0 : Int} (ha : a ≤ 100000) (h0 : OneAt t (a : Int) z0) (m1 : MoreAt t ((a : Int) + 1) true) (c0 : 194 ≤ z0) (c1 : z0 < 224) (c2 : ¬ 224 ≤ z0) (c3 : ¬ 240 ≤ z0) : RuneIs t a 2 := fun W => by
  have i0 : (0 : Int) ≤ (a : Int) := by omega
  have H0 : Hid (∀ w : World, Calls Tryz.prog 73 #[.string t, .int .i64 (a : Int)] w fun e w' => e = .returned (.int .i64 z0) ∧ w = w') := Lib.hid h0
  have M1 : Hid (∀ w : World, Calls Tryz.prog 74 #[.string t, .int .i64 ((a : Int) + 1)] w fun e w' => e = .returned (.bool true) ∧ w = w') := Lib.hid m1
  clear h0 m1
  go_enter Tryz.func56, Tryz.ntmps56
  go_wp2_with (first | (go_at_call 73; with_reducible refine (H0.out _).mono ?_; rintro e w' ⟨rfl, rfl⟩) | (go_at_call 74; with_reducible refine (M1.out _).mono ?_; rintro e w' ⟨rfl, rfl⟩))
  all_goals (first | (exfalso; omega) | (go_ret; exact ⟨rfl, rfl⟩))
set_option maxRecDepth 100000 in
set_option maxHeartbeats 4000000 in
theorem rune_two0 {a : Nat} {t : ByteArray} {z0 : Int} (ha : a ≤ 100000) (h0 : OneAt t (a : Int) z0) (m1 : MoreAt t ((a : Int) + 1) false) (c0 : 194 ≤ z0) (c1 : z0 < 224) (c2 : ¬ 224 ≤ z0) (c3 : ¬ 240 ≤ z0) : RuneIs t a 0 := fun W => by
  have i0 : (0 : Int) ≤ (a : Int) := by omega
  have H0 : Hid (∀ w : World, Calls Tryz.prog 73 #[.string t, .int .i64 (a : Int)] w fun e w' => e = .returned (.int .i64 z0) ∧ w = w') := Lib.hid h0
  have M1 : Hid (∀ w : World, Calls Tryz.prog 74 #[.string t, .int .i64 ((a : Int) + 1)] w fun e w' => e = .returned (.bool false) ∧ w = w') := Lib.hid m1
  clear h0 m1
  go_enter Tryz.func56, Tryz.ntmps56
  go_wp2_with (first | (go_at_call 73; with_reducible refine (H0.out _).mono ?_; rintro e w' ⟨rfl, rfl⟩) | (go_at_call 74; with_reducible refine (M1.out _).mono ?_; rintro e w' ⟨rfl, rfl⟩))
  all_goals (first | (exfalso; omega) | (go_ret; exact ⟨rfl, rfl⟩))
end Go.Proofs.YtcbcjeabpjjhbaaGreatDoor
namespace Go.Proofs.YtcbcjeabpjjhbaaGreatDoor
open Go.RowKit
set_option linter.unusedVariables false

set_option maxRecDepth 100000 in
set_option maxHeartbeats 4000000 in
theorem rune_three0 {a : Nat} {t : ByteArray} {z0 : Int} (ha : a ≤ 100000) (h0 : OneAt t (a : Int) z0) (m1 : MoreAt t ((a : Int) + 1) false) (c0 : ¬ z0 < 0) (c1 : ¬ z0 < 128) (c2 : 194 ≤ z0) (c3 : ¬ z0 < 224) (c4 : 224 ≤ z0) (c5 : z0 < 240) (c6 : ¬ 240 ≤ z0) : RuneIs t a 0 := fun W => by
  have i0 : (0 : Int) ≤ (a : Int) := by omega
  have H0 : Hid (∀ w : World, Calls Tryz.prog 73 #[.string t, .int .i64 (a : Int)] w fun e w' => e = .returned (.int .i64 z0) ∧ w = w') := Lib.hid h0
  have M1 : Hid (∀ w : World, Calls Tryz.prog 74 #[.string t, .int .i64 ((a : Int) + 1)] w fun e w' => e = .returned (.bool false) ∧ w = w') := Lib.hid m1
  clear h0 m1
  go_enter Tryz.func56, Tryz.ntmps56
  go_wp2_with (first | (go_at_call 73; with_reducible refine (H0.out _).mono ?_; rintro e w' ⟨rfl, rfl⟩) | (go_at_call 74; with_reducible refine (M1.out _).mono ?_; rintro e w' ⟨rfl, rfl⟩))
  all_goals (first | (exfalso; omega) | (go_ret; exact ⟨rfl, rfl⟩))
set_option maxRecDepth 100000 in
set_option maxHeartbeats 4000000 in
theorem rune_three1 {a : Nat} {t : ByteArray} {z0 : Int} (ha : a ≤ 100000) (h0 : OneAt t (a : Int) z0) (m1 : MoreAt t ((a : Int) + 1) true) (m2 : MoreAt t ((a : Int) + 2) false) (c0 : ¬ z0 < 0) (c1 : ¬ z0 < 128) (c2 : 194 ≤ z0) (c3 : ¬ z0 < 224) (c4 : 224 ≤ z0) (c5 : z0 < 240) (c6 : ¬ 240 ≤ z0) : RuneIs t a 0 := fun W => by
  have i0 : (0 : Int) ≤ (a : Int) := by omega
  have H0 : Hid (∀ w : World, Calls Tryz.prog 73 #[.string t, .int .i64 (a : Int)] w fun e w' => e = .returned (.int .i64 z0) ∧ w = w') := Lib.hid h0
  have M1 : Hid (∀ w : World, Calls Tryz.prog 74 #[.string t, .int .i64 ((a : Int) + 1)] w fun e w' => e = .returned (.bool true) ∧ w = w') := Lib.hid m1
  have M2 : Hid (∀ w : World, Calls Tryz.prog 74 #[.string t, .int .i64 ((a : Int) + 2)] w fun e w' => e = .returned (.bool false) ∧ w = w') := Lib.hid m2
  clear h0 m1 m2
  go_enter Tryz.func56, Tryz.ntmps56
  go_wp2_with (first | (go_at_call 73; with_reducible refine (H0.out _).mono ?_; rintro e w' ⟨rfl, rfl⟩) | (go_at_call 74; with_reducible refine (M1.out _).mono ?_; rintro e w' ⟨rfl, rfl⟩) | (go_at_call 74; with_reducible refine (M2.out _).mono ?_; rintro e w' ⟨rfl, rfl⟩))
  all_goals (first | (exfalso; omega) | (go_ret; exact ⟨rfl, rfl⟩))
end Go.Proofs.YtcbcjeabpjjhbaaGreatDoor
namespace Go.Proofs.YtcbcjeabpjjhbaaGreatDoor
open Go.RowKit
set_option linter.unusedVariables false

set_option maxRecDepth 100000 in
set_option maxHeartbeats 4000000 in
theorem rune_threeA {a : Nat} {t : ByteArray} {z0 z1 z2 : Int} (ha : a ≤ 100000) (h0 : OneAt t (a : Int) z0) (h1 : OneAt t ((a : Int) + 1) z1) (l1 : 128 ≤ z1) (u1 : z1 < 192) (h2 : OneAt t ((a : Int) + 2) z2) (l2 : 128 ≤ z2) (u2 : z2 < 192) (m1 : MoreAt t ((a : Int) + 1) true) (m2 : MoreAt t ((a : Int) + 2) true) (c0 : ¬ z0 < 0) (c1 : ¬ z0 < 128) (c2 : 194 ≤ z0) (c3 : ¬ z0 < 224) (c4 : 224 ≤ z0) (c5 : z0 < 240) (c6 : ¬ 240 ≤ z0) (t0 : 2048 ≤ (z0 - 224) * 4096 + (z1 - 128) * 64 + z2 - 128) (t1 : (z0 - 224) * 4096 + (z1 - 128) * 64 + z2 - 128 < 55296) : RuneIs t a 3 := fun W => by
  have i0 : (0 : Int) ≤ (a : Int) := by omega
  have H0 : Hid (∀ w : World, Calls Tryz.prog 73 #[.string t, .int .i64 (a : Int)] w fun e w' => e = .returned (.int .i64 z0) ∧ w = w') := Lib.hid h0
  have H1 : Hid (∀ w : World, Calls Tryz.prog 73 #[.string t, .int .i64 ((a : Int) + 1)] w fun e w' => e = .returned (.int .i64 z1) ∧ w = w') := Lib.hid h1
  have H2 : Hid (∀ w : World, Calls Tryz.prog 73 #[.string t, .int .i64 ((a : Int) + 2)] w fun e w' => e = .returned (.int .i64 z2) ∧ w = w') := Lib.hid h2
  have M1 : Hid (∀ w : World, Calls Tryz.prog 74 #[.string t, .int .i64 ((a : Int) + 1)] w fun e w' => e = .returned (.bool true) ∧ w = w') := Lib.hid m1
  have M2 : Hid (∀ w : World, Calls Tryz.prog 74 #[.string t, .int .i64 ((a : Int) + 2)] w fun e w' => e = .returned (.bool true) ∧ w = w') := Lib.hid m2
  clear h0 h1 h2 m1 m2
  go_enter Tryz.func56, Tryz.ntmps56
  go_wp2_with (first | (go_at_call 73; with_reducible refine (H0.out _).mono ?_; rintro e w' ⟨rfl, rfl⟩) | (go_at_call 74; with_reducible refine (M1.out _).mono ?_; rintro e w' ⟨rfl, rfl⟩) | (go_at_call 74; with_reducible refine (M2.out _).mono ?_; rintro e w' ⟨rfl, rfl⟩) | (go_at_call 73; with_reducible refine (H1.out _).mono ?_; rintro e w' ⟨rfl, rfl⟩) | (go_at_call 73; with_reducible refine (H2.out _).mono ?_; rintro e w' ⟨rfl, rfl⟩))
  all_goals (first | (exfalso; omega) | (go_ret; exact ⟨rfl, rfl⟩))
set_option maxRecDepth 100000 in
set_option maxHeartbeats 4000000 in
theorem rune_threeB {a : Nat} {t : ByteArray} {z0 z1 z2 : Int} (ha : a ≤ 100000) (h0 : OneAt t (a : Int) z0) (h1 : OneAt t ((a : Int) + 1) z1) (l1 : 128 ≤ z1) (u1 : z1 < 192) (h2 : OneAt t ((a : Int) + 2) z2) (l2 : 128 ≤ z2) (u2 : z2 < 192) (m1 : MoreAt t ((a : Int) + 1) true) (m2 : MoreAt t ((a : Int) + 2) true) (c0 : ¬ z0 < 0) (c1 : ¬ z0 < 128) (c2 : 194 ≤ z0) (c3 : ¬ z0 < 224) (c4 : 224 ≤ z0) (c5 : z0 < 240) (c6 : ¬ 240 ≤ z0) (t0 : 2048 ≤ (z0 - 224) * 4096 + (z1 - 128) * 64 + z2 - 128) (t1 : ¬ (z0 - 224) * 4096 + (z1 - 128) * 64 + z2 - 128 < 55296) (t2 : (z0 - 224) * 4096 + (z1 - 128) * 64 + z2 - 128 > 57343) : RuneIs t a 3 := fun W => by
  have i0 : (0 : Int) ≤ (a : Int) := by omega
  have H0 : Hid (∀ w : World, Calls Tryz.prog 73 #[.string t, .int .i64 (a : Int)] w fun e w' => e = .returned (.int .i64 z0) ∧ w = w') := Lib.hid h0
  have H1 : Hid (∀ w : World, Calls Tryz.prog 73 #[.string t, .int .i64 ((a : Int) + 1)] w fun e w' => e = .returned (.int .i64 z1) ∧ w = w') := Lib.hid h1
  have H2 : Hid (∀ w : World, Calls Tryz.prog 73 #[.string t, .int .i64 ((a : Int) + 2)] w fun e w' => e = .returned (.int .i64 z2) ∧ w = w') := Lib.hid h2
  have M1 : Hid (∀ w : World, Calls Tryz.prog 74 #[.string t, .int .i64 ((a : Int) + 1)] w fun e w' => e = .returned (.bool true) ∧ w = w') := Lib.hid m1
  have M2 : Hid (∀ w : World, Calls Tryz.prog 74 #[.string t, .int .i64 ((a : Int) + 2)] w fun e w' => e = .returned (.bool true) ∧ w = w') := Lib.hid m2
  clear h0 h1 h2 m1 m2
  go_enter Tryz.func56, Tryz.ntmps56
  go_wp2_with (first | (go_at_call 73; with_reducible refine (H0.out _).mono ?_; rintro e w' ⟨rfl, rfl⟩) | (go_at_call 74; with_reducible refine (M1.out _).mono ?_; rintro e w' ⟨rfl, rfl⟩) | (go_at_call 74; with_reducible refine (M2.out _).mono ?_; rintro e w' ⟨rfl, rfl⟩) | (go_at_call 73; with_reducible refine (H1.out _).mono ?_; rintro e w' ⟨rfl, rfl⟩) | (go_at_call 73; with_reducible refine (H2.out _).mono ?_; rintro e w' ⟨rfl, rfl⟩))
  all_goals (first | (exfalso; omega) | (go_ret; exact ⟨rfl, rfl⟩))
end Go.Proofs.YtcbcjeabpjjhbaaGreatDoor
namespace Go.Proofs.YtcbcjeabpjjhbaaGreatDoor
open Go.RowKit
set_option linter.unusedVariables false

set_option maxRecDepth 100000 in
set_option maxHeartbeats 4000000 in
theorem rune_three2 {a : Nat} {t : ByteArray} {z0 z1 z2 : Int} (ha : a ≤ 100000) (h0 : OneAt t (a : Int) z0) (h1 : OneAt t ((a : Int) + 1) z1) (l1 : 128 ≤ z1) (u1 : z1 < 192) (h2 : OneAt t ((a : Int) + 2) z2) (l2 : 128 ≤ z2) (u2 : z2 < 192) (m1 : MoreAt t ((a : Int) + 1) true) (m2 : MoreAt t ((a : Int) + 2) true) (c0 : ¬ z0 < 0) (c1 : ¬ z0 < 128) (c2 : 194 ≤ z0) (c3 : ¬ z0 < 224) (c4 : 224 ≤ z0) (c5 : z0 < 240) (c6 : ¬ 240 ≤ z0) (t0 : ¬ 2048 ≤ (z0 - 224) * 4096 + (z1 - 128) * 64 + z2 - 128) : RuneIs t a 0 := fun W => by
  have i0 : (0 : Int) ≤ (a : Int) := by omega
  have H0 : Hid (∀ w : World, Calls Tryz.prog 73 #[.string t, .int .i64 (a : Int)] w fun e w' => e = .returned (.int .i64 z0) ∧ w = w') := Lib.hid h0
  have H1 : Hid (∀ w : World, Calls Tryz.prog 73 #[.string t, .int .i64 ((a : Int) + 1)] w fun e w' => e = .returned (.int .i64 z1) ∧ w = w') := Lib.hid h1
  have H2 : Hid (∀ w : World, Calls Tryz.prog 73 #[.string t, .int .i64 ((a : Int) + 2)] w fun e w' => e = .returned (.int .i64 z2) ∧ w = w') := Lib.hid h2
  have M1 : Hid (∀ w : World, Calls Tryz.prog 74 #[.string t, .int .i64 ((a : Int) + 1)] w fun e w' => e = .returned (.bool true) ∧ w = w') := Lib.hid m1
  have M2 : Hid (∀ w : World, Calls Tryz.prog 74 #[.string t, .int .i64 ((a : Int) + 2)] w fun e w' => e = .returned (.bool true) ∧ w = w') := Lib.hid m2
  clear h0 h1 h2 m1 m2
  go_enter Tryz.func56, Tryz.ntmps56
  go_wp2_with (first | (go_at_call 73; with_reducible refine (H0.out _).mono ?_; rintro e w' ⟨rfl, rfl⟩) | (go_at_call 74; with_reducible refine (M1.out _).mono ?_; rintro e w' ⟨rfl, rfl⟩) | (go_at_call 74; with_reducible refine (M2.out _).mono ?_; rintro e w' ⟨rfl, rfl⟩) | (go_at_call 73; with_reducible refine (H1.out _).mono ?_; rintro e w' ⟨rfl, rfl⟩) | (go_at_call 73; with_reducible refine (H2.out _).mono ?_; rintro e w' ⟨rfl, rfl⟩))
  all_goals (first | (exfalso; omega) | (go_ret; exact ⟨rfl, rfl⟩))
set_option maxRecDepth 100000 in
set_option maxHeartbeats 4000000 in
theorem rune_three3 {a : Nat} {t : ByteArray} {z0 z1 z2 : Int} (ha : a ≤ 100000) (h0 : OneAt t (a : Int) z0) (h1 : OneAt t ((a : Int) + 1) z1) (l1 : 128 ≤ z1) (u1 : z1 < 192) (h2 : OneAt t ((a : Int) + 2) z2) (l2 : 128 ≤ z2) (u2 : z2 < 192) (m1 : MoreAt t ((a : Int) + 1) true) (m2 : MoreAt t ((a : Int) + 2) true) (c0 : ¬ z0 < 0) (c1 : ¬ z0 < 128) (c2 : 194 ≤ z0) (c3 : ¬ z0 < 224) (c4 : 224 ≤ z0) (c5 : z0 < 240) (c6 : ¬ 240 ≤ z0) (t0 : 2048 ≤ (z0 - 224) * 4096 + (z1 - 128) * 64 + z2 - 128) (t1 : ¬ (z0 - 224) * 4096 + (z1 - 128) * 64 + z2 - 128 < 55296) (t2 : ¬ (z0 - 224) * 4096 + (z1 - 128) * 64 + z2 - 128 > 57343) : RuneIs t a 0 := fun W => by
  have i0 : (0 : Int) ≤ (a : Int) := by omega
  have H0 : Hid (∀ w : World, Calls Tryz.prog 73 #[.string t, .int .i64 (a : Int)] w fun e w' => e = .returned (.int .i64 z0) ∧ w = w') := Lib.hid h0
  have H1 : Hid (∀ w : World, Calls Tryz.prog 73 #[.string t, .int .i64 ((a : Int) + 1)] w fun e w' => e = .returned (.int .i64 z1) ∧ w = w') := Lib.hid h1
  have H2 : Hid (∀ w : World, Calls Tryz.prog 73 #[.string t, .int .i64 ((a : Int) + 2)] w fun e w' => e = .returned (.int .i64 z2) ∧ w = w') := Lib.hid h2
  have M1 : Hid (∀ w : World, Calls Tryz.prog 74 #[.string t, .int .i64 ((a : Int) + 1)] w fun e w' => e = .returned (.bool true) ∧ w = w') := Lib.hid m1
  have M2 : Hid (∀ w : World, Calls Tryz.prog 74 #[.string t, .int .i64 ((a : Int) + 2)] w fun e w' => e = .returned (.bool true) ∧ w = w') := Lib.hid m2
  clear h0 h1 h2 m1 m2
  go_enter Tryz.func56, Tryz.ntmps56
  go_wp2_with (first | (go_at_call 73; with_reducible refine (H0.out _).mono ?_; rintro e w' ⟨rfl, rfl⟩) | (go_at_call 74; with_reducible refine (M1.out _).mono ?_; rintro e w' ⟨rfl, rfl⟩) | (go_at_call 74; with_reducible refine (M2.out _).mono ?_; rintro e w' ⟨rfl, rfl⟩) | (go_at_call 73; with_reducible refine (H1.out _).mono ?_; rintro e w' ⟨rfl, rfl⟩) | (go_at_call 73; with_reducible refine (H2.out _).mono ?_; rintro e w' ⟨rfl, rfl⟩))
  all_goals (first | (exfalso; omega) | (go_ret; exact ⟨rfl, rfl⟩))
end Go.Proofs.YtcbcjeabpjjhbaaGreatDoor
