/- The document's Rune, way by way (gen/genRuneJ.py) · The document's Rune, way by way (gen/genRuneJ.py) · The document's Rune, way by way (gen/genRuneJ.py) · The document's Rune, way by way (gen/genRuneJ.py) · The document's Rune, way by way (gen/genRuneJ.py) · The document's Rune, way by way (gen/genRuneJ.py) · The document's Rune, whole -/
import Derived.Test.YtnmfoedfllmclaaGreatDoorJr12
namespace Go.Proofs.YtnmfoedfllmclaaGreatDoor
open Go.RowKit
set_option linter.unusedVariables false

set_option maxRecDepth 100000 in
set_option maxHeartbeats 4000000 in
theorem rune_three0 {a : Nat} {t : ByteArray} {z0 : Int} (ha : a ≤ 100000) (h0 : OneAt t (a : Int) z0) (m1 : MoreAt t ((a : Int) + 1) false) (c0 : ¬ z0 < 0) (c1 : ¬ z0 < 128) (c2 : 194 ≤ z0) (c3 : ¬ z0 < 224) (c4 : 224 ≤ z0) (c5 : z0 < 240) (c6 : ¬ 240 ≤ z0) : RuneIs t a 0 := fun W => by
  have i0 : (0 : Int) ≤ (a : Int) := by omega
  have H0 : Hid (∀ w : World, Calls Tryz.prog 73 #[.string t, .int .i64 (a : Int)] w fun e w' => e = .returned (.int .i64 z0) ∧ w = w') := Lib.hid h0
  have M1 : Hid (∀ w : World, Calls Tryz.prog 74 #[.string t, .int .i64 ((a : Int) + 1)] w fun e w' => e = .returned (.bool false) ∧ w = w') := Lib.hid m1
  clear h0 m1
  go_enter Tryz.func56, Tryz.ntmps56
  go_wp2_with (first | (go_at_call 73; with_reducible refine (H0.out _).mono ?_; rintro e w' ⟨rfl, rfl⟩) | (go_at_call 74; with_reducible refine (M1.out _).mono ?_; rintro e w' ⟨rfl, rfl⟩))
  all_goals (first | (exfalso; omega) | (go_ret; exact ⟨rfl, rfl⟩))
set_option maxRecDepth 100000 in
set_option maxHeartbeats 4000000 in
theorem rune_three1 {a : Nat} {t : ByteArray} {z0 : Int} (ha : a ≤ 100000) (h0 : OneAt t (a : Int) z0) (m1 : MoreAt t ((a : Int) + 1) true) (m2 : MoreAt t ((a : Int) + 2) false) (c0 : ¬ z0 < 0) (c1 : ¬ z0 < 128) (c2 : 194 ≤ z0) (c3 : ¬ z0 < 224) (c4 : 224 ≤ z0) (c5 : z0 < 240) (c6 : ¬ 240 ≤ z0) : RuneIs t a 0 := fun W => by
  have i0 : (0 : Int) ≤ (a : Int) := by omega
  have H0 : Hid (∀ w : World, Calls Tryz.prog 73 #[.string t, .int .i64 (a : Int)] w fun e w' => e = .returned (.int .i64 z0) ∧ w = w') := Lib.hid h0
  have M1 : Hid (∀ w : World, Calls Tryz.prog 74 #[.string t, .int .i64 ((a : Int) + 1)] w fun e w' => e = .returned (.bool true) ∧ w = w') := Lib.hid m1
  have M2 : Hid (∀ w : World, Calls Tryz.prog 74 #[.string t, .int .i64 ((a : Int) + 2)] w fun e w' => e = .returned (.bool false) ∧ w = w') := Lib.hid m2
  clear h0 m1 m2
  go_enter Tryz.func56, Tryz.ntmps56
  go_wp2_with (first | (go_at_call 73; with_reducible refine (H0.out _).mono ?_; rintro e w' ⟨rfl, rfl⟩) | (go_at_call 74; with_reducible refine (M1.out _).mono ?_; rintro e w' ⟨rfl, rfl⟩) | (go_at_call 74; with_reducible refine (M2.out _).mono ?_; rintro e w' ⟨rfl, rfl⟩))
  all_goals (first | (exfalso; omega) | (go_ret; exact ⟨rfl, rfl⟩))
end Go.Proofs.YtnmfoedfllmclaaGreatDoor
namespace Go.Proofs.YtnmfoedfllmclaaGreatDoor
open Go.RowKit
set_option linter.unusedVariables false

set_option maxRecDepth 100000 in
set_option maxHeartbeats 4000000 in
theorem rune_threeA {a : Nat} {t : ByteArray} {z0 z1 z2 : Int} (ha : a ≤ 100000) (h0 : OneAt t (a : Int) z0) (h1 : OneAt t ((a : Int) + 1) z1) (l1 : 128 ≤ z1) (u1 : z1 < 192) (h2 : OneAt t ((a : Int) + 2) z2) (l2 : 128 ≤ z2) (u2 : z2 < 192) (m1 : MoreAt t ((a : Int) + 1) true) (m2 : MoreAt t ((a : Int) + 2) true) (c0 : ¬ z0 < 0) (c1 : ¬ z0 < 128) (c2 : 194 ≤ z0) (c3 : ¬ z0 < 224) (c4 : 224 ≤ z0) (c5 : z0 < 240) (c6 : ¬ 240 ≤ z0) (t0 : 2048 ≤ (z0 - 224) * 4096 + (z1 - 128) * 64 + z2 - 128) (t1 : (z0 - 224) * 4096 + (z1 - 128) * 64 + z2 - 128 < 55296) : RuneIs t a 3 := fun W => by
  have i0 : (0 : Int) ≤ (a : Int) := by omega
  have H0 : Hid (∀ w : World, Calls Tryz.prog 73 #[.string t, .int .i64 (a : Int)] w fun e w' => e = .returned (.int .i64 z0) ∧ w = w') := Lib.hid h0
  have H1 : Hid (∀ w : World, Calls Tryz.prog 73 #[.string t, .int .i64 ((a : Int) + 1)] w fun e w' => e = .returned (.int .i64 z1) ∧ w = w') := Lib.hid h1
  have H2 : Hid (∀ w : World, Calls Tryz.prog 73 #[.string t, .int .i64 ((a : Int) + 2)] w fun e w' => e = .returned (.int .i64 z2) ∧ w = w') := Lib.hid h2
  have M1 : Hid (∀ w : World, Calls Tryz.prog 74 #[.string t, .int .i64 ((a : Int) + 1)] w fun e w' => e = .returned (.bool true) ∧ w = w') := Lib.hid m1
  have M2 : Hid (∀ w : World, Calls Tryz.prog 74 #[.string t, .int .i64 ((a : Int) + 2)] w fun e w' => e = .returned (.bool true) ∧ w = w') := Lib.hid m2
  clear h0 h1 h2 m1 m2
  go_enter Tryz.func56, Tryz.ntmps56
  go_wp2_with (first | (go_at_call 73; with_reducible refine (H0.out _).mono ?_; rintro e w' ⟨rfl, rfl⟩) | (go_at_call 74; with_reducible refine (M1.out _).mono ?_; rintro e w' ⟨rfl, rfl⟩) | (go_at_call 74; with_reducible refine (M2.out _).mono ?_; rintro e w' ⟨rfl, rfl⟩) | (go_at_call 73; with_reducible refine (H1.out _).mono ?_; rintro e w' ⟨rfl, rfl⟩) | (go_at_call 73; with_reducible refine (H2.out _).mono ?_; rintro e w' ⟨rfl, rfl⟩))
  all_goals (first | (exfalso; omega) | (go_ret; exact ⟨rfl, rfl⟩))
set_option maxRecDepth 100000 in
set_option maxHeartbeats 4000000 in
theorem rune_threeB {a : Nat} {t : ByteArray} {z0 z1 z2 : Int} (ha : a ≤ 100000) (h0 : OneAt t (a : Int) z0) (h1 : OneAt t ((a : Int) + 1) z1) (l1 : 128 ≤ z1) (u1 : z1 < 192) (h2 : OneAt t ((a : Int) + 2) z2) (l2 : 128 ≤ z2) (u2 : z2 < 192) (m1 : MoreAt t ((a : Int) + 1) true) (m2 : MoreAt t ((a : Int) + 2) true) (c0 : ¬ z0 < 0) (c1 : ¬ z0 < 128) (c2 : 194 ≤ z0) (c3 : ¬ z0 < 224) (c4 : 224 ≤ z0) (c5 : z0 < 240) (c6 : ¬ 240 ≤ z0) (t0 : 2048 ≤ (z0 - 224) * 4096 + (z1 - 128) * 64 + z2 - 128) (t1 : ¬ (z0 - 224) * 4096 + (z1 - 128) * 64 + z2 - 128 < 55296) (t2 : (z0 - 224) * 4096 + (z1 - 128) * 64 + z2 - 128 > 57343) : RuneIs t a 3 := fun W => by
  have i0 : (0 : Int) ≤ (a : Int) := by omega
  have H0 : Hid (∀ w : World, Calls Tryz.prog 73 #[.string t, .int .i64 (a : Int)] w fun e w' => e = .returned (.int .i64 z0) ∧ w = w') := Lib.hid h0
  have H1 : Hid (∀ w : World, Calls Tryz.prog 73 #[.string t, .int .i64 ((a : Int) + 1)] w fun e w' => e = .returned (.int .i64 z1) ∧ w = w') := Lib.hid h1
  have H2 : Hid (∀ w : World, Calls Tryz.prog 73 #[.string t, .int .i64 ((a : Int) + 2)] w fun e w' => e = .returned (.int .i64 z2) ∧ w = w') := Lib.hid h2
  have M1 : Hid (∀ w : World, Calls Tryz.prog 74 #[.string t, .int .i64 ((a : Int) + 1)] w fun e w' => e = .returned (.bool true) ∧ w = w') := Lib.hid m1
  have M2 : Hid (∀ w : World, Calls Tryz.prog 74 #[.string t, .int .i64 ((a : Int) + 2)] w fun e w' => e = .returned (.bool true) ∧ w = w') := Lib.hid m2
  clear h0 h1 h2 m1 m2
  go_enter Tryz.func56, Tryz.ntmps56
  go_wp2_with (first | (go_at_call 73; with_reducible refine (H0.out _).mono ?_; rintro e w' ⟨rfl, rfl⟩) | (go_at_call 74; with_reducible refine (M1.out _).mono ?_; rintro e w' ⟨rfl, rfl⟩) | (go_at_call 74; with_reducible refine (M2.out _).mono ?_; rintro e w' ⟨rfl, rfl⟩) | (go_at_call 73; with_reducible refine (H1.out _).mono ?_; rintro e w' ⟨rfl, rfl⟩) | (go_at_call 73; with_reducible refine (H2.out _).mono ?_; rintro e w' ⟨rfl, rfl⟩))
  all_goals (first | (exfalso; omega) | (go_ret; exact ⟨rfl, rfl⟩))
end Go.Proofs.YtnmfoedfllmclaaGreatDoor
namespace Go.Proofs.YtnmfoedfllmclaaGreatDoor
open Go.RowKit
set_option linter.unusedVariables false

set_option maxRecDepth 100000 in
set_option maxHeartbeats 4000000 in
theorem rune_three2 {a : Nat} {t : ByteArray} {z0 z1 z2 : Int} (ha : a ≤ 100000) (h0 : OneAt t (a : Int) z0) (h1 : OneAt t ((a : Int) + 1) z1) (l1 : 128 ≤ z1) (u1 : z1 < 192) (h2 : OneAt t ((a : Int) + 2) z2) (l2 : 128 ≤ z2) (u2 : z2 < 192) (m1 : MoreAt t ((a : Int) + 1) true) (m2 : MoreAt t ((a : Int) + 2) true) (c0 : ¬ z0 < 0) (c1 : ¬ z0 < 128) (c2 : 194 ≤ z0) (c3 : ¬ z0 < 224) (c4 : 224 ≤ z0) (c5 : z0 < 240) (c6 : ¬ 240 ≤ z0) (t0 : ¬ 2048 ≤ (z0 - 224) * 4096 + (z1 - 128) * 64 + z2 - 128) : RuneIs t a 0 := fun W => by
  have i0 : (0 : Int) ≤ (a : Int) := by omega
  have H0 : Hid (∀ w : World, Calls Tryz.prog 73 #[.string t, .int .i64 (a : Int)] w fun e w' => e = .returned (.int .i64 z0) ∧ w = w') := Lib.hid h0
  have H1 : Hid (∀ w : World, Calls Tryz.prog 73 #[.string t, .int .i64 ((a : Int) + 1)] w fun e w' => e = .returned (.int .i64 z1) ∧ w = w') := Lib.hid h1
  have H2 : Hid (∀ w : World, Calls Tryz.prog 73 #[.string t, .int .i64 ((a : Int) + 2)] w fun e w' => e = .returned (.int .i64 z2) ∧ w = w') := Lib.hid h2
  have M1 : Hid (∀ w : World, Calls Tryz.prog 74 #[.string t, .int .i64 ((a : Int) + 1)] w fun e w' => e = .returned (.bool true) ∧ w = w') := Lib.hid m1
  have M2 : Hid (∀ w : World, Calls Tryz.prog 74 #[.string t, .int .i64 ((a : Int) + 2)] w fun e w' => e = .returned (.bool true) ∧ w = w') := Lib.hid m2
  clear h0 h1 h2 m1 m2
  go_enter Tryz.func56, Tryz.ntmps56
  go_wp2_with (first | (go_at_call 73; with_reducible refine (H0.out _).mono ?_; rintro e w' ⟨rfl, rfl⟩) | (go_at_call 74; with_reducible refine (M1.out _).mono ?_; rintro e w' ⟨rfl, rfl⟩) | (go_at_call 74; with_reducible refine (M2.out _).mono ?_; rintro e w' ⟨rfl, rfl⟩) | (go_at_call 73; with_reducible refine (H1.out _).mono ?_; rintro e w' ⟨rfl, rfl⟩) | (go_at_call 73; with_reducible refine (H2.out _).mono ?_; rintro e w' ⟨rfl, rfl⟩))
  all_goals (first | (exfalso; omega) | (go_ret; exact ⟨rfl, rfl⟩))
set_option maxRecDepth 100000 in
set_option maxHeartbeats 4000000 in
theorem rune_three3 {a : Nat} {t : ByteArray} {z0 z1 z2 : Int} (ha : a ≤ 100000) (h0 : OneAt t (a : Int) z0) (h1 : OneAt t ((a : Int) + 1) z1) (l1 : 128 ≤ z1) (u1 : z1 < 192) (h2 : OneAt t ((a : Int) + 2) z2) (l2 : 128 ≤ z2) (u2 : z2 < 192) (m1 : MoreAt t ((a : Int) + 1) true) (m2 : MoreAt t ((a : Int) + 2) true) (c0 : ¬ z0 < 0) (c1 : ¬ z0 < 128) (c2 : 194 ≤ z0) (c3 : ¬ z0 < 224) (c4 : 224 ≤ z0) (c5 : z0 < 240) (c6 : ¬ 240 ≤ z0) (t0 : 2048 ≤ (z0 - 224) * 4096 + (z1 - 128) * 64 + z2 - 128) (t1 : ¬ (z0 - 224) * 4096 + (z1 - 128) * 64 + z2 - 128 < 55296) (t2 : ¬ (z0 - 224) * 4096 + (z1 - 128) * 64 + z2 - 128 > 57343) : RuneIs t a 0 := fun W => by
  have i0 : (0 : Int) ≤ (a : Int) := by omega
  have H0 : Hid (∀ w : World, Calls Tryz.prog 73 #[.string t, .int .i64 (a : Int)] w fun e w' => e = .returned (.int .i64 z0) ∧ w = w') := Lib.hid h0
  have H1 : Hid (∀ w : World, Calls Tryz.prog 73 #[.string t, .int .i64 ((a : Int) + 1)] w fun e w' => e = .returned (.int .i64 z1) ∧ w = w') := Lib.hid h1
  have H2 : Hid (∀ w : World, Calls Tryz.prog 73 #[.string t, .int .i64 ((a : Int) + 2)] w fun e w' => e = .returned (.int .i64 z2) ∧ w = w') := Lib.hid h2
  have M1 : Hid (∀ w : World, Calls Tryz.prog 74 #[.string t, .int .i64 ((a : Int) + 1)] w fun e w' => e = .returned (.bool true) ∧ w = w') := Lib.hid m1
  have M2 : Hid (∀ w : World, Calls Tryz.prog 74 #[.string t, .int .i64 ((a : Int) + 2)] w fun e w' => e = .returned (.bool true) ∧ w = w') := Lib.hid m2
  clear h0 h1 h2 m1 m2
  go_enter Tryz.func56, Tryz.ntmps56
  go_wp2_with (first | (go_at_call 73; with_reducible refine (H0.out _).mono ?_; rintro e w' ⟨rfl, rfl⟩) | (go_at_call 74; with_reducible refine (M1.out _).mono ?_; rintro e w' ⟨rfl, rfl⟩) | (go_at_call 74; with_reducible refine (M2.out _).mono ?_; rintro e w' ⟨rfl, rfl⟩) | (go_at_call 73; with_reducible refine (H1.out _).mono ?_; rintro e w' ⟨rfl, rfl⟩) | (go_at_call 73; with_reducible refine (H2.out _).mono ?_; rintro e w' ⟨rfl, rfl⟩))
  all_goals (first | (exfalso; omega) | (go_ret; exact ⟨rfl, rfl⟩))
end Go.Proofs.YtnmfoedfllmclaaGreatDoor
namespace Go.Proofs.YtnmfoedfllmclaaGreatDoor
open Go.RowKit
set_option linter.unusedVariables false

set_option maxRecDepth 100000 in
set_option maxHeartbeats 4000000 in
theorem rune_four0 {a : Nat} {t : ByteArray} {z0 : Int} (ha : a ≤ 100000) (h0 : OneAt t (a : Int) z0) (m1 : MoreAt t ((a : Int) + 1) false) (c0 : ¬ z0 < 0) (c1 : ¬ z0 < 128) (c2 : 194 ≤ z0) (c3 : ¬ z0 < 224) (c4 : 224 ≤ z0) (c5 : ¬ z0 < 240) (c6 : 240 ≤ z0) (c7 : z0 < 245) : RuneIs t a 0 := fun W => by
  have i0 : (0 : Int) ≤ (a : Int) := by omega
  have H0 : Hid (∀ w : World, Calls Tryz.prog 73 #[.string t, .int .i64 (a : Int)] w fun e w' => e = .returned (.int .i64 z0) ∧ w = w') := Lib.hid h0
  have M1 : Hid (∀ w : World, Calls Tryz.prog 74 #[.string t, .int .i64 ((a : Int) + 1)] w fun e w' => e = .returned (.bool false) ∧ w = w') := Lib.hid m1
  clear h0 m1
  go_enter Tryz.func56, Tryz.ntmps56
  go_wp2_with (first | (go_at_call 73; with_reducible refine (H0.out _).mono ?_; rintro e w' ⟨rfl, rfl⟩) | (go_at_call 74; with_reducible refine (M1.out _).mono ?_; rintro e w' ⟨rfl, rfl⟩))
  all_goals (first | (exfalso; omega) | (go_ret; exact ⟨rfl, rfl⟩))
set_option maxRecDepth 100000 in
set_option maxHeartbeats 4000000 in
theorem rune_four1 {a : Nat} {t : ByteArray} {z0 : Int} (ha : a ≤ 100000) (h0 : OneAt t (a : Int) z0) (m1 : MoreAt t ((a : Int) + 1) true) (m2 : MoreAt t ((a : Int) + 2) false) (c0 : ¬ z0 < 0) (c1 : ¬ z0 < 128) (c2 : 194 ≤ z0) (c3 : ¬ z0 < 224) (c4 : 224 ≤ z0) (c5 : ¬ z0 < 240) (c6 : 240 ≤ z0) (c7 : z0 < 245) : RuneIs t a 0 := fun W => by
  have i0 : (0 : Int) ≤ (a : Int) := by omega
  have H0 : Hid (∀ w : World, Calls Tryz.prog 73 #[.string t, .int .i64 (a : Int)] w fun e w' => e = .returned (.int .i64 z0) ∧ w = w') := Lib.hid h0
  have M1 : Hid (∀ w : World, Calls Tryz.prog 74 #[.string t, .int .i64 ((a : Int) + 1)] w fun e w' => e = .returned (.bool true) ∧ w = w') := Lib.hid m1
  have M2 : Hid (∀ w : World, Calls Tryz.prog 74 #[.string t, .int .i64 ((a : Int) + 2)] w fun e w' => e = .returned (.bool false) ∧ w = w') := Lib.hid m2
  clear h0 m1 m2
  go_enter Tryz.func56, Tryz.ntmps56
  go_wp2_with (first | (go_at_call 73; with_reducible refine (H0.out _).mono ?_; rintro e w' ⟨rfl, rfl⟩) | (go_at_call 74; with_reducible refine (M1.out _).mono ?_; rintro e w' ⟨rfl, rfl⟩) | (go_at_call 74; with_reducible refine (M2.out _).mono ?_; rintro e w' ⟨rfl, rfl⟩))
  all_goals (first | (exfalso; omega) | (go_ret; exact ⟨rfl, rfl⟩))
set_option maxRecDepth 100000 in
set_option maxHeartbeats 4000000 in
theorem rune_four2 {a : Nat} {t : ByteArray} {z0 : Int} (ha : a ≤ 100000) (h0 : OneAt t (a : Int) z0) (m1 : MoreAt t ((a : Int) + 1) true) (m2 : MoreAt t ((a : Int) + 2) true) (m3 : MoreAt t ((a : Int) + 3) false) (c0 : ¬ z0 < 0) (c1 : ¬ z0 < 128) (c2 : 194 ≤ z0) (c3 : ¬ z0 < 224) (c4 : 224 ≤ z0) (c5 : ¬ z0 < 240) (c6 : 240 ≤ z0) (c7 : z0 < 245) : RuneIs t a 0 := fun W => by
  have i0 : (0 : Int) ≤ (a : Int) := by omega
  have H0 : Hid (∀ w : World, Calls Tryz.prog 73 #[.string t, .int .i64 (a : Int)] w fun e w' => e = .returned (.int .i64 z0) ∧ w = w') := Lib.hid h0
  have M1 : Hid (∀ w : World, Calls Tryz.prog 74 #[.string t, .int .i64 ((a : Int) + 1)] w fun e w' => e = .returned (.bool true) ∧ w = w') := Lib.hid m1
  have M2 : Hid (∀ w : World, Calls Tryz.prog 74 #[.string t, .int .i64 ((a : Int) + 2)] w fun e w' => e = .returned (.bool true) ∧ w = w') := Lib.hid m2
  have M3 : Hid (∀ w : World, Calls Tryz.prog 74 #[.string t, .int .i64 ((a : Int) + 3)] w fun e w' => e = .returned (.bool false) ∧ w = w') := Lib.hid m3
  clear h0 m1 m2 m3
  go_enter Tryz.func56, Tryz.ntmps56
  go_wp2_with (first | (go_at_call 73; with_reducible refine (H0.out _).mono ?_; rintro e w' ⟨rfl, rfl⟩) | (go_at_call 74; with_reducible refine (M1.out _).mono ?_; rintro e w' ⟨rfl, rfl⟩) | (go_at_call 74; with_reducible refine (M2.out _).mono ?_; rintro e w' ⟨rfl, rfl⟩) | (go_at_call 74; with_reducible refine (M3.out _).mono ?_; rintro e w' ⟨rfl, rfl⟩))
  all_goals (first | (exfalso; omega) | (go_ret; exact ⟨rfl, rfl⟩))
end Go.Proofs.YtnmfoedfllmclaaGreatDoor
namespace Go.Proofs.YtnmfoedfllmclaaGreatDoor
open Go.RowKit
set_option linter.unusedVariables false

set_option maxRecDepth 100000 in
set_option maxHeartbeats 4000000 in
theorem rune_fourA {a : Nat} {t : ByteArray} {z0 z1 z2 z3 : Int} (ha : a ≤ 100000) (h0 : OneAt t (a : Int) z0) (h1 : OneAt t ((a : Int) + 1) z1) (l1 : 128 ≤ z1) (u1 : z1 < 192) (h2 : OneAt t ((a : Int) + 2) z2) (l2 : 128 ≤ z2) (u2 : z2 < 192) (h3 : OneAt t ((a : Int) + 3) z3) (l3 : 128 ≤ z3) (u3 : z3 < 192) (m1 : MoreAt t ((a : Int) + 1) true) (m2 : MoreAt t ((a : Int) + 2) true) (m3 : MoreAt t ((a : Int) + 3) true) (c0 : ¬ z0 < 0) (c1 : ¬ z0 < 128) (c2 : 194 ≤ z0) (c3 : ¬ z0 < 224) (c4 : 224 ≤ z0) (c5 : ¬ z0 < 240) (c6 : 240 ≤ z0) (c7 : z0 < 245) (t0 : 65536 ≤ (z0 - 240) * 262144 + (z1 - 128) * 4096 + (z2 - 128) * 64 + z3 - 128) (t1 : (z0 - 240) * 262144 + (z1 - 128) * 4096 + (z2 - 128) * 64 + z3 - 128 ≤ 1114111) : RuneIs t a 4 := fun W => by
  have i0 : (0 : Int) ≤ (a : Int) := by omega
  have H0 : Hid (∀ w : World, Calls Tryz.prog 73 #[.string t, .int .i64 (a : Int)] w fun e w' => e = .returned (.int .i64 z0) ∧ w = w') := Lib.hid h0
  have H1 : Hid (∀ w : World, Calls Tryz.prog 73 #[.string t, .int .i64 ((a : Int) + 1)] w fun e w' => e = .returned (.int .i64 z1) ∧ w = w') := Lib.hid h1
  have H2 : Hid (∀ w : World, Calls Tryz.prog 73 #[.string t, .int .i64 ((a : Int) + 2)] w fun e w' => e = .returned (.int .i64 z2) ∧ w = w') := Lib.hid h2
  have H3 : Hid (∀ w : World, Calls Tryz.prog 73 #[.string t, .int .i64 ((a : Int) + 3)] w fun e w' => e = .returned (.int .i64 z3) ∧ w = w') := Lib.hid h3
  have M1 : Hid (∀ w : World, Calls Tryz.prog 74 #[.string t, .int .i64 ((a : Int) + 1)] w fun e w' => e = .returned (.bool true) ∧ w = w') := Lib.hid m1
  have M2 : Hid (∀ w : World, Calls Tryz.prog 74 #[.string t, .int .i64 ((a : Int) + 2)] w fun e w' => e = .returned (.bool true) ∧ w = w') := Lib.hid m2
  have M3 : Hid (∀ w : World, Calls Tryz.prog 74 #[.string t, .int .i64 ((a : Int) + 3)] w fun e w' => e = .returned (.bool true) ∧ w = w') := Lib.hid m3
  clear h0 h1 h2 h3 m1 m2 m3
  go_enter Tryz.func56, Tryz.ntmps56
  go_wp2_with (first | (go_at_call 73; with_reducible refine (H0.out _).mono ?_; rintro e w' ⟨rfl, rfl⟩) | (go_at_call 74; with_reducible refine (M1.out _).mono ?_; rintro e w' ⟨rfl, rfl⟩) | (go_at_call 74; with_reducible refine (M2.out _).mono ?_; rintro e w' ⟨rfl, rfl⟩) | (go_at_call 74; with_reducible refine (M3.out _).mono ?_; rintro e w' ⟨rfl, rfl⟩) | (go_at_call 73; with_reducible refine (H1.out _).mono ?_; rintro e w' ⟨rfl, rfl⟩) | (go_at_call 73; with_reducible refine (H2.out _).mono ?_; rintro e w' ⟨rfl, rfl⟩) | (go_at_call 73; with_reducible refine (H3.out _).mono ?_; rintro e w' ⟨rfl, rfl⟩))
  all_goals (first | (exfalso; omega) | (go_ret; exact ⟨rfl, rfl⟩))
end Go.Proofs.YtnmfoedfllmclaaGreatDoor
namespace Go.Proofs.YtnmfoedfllmclaaGreatDoor
open Go.RowKit
set_option linter.unusedVariables false

set_option maxRecDepth 100000 in
set_option maxHeartbeats 4000000 in
theorem rune_four3 {a : Nat} {t : ByteArray} {z0 z1 z2 z3 : Int} (ha : a ≤ 100000) (h0 : OneAt t (a : Int) z0) (h1 : OneAt t ((a : Int) + 1) z1) (l1 : 128 ≤ z1) (u1 : z1 < 192) (h2 : OneAt t ((a : Int) + 2) z2) (l2 : 128 ≤ z2) (u2 : z2 < 192) (h3 : OneAt t ((a : Int) + 3) z3) (l3 : 128 ≤ z3) (u3 : z3 < 192) (m1 : MoreAt t ((a : Int) + 1) true) (m2 : MoreAt t ((a : Int) + 2) true) (m3 : MoreAt t ((a : Int) + 3) true) (c0 : ¬ z0 < 0) (c1 : ¬ z0 < 128) (c2 : 194 ≤ z0) (c3 : ¬ z0 < 224) (c4 : 224 ≤ z0) (c5 : ¬ z0 < 240) (c6 : 240 ≤ z0) (c7 : z0 < 245) (t0 : ¬ 65536 ≤ (z0 - 240) * 262144 + (z1 - 128) * 4096 + (z2 - 128) * 64 + z3 - 128) : RuneIs t a 0 := fun W => by
  have i0 : (0 : Int) ≤ (a : Int) := by omega
  have H0 : Hid (∀ w : World, Calls Tryz.prog 73 #[.string t, .int .i64 (a : Int)] w fun e w' => e = .returned (.int .i64 z0) ∧ w = w') := Lib.hid h0
  have H1 : Hid (∀ w : World, Calls Tryz.prog 73 #[.string t, .int .i64 ((a : Int) + 1)] w fun e w' => e = .returned (.int .i64 z1) ∧ w = w') := Lib.hid h1
  have H2 : Hid (∀ w : World, Calls Tryz.prog 73 #[.string t, .int .i64 ((a : Int) + 2)] w fun e w' => e = .returned (.int .i64 z2) ∧ w = w') := Lib.hid h2
  have H3 : Hid (∀ w : World, Calls Tryz.prog 73 #[.string t, .int .i64 ((a : Int) + 3)] w fun e w' => e = .returned (.int .i64 z3) ∧ w = w') := Lib.hid h3
  have M1 : Hid (∀ w : World, Calls Tryz.prog 74 #[.string t, .int .i64 ((a : Int) + 1)] w fun e w' => e = .returned (.bool true) ∧ w = w') := Lib.hid m1
  have M2 : Hid (∀ w : World, Calls Tryz.prog 74 #[.string t, .int .i64 ((a : Int) + 2)] w fun e w' => e = .returned (.bool true) ∧ w = w') := Lib.hid m2
  have M3 : Hid (∀ w : World, Calls Tryz.prog 74 #[.string t, .int .i64 ((a : Int) + 3)] w fun e w' => e = .returned (.bool true) ∧ w = w') := Lib.hid m3
  clear h0 h1 h2 h3 m1 m2 m3
  go_enter Tryz.func56, Tryz.ntmps56
  go_wp2_with (first | (go_at_call 73; with_reducible refine (H0.out _).mono ?_; rintro e w' ⟨rfl, rfl⟩) | (go_at_call 74; with_reducible refine (M1.out _).mono ?_; rintro e w' ⟨rfl, rfl⟩) | (go_at_call 74; with_reducible refine (M2.out _).mono ?_; rintro e w' ⟨rfl, rfl⟩) | (go_at_call 74; with_reducible refine (M3.out _).mono ?_; rintro e w' ⟨rfl, rfl⟩) | (go_at_call 73; with_reducible refine (H1.out _).mono ?_; rintro e w' ⟨rfl, rfl⟩) | (go_at_call 73; with_reducible refine (H2.out _).mono ?_; rintro e w' ⟨rfl, rfl⟩) | (go_at_call 73; with_reducible refine (H3.out _).mono ?_; rintro e w' ⟨rfl, rfl⟩))
  all_goals (first | (exfalso; omega) | (go_ret; exact ⟨rfl, rfl⟩))
set_option maxRecDepth 100000 in
set_option maxHeartbeats 4000000 in
theorem rune_four4 {a : Nat} {t : ByteArray} {z0 z1 z2 z3 : Int} (ha : a ≤ 100000) (h0 : OneAt t (a : Int) z0) (h1 : OneAt t ((a : Int) + 1) z1) (l1 : 128 ≤ z1) (u1 : z1 < 192) (h2 : OneAt t ((a : Int) + 2) z2) (l2 : 128 ≤ z2) (u2 : z2 < 192) (h3 : OneAt t ((a : Int) + 3) z3) (l3 : 128 ≤ z3) (u3 : z3 < 192) (m1 : MoreAt t ((a : Int) + 1) true) (m2 : MoreAt t ((a : Int) + 2) true) (m3 : MoreAt t ((a : Int) + 3) true) (c0 : ¬ z0 < 0) (c1 : ¬ z0 < 128) (c2 : 194 ≤ z0) (c3 : ¬ z0 < 224) (c4 : 224 ≤ z0) (c5 : ¬ z0 < 240) (c6 : 240 ≤ z0) (c7 : z0 < 245) (t0 : 65536 ≤ (z0 - 240) * 262144 + (z1 - 128) * 4096 + (z2 - 128) * 64 + z3 - 128) (t1 : ¬ (z0 - 240) * 262144 + (z1 - 128) * 4096 + (z2 - 128) * 64 + z3 - 128 ≤ 1114111) : RuneIs t a 0 := fun W => by
  have i0 : (0 : Int) ≤ (a : Int) := by omega
  have H0 : Hid (∀ w : World, Calls Tryz.prog 73 #[.string t, .int .i64 (a : Int)] w fun e w' => e = .returned (.int .i64 z0) ∧ w = w') := Lib.hid h0
  have H1 : Hid (∀ w : World, Calls Tryz.prog 73 #[.string t, .int .i64 ((a : Int) + 1)] w fun e w' => e = .returned (.int .i64 z1) ∧ w = w') := Lib.hid h1
  have H2 : Hid (∀ w : World, Calls Tryz.prog 73 #[.string t, .int .i64 ((a : Int) + 2)] w fun e w' => e = .returned (.int .i64 z2) ∧ w = w') := Lib.hid h2
  have H3 : Hid (∀ w : World, Calls Tryz.prog 73 #[.string t, .int .i64 ((a : Int) + 3)] w fun e w' => e = .returned (.int .i64 z3) ∧ w = w') := Lib.hid h3
  have M1 : Hid (∀ w : World, Calls Tryz.prog 74 #[.string t, .int .i64 ((a : Int) + 1)] w fun e w' => e = .returned (.bool true) ∧ w = w') := Lib.hid m1
  have M2 : Hid (∀ w : World, Calls Tryz.prog 74 #[.string t, .int .i64 ((a : Int) + 2)] w fun e w' => e = .returned (.bool true) ∧ w = w') := Lib.hid m2
  have M3 : Hid (∀ w : World, Calls Tryz.prog 74 #[.string t, .int .i64 ((a : Int) + 3)] w fun e w' => e = .returned (.bool true) ∧ w = w') := Lib.hid m3
  clear h0 h1 h2 h3 m1 m2 m3
  go_enter Tryz.func56, Tryz.ntmps56
  go_wp2_with (first | (go_at_call 73; with_reducible refine (H0.out _).mono ?_; rintro e w' ⟨rfl, rfl⟩) | (go_at_call 74; with_reducible refine (M1.out _).mono ?_; rintro e w' ⟨rfl, rfl⟩) | (go_at_call 74; with_reducible refine (M2.out _).mono ?_; rintro e w' ⟨rfl, rfl⟩) | (go_at_call 74; with_reducible refine (M3.out _).mono ?_; rintro e w' ⟨rfl, rfl⟩) | (go_at_call 73; with_reducible refine (H1.out _).mono ?_; rintro e w' ⟨rfl, rfl⟩) | (go_at_call 73; with_reducible refine (H2.out _).mono ?_; rintro e w' ⟨rfl, rfl⟩) | (go_at_call 73; with_reducible refine (H3.out _).mono ?_; rintro e w' ⟨rfl, rfl⟩))
  all_goals (first | (exfalso; omega) | (go_ret; exact ⟨rfl, rfl⟩))
end Go.Proofs.YtnmfoedfllmclaaGreatDoor
namespace Go.Proofs.YtnmfoedfllmclaaGreatDoor
open Go.RowKit
set_option linter.unusedVariables false

theorem moreZ_yes {z : Int} (h : moreZ z = true) : 128 ≤ z ∧ z < 192 := by unfold moreZ at h; simpa using h
theorem rrune_any {a : Nat} {t : ByteArray} (ha : a ≤ 100000) (hs : t.size ≤ 65536) : RuneIs t a (docRune (headZ (rest t a)) (headZ (rest t (a + 1))) (headZ (rest t (a + 2))) (headZ (rest t (a + 3)))) := by
  have h0 : OneAt t (a : Int) (headZ (rest t a)) := fun w => rone_any (a := a) hs w
  have h1 : OneAt t ((a : Int) + 1) (headZ (rest t (a + 1))) := oneAt hs 1
  have h2 : OneAt t ((a : Int) + 2) (headZ (rest t (a + 2))) := oneAt hs 2
  have h3 : OneAt t ((a : Int) + 3) (headZ (rest t (a + 3))) := oneAt hs 3
  have m1 : MoreAt t ((a : Int) + 1) (moreZ (headZ (rest t (a + 1)))) := moreAt hs 1
  have m2 : MoreAt t ((a : Int) + 2) (moreZ (headZ (rest t (a + 2)))) := moreAt hs 2
  have m3 : MoreAt t ((a : Int) + 3) (moreZ (headZ (rest t (a + 3)))) := moreAt hs 3
  obtain ⟨a0, b0⟩ := headZ_bound (rest t a)
  generalize headZ (rest t a) = z0 at *
  generalize headZ (rest t (a + 1)) = z1 at *
  generalize headZ (rest t (a + 2)) = z2 at *
  generalize headZ (rest t (a + 3)) = z3 at *
  unfold docRune
  by_cases c0 : z0 < 0
  · rw [if_pos c0]; exact rune_neg ha h0 a0 c0
  rw [if_neg c0]
  by_cases c1 : z0 < 128
  · rw [if_pos c1]; exact rune_asc ha h0 (by omega) c1
  rw [if_neg c1]
  by_cases c2 : z0 < 194
  · rw [if_pos c2]; exact rune_low ha h0 (by omega) (by omega) (by omega) (by omega)
  rw [if_neg c2]
  by_cases c3 : z0 < 224
  · rw [if_pos c3]
    cases e1 : moreZ z1 with
    | true => rw [e1] at m1; rw [if_pos rfl]; exact rune_two ha h0 m1 (by omega) c3 (by omega) (by omega)
    | false => rw [e1] at m1; exact rune_two0 ha h0 m1 (by omega) c3 (by omega) (by omega)
  rw [if_neg c3]
  by_cases c4 : z0 < 240
  · rw [if_pos c4]
    cases e1 : moreZ z1 with
    | false => rw [e1] at m1; exact rune_three0 ha h0 m1 c0 c1 (by omega) c3 (by omega) c4 (by omega)
    | true =>
      rw [e1] at m1
      cases e2 : moreZ z2 with
      | false => rw [e2] at m2; exact rune_three1 ha h0 m1 m2 c0 c1 (by omega) c3 (by omega) c4 (by omega)
      | true =>
        rw [e2] at m2
        have n1 := moreZ_yes e1
        have n2 := moreZ_yes e2
        rw [if_pos (show (true && true) = true from rfl)]
        unfold threeZ
        split
        · rename_i hh
          obtain ⟨g1, g2 | g2⟩ := hh
          · exact rune_threeA ha h0 h1 n1.1 n1.2 h2 n2.1 n2.2 m1 m2 c0 c1 (by omega) c3 (by omega) c4 (by omega) g1 g2
          · exact rune_threeB ha h0 h1 n1.1 n1.2 h2 n2.1 n2.2 m1 m2 c0 c1 (by omega) c3 (by omega) c4 (by omega) g1 (by omega) g2
        · rename_i hh
          by_cases g1 : 2048 ≤ (z0 - 224) * 4096 + (z1 - 128) * 64 + z2 - 128
          · exact rune_three3 ha h0 h1 n1.1 n1.2 h2 n2.1 n2.2 m1 m2 c0 c1 (by omega) c3 (by omega) c4 (by omega) g1 (by omega) (by omega)
          · exact rune_three2 ha h0 h1 n1.1 n1.2 h2 n2.1 n2.2 m1 m2 c0 c1 (by omega) c3 (by omega) c4 (by omega) g1
  rw [if_neg c4]
  by_cases c5 : z0 < 245
  · rw [if_pos c5]
    cases e1 : moreZ z1 with
    | false => rw [e1] at m1; exact rune_four0 ha h0 m1 c0 c1 (by omega) c3 (by omega) c4 (by omega) c5
    | true =>
      rw [e1] at m1
      cases e2 : moreZ z2 with
      | false => rw [e2] at m2; exact rune_four1 ha h0 m1 m2 c0 c1 (by omega) c3 (by omega) c4 (by omega) c5
      | true =>
        rw [e2] at m2
        cases e3 : moreZ z3 with
        | false => rw [e3] at m3; exact rune_four2 ha h0 m1 m2 m3 c0 c1 (by omega) c3 (by omega) c4 (by omega) c5
        | true =>
          rw [e3] at m3
          have n1 := moreZ_yes e1
          have n2 := moreZ_yes e2
          have n3 := moreZ_yes e3
          rw [if_pos (show (true && true && true) = true from rfl)]
          unfold fourZ
          split
          · rename_i hh
            exact rune_fourA ha h0 h1 n1.1 n1.2 h2 n2.1 n2.2 h3 n3.1 n3.2 m1 m2 m3 c0 c1 (by omega) c3 (by omega) c4 (by omega) c5 hh.1 hh.2
          · rename_i hh
            by_cases g1 : 65536 ≤ (z0 - 240) * 262144 + (z1 - 128) * 4096 + (z2 - 128) * 64 + z3 - 128
            · exact rune_four4 ha h0 h1 n1.1 n1.2 h2 n2.1 n2.2 h3 n3.1 n3.2 m1 m2 m3 c0 c1 (by omega) c3 (by omega) c4 (by omega) c5 g1 (by omega)
            · exact rune_four3 ha h0 h1 n1.1 n1.2 h2 n2.1 n2.2 h3 n3.1 n3.2 m1 m2 m3 c0 c1 (by omega) c3 (by omega) c4 (by omega) c5 g1
  rw [if_neg c5]
  exact rune_top ha h0 (by omega) (by omega) (by omega) (by omega) b0
end Go.Proofs.YtnmfoedfllmclaaGreatDoor
