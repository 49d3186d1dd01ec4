/- NumRules, way by way. -/
import Derived.Test.YtlilojaefpnkmaaDoorAt
namespace Go.Proofs.YtlilojaefpnkmaaDoor
open Go.RowKit
set_option linter.unusedVariables false

set_option maxRecDepth 100000 in
set_option maxHeartbeats 1000000 in
theorem rules_L_z {w : World} {sa sb sc sab sx sy sz sp sq sr sm : ByteArray} {e5 e6 ep k1 k2 k3 k4 kk : Int}
    (CA : Hid (At w 10 #[] (.bool true)))
    (G1 : Hid (At w 13 #[.string sa] (.bool true)))
    (G2 : Hid (At w 13 #[.string ⟨#[48]⟩] (.bool true)))
    (G3 : Hid (At w 13 #[.string sc] (.bool true)))
    (L1 : Hid (At w 11 #[.string sa, .string ⟨#[48]⟩] (.tuple #[.string ⟨#[]⟩, .int .i64 3])))
    (L2 : Hid (At w 11 #[.string ⟨#[48]⟩, .string sa] (.tuple #[.string ⟨#[]⟩, .int .i64 3])))
    (P1 : Hid (At w 19 #[.string sa, .string ⟨#[48]⟩] (.tuple #[.string sp, .int .i64 ep])))
    (P2 : Hid (At w 19 #[.string ⟨#[48]⟩, .string sa] (.tuple #[.string sp, .int .i64 ep]))) :
    At w 5 #[.string sa, .string ⟨#[48]⟩, .string sc] (.bool true) := by
  intro W hb
  go_enter Tryd.func5, Tryd.ntmps5
  go_wp2_with (first
      | (go_at_call 10; refine (CA.out _ hb).mono ?_; clear CA; rintro e W1 ⟨rfl, hb⟩)
      | (go_at_call 13; refine (G1.out _ hb).mono ?_; clear G1; rintro e W1 ⟨rfl, hb⟩)
      | (go_at_call 13; refine (G2.out _ hb).mono ?_; clear G2; rintro e W1 ⟨rfl, hb⟩)
      | (go_at_call 13; refine (G3.out _ hb).mono ?_; clear G3; rintro e W1 ⟨rfl, hb⟩)
      | (go_at_call 11; refine (L1.out _ hb).mono ?_; clear L1; rintro e W1 ⟨rfl, hb⟩)
      | (go_at_call 11; refine (L2.out _ hb).mono ?_; clear L2; rintro e W1 ⟨rfl, hb⟩)
      | (go_at_call 19; refine (P1.out _ hb).mono ?_; clear P1; rintro e W1 ⟨rfl, hb⟩)
      | (go_at_call 19; refine (P2.out _ hb).mono ?_; clear P2; rintro e W1 ⟨rfl, hb⟩))
  refine bodyPost_ret (v := .bool true) ?_ rfl ⟨rfl, hb⟩
  simp [results, Tryd.results5, go_sem]

set_option maxRecDepth 100000 in
set_option maxHeartbeats 1000000 in
theorem rules_L_d {w : World} {sa sb sc sab sx sy sz sp sq sr sm : ByteArray} {e5 e6 ep k1 k2 k3 k4 kk : Int}
    (CA : Hid (At w 10 #[] (.bool true)))
    (G1 : Hid (At w 13 #[.string sa] (.bool true)))
    (G2 : Hid (At w 13 #[.string sb] (.bool true)))
    (G3 : Hid (At w 13 #[.string sc] (.bool true)))
    (L1 : Hid (At w 11 #[.string sa, .string sb] (.tuple #[.string ⟨#[]⟩, .int .i64 3])))
    (L2 : Hid (At w 11 #[.string sb, .string sa] (.tuple #[.string ⟨#[]⟩, .int .i64 3])))
    (P1 : Hid (At w 19 #[.string sa, .string sb] (.tuple #[.string sp, .int .i64 ep])))
    (P2 : Hid (At w 19 #[.string sb, .string sa] (.tuple #[.string sp, .int .i64 ep])))
    (D1 : Hid (At w 20 #[.string sa, .string sb] (.tuple #[.string sq, .string sr, .int .i64 0])))
    (M1 : Hid (At w 19 #[.string sq, .string sb] (.tuple #[.string sm, .int .i64 0])))
    (N1 : Hid (At w 11 #[.string sm, .string sr] (.tuple #[.string sa, .int .i64 0])))
    (K1 : Hid (At w 21 #[.string sr, .string ⟨#[48]⟩] (.int .i64 k1)))
    (K2 : Hid (At w 21 #[.string sa, .string ⟨#[48]⟩] (.int .i64 k2)))
    (K3 : Hid (At w 21 #[.string sa, .string sb] (.int .i64 k3)))
    (K4 : Hid (At w 21 #[.string sb, .string sa] (.int .i64 k4)))
    (hne : (sb.toList == [48]) = false) (hw : wrap64 (k1 * k2) = kk) (hkk : 0 ≤ kk) (hn : wrap64 (-k4) = k3) :
    At w 5 #[.string sa, .string sb, .string sc] (.bool true) := by
  intro W hb
  go_enter Tryd.func5, Tryd.ntmps5
  go_wp2_with (first
      | (go_at_call 10; refine (CA.out _ hb).mono ?_; clear CA; rintro e W1 ⟨rfl, hb⟩)
      | (go_at_call 13; refine (G1.out _ hb).mono ?_; clear G1; rintro e W1 ⟨rfl, hb⟩)
      | (go_at_call 13; refine (G2.out _ hb).mono ?_; clear G2; rintro e W1 ⟨rfl, hb⟩)
      | (go_at_call 13; refine (G3.out _ hb).mono ?_; clear G3; rintro e W1 ⟨rfl, hb⟩)
      | (go_at_call 11; refine (L1.out _ hb).mono ?_; clear L1; rintro e W1 ⟨rfl, hb⟩)
      | (go_at_call 11; refine (L2.out _ hb).mono ?_; clear L2; rintro e W1 ⟨rfl, hb⟩)
      | (go_at_call 19; refine (P1.out _ hb).mono ?_; clear P1; rintro e W1 ⟨rfl, hb⟩)
      | (go_at_call 19; refine (P2.out _ hb).mono ?_; clear P2; rintro e W1 ⟨rfl, hb⟩)
      | (go_at_call 20; refine (D1.out _ hb).mono ?_; clear D1; rintro e W1 ⟨rfl, hb⟩)
      | (go_at_call 19; refine (M1.out _ hb).mono ?_; clear M1; rintro e W1 ⟨rfl, hb⟩)
      | (go_at_call 11; refine (N1.out _ hb).mono ?_; clear N1; rintro e W1 ⟨rfl, hb⟩)
      | (go_at_call 21; refine (K1.out _ hb).mono ?_; clear K1; rintro e W1 ⟨rfl, hb⟩)
      | (go_at_call 21; refine (K2.out _ hb).mono ?_; clear K2; rintro e W1 ⟨rfl, hb⟩)
      | (go_at_call 21; refine (K3.out _ hb).mono ?_; clear K3; rintro e W1 ⟨rfl, hb⟩)
      | (go_at_call 21; refine (K4.out _ hb).mono ?_; clear K4; rintro e W1 ⟨rfl, hb⟩))
  refine bodyPost_ret (v := .bool true) ?_ rfl ⟨rfl, hb⟩
  simp [results, Tryd.results5, go_sem]

set_option maxRecDepth 100000 in
set_option maxHeartbeats 1000000 in
theorem rules_A_z {w : World} {sa sb sc sab sx sy sz sp sq sr sm : ByteArray} {e5 e6 ep k1 k2 k3 k4 kk : Int}
    (CA : Hid (At w 10 #[] (.bool true)))
    (G1 : Hid (At w 13 #[.string sa] (.bool true)))
    (G2 : Hid (At w 13 #[.string ⟨#[48]⟩] (.bool true)))
    (G3 : Hid (At w 13 #[.string sc] (.bool true)))
    (C1 : Hid (At w 11 #[.string sa, .string ⟨#[48]⟩] (.tuple #[.string sab, .int .i64 0])))
    (C2 : Hid (At w 11 #[.string ⟨#[48]⟩, .string sa] (.tuple #[.string sab, .int .i64 0])))
    (C3 : Hid (At w 12 #[.string sab, .string ⟨#[48]⟩] (.tuple #[.string sa, .int .i64 0])))
    (C4_0 : Hid (At w 19 #[.string sab, .string sc] (.tuple #[.string sx, .int .i64 0])))
    (C5_0 : Hid (At w 19 #[.string sa, .string sc] (.tuple #[.string sy, .int .i64 0])))
    (C6_0 : Hid (At w 19 #[.string ⟨#[48]⟩, .string sc] (.tuple #[.string sz, .int .i64 0])))
    (C7 : Hid (At w 11 #[.string sy, .string sz] (.tuple #[.string sx, .int .i64 0])))
    (P1 : Hid (At w 19 #[.string sa, .string ⟨#[48]⟩] (.tuple #[.string sp, .int .i64 ep])))
    (P2 : Hid (At w 19 #[.string ⟨#[48]⟩, .string sa] (.tuple #[.string sp, .int .i64 ep]))) :
    At w 5 #[.string sa, .string ⟨#[48]⟩, .string sc] (.bool true) := by
  intro W hb
  go_enter Tryd.func5, Tryd.ntmps5
  go_wp2_with (first
      | (go_at_call 10; refine (CA.out _ hb).mono ?_; clear CA; rintro e W1 ⟨rfl, hb⟩)
      | (go_at_call 13; refine (G1.out _ hb).mono ?_; clear G1; rintro e W1 ⟨rfl, hb⟩)
      | (go_at_call 13; refine (G2.out _ hb).mono ?_; clear G2; rintro e W1 ⟨rfl, hb⟩)
      | (go_at_call 13; refine (G3.out _ hb).mono ?_; clear G3; rintro e W1 ⟨rfl, hb⟩)
      | (go_at_call 11; refine (C1.out _ hb).mono ?_; clear C1; rintro e W1 ⟨rfl, hb⟩)
      | (go_at_call 11; refine (C2.out _ hb).mono ?_; clear C2; rintro e W1 ⟨rfl, hb⟩)
      | (go_at_call 12; refine (C3.out _ hb).mono ?_; clear C3; rintro e W1 ⟨rfl, hb⟩)
      | (go_at_call 19; refine (C4_0.out _ hb).mono ?_; clear C4_0; rintro e W1 ⟨rfl, hb⟩)
      | (go_at_call 19; refine (C5_0.out _ hb).mono ?_; clear C5_0; rintro e W1 ⟨rfl, hb⟩)
      | (go_at_call 19; refine (C6_0.out _ hb).mono ?_; clear C6_0; rintro e W1 ⟨rfl, hb⟩)
      | (go_at_call 11; refine (C7.out _ hb).mono ?_; clear C7; rintro e W1 ⟨rfl, hb⟩)
      | (go_at_call 19; refine (P1.out _ hb).mono ?_; clear P1; rintro e W1 ⟨rfl, hb⟩)
      | (go_at_call 19; refine (P2.out _ hb).mono ?_; clear P2; rintro e W1 ⟨rfl, hb⟩))
  refine bodyPost_ret (v := .bool true) ?_ rfl ⟨rfl, hb⟩
  simp [results, Tryd.results5, go_sem]

set_option maxRecDepth 100000 in
set_option maxHeartbeats 1000000 in
theorem rules_A_d {w : World} {sa sb sc sab sx sy sz sp sq sr sm : ByteArray} {e5 e6 ep k1 k2 k3 k4 kk : Int}
    (CA : Hid (At w 10 #[] (.bool true)))
    (G1 : Hid (At w 13 #[.string sa] (.bool true)))
    (G2 : Hid (At w 13 #[.string sb] (.bool true)))
    (G3 : Hid (At w 13 #[.string sc] (.bool true)))
    (C1 : Hid (At w 11 #[.string sa, .string sb] (.tuple #[.string sab, .int .i64 0])))
    (C2 : Hid (At w 11 #[.string sb, .string sa] (.tuple #[.string sab, .int .i64 0])))
    (C3 : Hid (At w 12 #[.string sab, .string sb] (.tuple #[.string sa, .int .i64 0])))
    (C4_0 : Hid (At w 19 #[.string sab, .string sc] (.tuple #[.string sx, .int .i64 0])))
    (C5_0 : Hid (At w 19 #[.string sa, .string sc] (.tuple #[.string sy, .int .i64 0])))
    (C6_0 : Hid (At w 19 #[.string sb, .string sc] (.tuple #[.string sz, .int .i64 0])))
    (C7 : Hid (At w 11 #[.string sy, .string sz] (.tuple #[.string sx, .int .i64 0])))
    (P1 : Hid (At w 19 #[.string sa, .string sb] (.tuple #[.string sp, .int .i64 ep])))
    (P2 : Hid (At w 19 #[.string sb, .string sa] (.tuple #[.string sp, .int .i64 ep])))
    (D1 : Hid (At w 20 #[.string sa, .string sb] (.tuple #[.string sq, .string sr, .int .i64 0])))
    (M1 : Hid (At w 19 #[.string sq, .string sb] (.tuple #[.string sm, .int .i64 0])))
    (N1 : Hid (At w 11 #[.string sm, .string sr] (.tuple #[.string sa, .int .i64 0])))
    (K1 : Hid (At w 21 #[.string sr, .string ⟨#[48]⟩] (.int .i64 k1)))
    (K2 : Hid (At w 21 #[.string sa, .string ⟨#[48]⟩] (.int .i64 k2)))
    (K3 : Hid (At w 21 #[.string sa, .string sb] (.int .i64 k3)))
    (K4 : Hid (At w 21 #[.string sb, .string sa] (.int .i64 k4)))
    (hne : (sb.toList == [48]) = false) (hw : wrap64 (k1 * k2) = kk) (hkk : 0 ≤ kk) (hn : wrap64 (-k4) = k3) :
    At w 5 #[.string sa, .string sb, .string sc] (.bool true) := by
  intro W hb
  go_enter Tryd.func5, Tryd.ntmps5
  go_wp2_with (first
      | (go_at_call 10; refine (CA.out _ hb).mono ?_; clear CA; rintro e W1 ⟨rfl, hb⟩)
      | (go_at_call 13; refine (G1.out _ hb).mono ?_; clear G1; rintro e W1 ⟨rfl, hb⟩)
      | (go_at_call 13; refine (G2.out _ hb).mono ?_; clear G2; rintro e W1 ⟨rfl, hb⟩)
      | (go_at_call 13; refine (G3.out _ hb).mono ?_; clear G3; rintro e W1 ⟨rfl, hb⟩)
      | (go_at_call 11; refine (C1.out _ hb).mono ?_; clear C1; rintro e W1 ⟨rfl, hb⟩)
      | (go_at_call 11; refine (C2.out _ hb).mono ?_; clear C2; rintro e W1 ⟨rfl, hb⟩)
      | (go_at_call 12; refine (C3.out _ hb).mono ?_; clear C3; rintro e W1 ⟨rfl, hb⟩)
      | (go_at_call 19; refine (C4_0.out _ hb).mono ?_; clear C4_0; rintro e W1 ⟨rfl, hb⟩)
      | (go_at_call 19; refine (C5_0.out _ hb).mono ?_; clear C5_0; rintro e W1 ⟨rfl, hb⟩)
      | (go_at_call 19; refine (C6_0.out _ hb).mono ?_; clear C6_0; rintro e W1 ⟨rfl, hb⟩)
      | (go_at_call 11; refine (C7.out _ hb).mono ?_; clear C7; rintro e W1 ⟨rfl, hb⟩)
      | (go_at_call 19; refine (P1.out _ hb).mono ?_; clear P1; rintro e W1 ⟨rfl, hb⟩)
      | (go_at_call 19; refine (P2.out _ hb).mono ?_; clear P2; rintro e W1 ⟨rfl, hb⟩)
      | (go_at_call 20; refine (D1.out _ hb).mono ?_; clear D1; rintro e W1 ⟨rfl, hb⟩)
      | (go_at_call 19; refine (M1.out _ hb).mono ?_; clear M1; rintro e W1 ⟨rfl, hb⟩)
      | (go_at_call 11; refine (N1.out _ hb).mono ?_; clear N1; rintro e W1 ⟨rfl, hb⟩)
      | (go_at_call 21; refine (K1.out _ hb).mono ?_; clear K1; rintro e W1 ⟨rfl, hb⟩)
      | (go_at_call 21; refine (K2.out _ hb).mono ?_; clear K2; rintro e W1 ⟨rfl, hb⟩)
      | (go_at_call 21; refine (K3.out _ hb).mono ?_; clear K3; rintro e W1 ⟨rfl, hb⟩)
      | (go_at_call 21; refine (K4.out _ hb).mono ?_; clear K4; rintro e W1 ⟨rfl, hb⟩))
  refine bodyPost_ret (v := .bool true) ?_ rfl ⟨rfl, hb⟩
  simp [results, Tryd.results5, go_sem]

set_option maxRecDepth 100000 in
set_option maxHeartbeats 1000000 in
theorem rules_F_z {w : World} {sa sb sc sab sx sy sz sp sq sr sm : ByteArray} {e5 e6 ep k1 k2 k3 k4 kk : Int}
    (CA : Hid (At w 10 #[] (.bool true)))
    (G1 : Hid (At w 13 #[.string sa] (.bool true)))
    (G2 : Hid (At w 13 #[.string ⟨#[48]⟩] (.bool true)))
    (G3 : Hid (At w 13 #[.string sc] (.bool true)))
    (C1 : Hid (At w 11 #[.string sa, .string ⟨#[48]⟩] (.tuple #[.string sab, .int .i64 0])))
    (C2 : Hid (At w 11 #[.string ⟨#[48]⟩, .string sa] (.tuple #[.string sab, .int .i64 0])))
    (C3 : Hid (At w 12 #[.string sab, .string ⟨#[48]⟩] (.tuple #[.string sa, .int .i64 0])))
    (C4_3 : Hid (At w 19 #[.string sab, .string sc] (.tuple #[.string sx, .int .i64 3])))
    (C5_e : Hid (At w 19 #[.string sa, .string sc] (.tuple #[.string sy, .int .i64 e5])))
    (C6_e : Hid (At w 19 #[.string ⟨#[48]⟩, .string sc] (.tuple #[.string sz, .int .i64 e6])))
    (P1 : Hid (At w 19 #[.string sa, .string ⟨#[48]⟩] (.tuple #[.string sp, .int .i64 ep])))
    (P2 : Hid (At w 19 #[.string ⟨#[48]⟩, .string sa] (.tuple #[.string sp, .int .i64 ep]))) :
    At w 5 #[.string sa, .string ⟨#[48]⟩, .string sc] (.bool true) := by
  intro W hb
  go_enter Tryd.func5, Tryd.ntmps5
  go_wp2_with (first
      | (go_at_call 10; refine (CA.out _ hb).mono ?_; clear CA; rintro e W1 ⟨rfl, hb⟩)
      | (go_at_call 13; refine (G1.out _ hb).mono ?_; clear G1; rintro e W1 ⟨rfl, hb⟩)
      | (go_at_call 13; refine (G2.out _ hb).mono ?_; clear G2; rintro e W1 ⟨rfl, hb⟩)
      | (go_at_call 13; refine (G3.out _ hb).mono ?_; clear G3; rintro e W1 ⟨rfl, hb⟩)
      | (go_at_call 11; refine (C1.out _ hb).mono ?_; clear C1; rintro e W1 ⟨rfl, hb⟩)
      | (go_at_call 11; refine (C2.out _ hb).mono ?_; clear C2; rintro e W1 ⟨rfl, hb⟩)
      | (go_at_call 12; refine (C3.out _ hb).mono ?_; clear C3; rintro e W1 ⟨rfl, hb⟩)
      | (go_at_call 19; refine (C4_3.out _ hb).mono ?_; clear C4_3; rintro e W1 ⟨rfl, hb⟩)
      | (go_at_call 19; refine (C5_e.out _ hb).mono ?_; clear C5_e; rintro e W1 ⟨rfl, hb⟩)
      | (go_at_call 19; refine (C6_e.out _ hb).mono ?_; clear C6_e; rintro e W1 ⟨rfl, hb⟩)
      | (go_at_call 19; refine (P1.out _ hb).mono ?_; clear P1; rintro e W1 ⟨rfl, hb⟩)
      | (go_at_call 19; refine (P2.out _ hb).mono ?_; clear P2; rintro e W1 ⟨rfl, hb⟩))
  refine bodyPost_ret (v := .bool true) ?_ rfl ⟨rfl, hb⟩
  simp [results, Tryd.results5, go_sem]

set_option maxRecDepth 100000 in
set_option maxHeartbeats 1000000 in
theorem rules_F_d {w : World} {sa sb sc sab sx sy sz sp sq sr sm : ByteArray} {e5 e6 ep k1 k2 k3 k4 kk : Int}
    (CA : Hid (At w 10 #[] (.bool true)))
    (G1 : Hid (At w 13 #[.string sa] (.bool true)))
    (G2 : Hid (At w 13 #[.string sb] (.bool true)))
    (G3 : Hid (At w 13 #[.string sc] (.bool true)))
    (C1 : Hid (At w 11 #[.string sa, .string sb] (.tuple #[.string sab, .int .i64 0])))
    (C2 : Hid (At w 11 #[.string sb, .string sa] (.tuple #[.string sab, .int .i64 0])))
    (C3 : Hid (At w 12 #[.string sab, .string sb] (.tuple #[.string sa, .int .i64 0])))
    (C4_3 : Hid (At w 19 #[.string sab, .string sc] (.tuple #[.string sx, .int .i64 3])))
    (C5_e : Hid (At w 19 #[.string sa, .string sc] (.tuple #[.string sy, .int .i64 e5])))
    (C6_e : Hid (At w 19 #[.string sb, .string sc] (.tuple #[.string sz, .int .i64 e6])))
    (P1 : Hid (At w 19 #[.string sa, .string sb] (.tuple #[.string sp, .int .i64 ep])))
    (P2 : Hid (At w 19 #[.string sb, .string sa] (.tuple #[.string sp, .int .i64 ep])))
    (D1 : Hid (At w 20 #[.string sa, .string sb] (.tuple #[.string sq, .string sr, .int .i64 0])))
    (M1 : Hid (At w 19 #[.string sq, .string sb] (.tuple #[.string sm, .int .i64 0])))
    (N1 : Hid (At w 11 #[.string sm, .string sr] (.tuple #[.string sa, .int .i64 0])))
    (K1 : Hid (At w 21 #[.string sr, .string ⟨#[48]⟩] (.int .i64 k1)))
    (K2 : Hid (At w 21 #[.string sa, .string ⟨#[48]⟩] (.int .i64 k2)))
    (K3 : Hid (At w 21 #[.string sa, .string sb] (.int .i64 k3)))
    (K4 : Hid (At w 21 #[.string sb, .string sa] (.int .i64 k4)))
    (hne : (sb.toList == [48]) = false) (hw : wrap64 (k1 * k2) = kk) (hkk : 0 ≤ kk) (hn : wrap64 (-k4) = k3) :
    At w 5 #[.string sa, .string sb, .string sc] (.bool true) := by
  intro W hb
  go_enter Tryd.func5, Tryd.ntmps5
  go_wp2_with (first
      | (go_at_call 10; refine (CA.out _ hb).mono ?_; clear CA; rintro e W1 ⟨rfl, hb⟩)
      | (go_at_call 13; refine (G1.out _ hb).mono ?_; clear G1; rintro e W1 ⟨rfl, hb⟩)
      | (go_at_call 13; refine (G2.out _ hb).mono ?_; clear G2; rintro e W1 ⟨rfl, hb⟩)
      | (go_at_call 13; refine (G3.out _ hb).mono ?_; clear G3; rintro e W1 ⟨rfl, hb⟩)
      | (go_at_call 11; refine (C1.out _ hb).mono ?_; clear C1; rintro e W1 ⟨rfl, hb⟩)
      | (go_at_call 11; refine (C2.out _ hb).mono ?_; clear C2; rintro e W1 ⟨rfl, hb⟩)
      | (go_at_call 12; refine (C3.out _ hb).mono ?_; clear C3; rintro e W1 ⟨rfl, hb⟩)
      | (go_at_call 19; refine (C4_3.out _ hb).mono ?_; clear C4_3; rintro e W1 ⟨rfl, hb⟩)
      | (go_at_call 19; refine (C5_e.out _ hb).mono ?_; clear C5_e; rintro e W1 ⟨rfl, hb⟩)
      | (go_at_call 19; refine (C6_e.out _ hb).mono ?_; clear C6_e; rintro e W1 ⟨rfl, hb⟩)
      | (go_at_call 19; refine (P1.out _ hb).mono ?_; clear P1; rintro e W1 ⟨rfl, hb⟩)
      | (go_at_call 19; refine (P2.out _ hb).mono ?_; clear P2; rintro e W1 ⟨rfl, hb⟩)
      | (go_at_call 20; refine (D1.out _ hb).mono ?_; clear D1; rintro e W1 ⟨rfl, hb⟩)
      | (go_at_call 19; refine (M1.out _ hb).mono ?_; clear M1; rintro e W1 ⟨rfl, hb⟩)
      | (go_at_call 11; refine (N1.out _ hb).mono ?_; clear N1; rintro e W1 ⟨rfl, hb⟩)
      | (go_at_call 21; refine (K1.out _ hb).mono ?_; clear K1; rintro e W1 ⟨rfl, hb⟩)
      | (go_at_call 21; refine (K2.out _ hb).mono ?_; clear K2; rintro e W1 ⟨rfl, hb⟩)
      | (go_at_call 21; refine (K3.out _ hb).mono ?_; clear K3; rintro e W1 ⟨rfl, hb⟩)
      | (go_at_call 21; refine (K4.out _ hb).mono ?_; clear K4; rintro e W1 ⟨rfl, hb⟩))
  refine bodyPost_ret (v := .bool true) ?_ rfl ⟨rfl, hb⟩
  simp [results, Tryd.results5, go_sem]

set_option maxRecDepth 100000 in
set_option maxHeartbeats 1000000 in
theorem rules_G_z {w : World} {sa sb sc sab sx sy sz sp sq sr sm : ByteArray} {e5 e6 ep k1 k2 k3 k4 kk : Int}
    (CA : Hid (At w 10 #[] (.bool true)))
    (G1 : Hid (At w 13 #[.string sa] (.bool true)))
    (G2 : Hid (At w 13 #[.string ⟨#[48]⟩] (.bool true)))
    (G3 : Hid (At w 13 #[.string sc] (.bool true)))
    (C1 : Hid (At w 11 #[.string sa, .string ⟨#[48]⟩] (.tuple #[.string sab, .int .i64 0])))
    (C2 : Hid (At w 11 #[.string ⟨#[48]⟩, .string sa] (.tuple #[.string sab, .int .i64 0])))
    (C3 : Hid (At w 12 #[.string sab, .string ⟨#[48]⟩] (.tuple #[.string sa, .int .i64 0])))
    (C4_0 : Hid (At w 19 #[.string sab, .string sc] (.tuple #[.string sx, .int .i64 0])))
    (C5_3 : Hid (At w 19 #[.string sa, .string sc] (.tuple #[.string sy, .int .i64 3])))
    (C6_e : Hid (At w 19 #[.string ⟨#[48]⟩, .string sc] (.tuple #[.string sz, .int .i64 e6])))
    (P1 : Hid (At w 19 #[.string sa, .string ⟨#[48]⟩] (.tuple #[.string sp, .int .i64 ep])))
    (P2 : Hid (At w 19 #[.string ⟨#[48]⟩, .string sa] (.tuple #[.string sp, .int .i64 ep]))) :
    At w 5 #[.string sa, .string ⟨#[48]⟩, .string sc] (.bool true) := by
  intro W hb
  go_enter Tryd.func5, Tryd.ntmps5
  go_wp2_with (first
      | (go_at_call 10; refine (CA.out _ hb).mono ?_; clear CA; rintro e W1 ⟨rfl, hb⟩)
      | (go_at_call 13; refine (G1.out _ hb).mono ?_; clear G1; rintro e W1 ⟨rfl, hb⟩)
      | (go_at_call 13; refine (G2.out _ hb).mono ?_; clear G2; rintro e W1 ⟨rfl, hb⟩)
      | (go_at_call 13; refine (G3.out _ hb).mono ?_; clear G3; rintro e W1 ⟨rfl, hb⟩)
      | (go_at_call 11; refine (C1.out _ hb).mono ?_; clear C1; rintro e W1 ⟨rfl, hb⟩)
      | (go_at_call 11; refine (C2.out _ hb).mono ?_; clear C2; rintro e W1 ⟨rfl, hb⟩)
      | (go_at_call 12; refine (C3.out _ hb).mono ?_; clear C3; rintro e W1 ⟨rfl, hb⟩)
      | (go_at_call 19; refine (C4_0.out _ hb).mono ?_; clear C4_0; rintro e W1 ⟨rfl, hb⟩)
      | (go_at_call 19; refine (C5_3.out _ hb).mono ?_; clear C5_3; rintro e W1 ⟨rfl, hb⟩)
      | (go_at_call 19; refine (C6_e.out _ hb).mono ?_; clear C6_e; rintro e W1 ⟨rfl, hb⟩)
      | (go_at_call 19; refine (P1.out _ hb).mono ?_; clear P1; rintro e W1 ⟨rfl, hb⟩)
      | (go_at_call 19; refine (P2.out _ hb).mono ?_; clear P2; rintro e W1 ⟨rfl, hb⟩))
  refine bodyPost_ret (v := .bool true) ?_ rfl ⟨rfl, hb⟩
  simp [results, Tryd.results5, go_sem]

set_option maxRecDepth 100000 in
set_option maxHeartbeats 1000000 in
theorem rules_G_d {w : World} {sa sb sc sab sx sy sz sp sq sr sm : ByteArray} {e5 e6 ep k1 k2 k3 k4 kk : Int}
    (CA : Hid (At w 10 #[] (.bool true)))
    (G1 : Hid (At w 13 #[.string sa] (.bool true)))
    (G2 : Hid (At w 13 #[.string sb] (.bool true)))
    (G3 : Hid (At w 13 #[.string sc] (.bool true)))
    (C1 : Hid (At w 11 #[.string sa, .string sb] (.tuple #[.string sab, .int .i64 0])))
    (C2 : Hid (At w 11 #[.string sb, .string sa] (.tuple #[.string sab, .int .i64 0])))
    (C3 : Hid (At w 12 #[.string sab, .string sb] (.tuple #[.string sa, .int .i64 0])))
    (C4_0 : Hid (At w 19 #[.string sab, .string sc] (.tuple #[.string sx, .int .i64 0])))
    (C5_3 : Hid (At w 19 #[.string sa, .string sc] (.tuple #[.string sy, .int .i64 3])))
    (C6_e : Hid (At w 19 #[.string sb, .string sc] (.tuple #[.string sz, .int .i64 e6])))
    (P1 : Hid (At w 19 #[.string sa, .string sb] (.tuple #[.string sp, .int .i64 ep])))
    (P2 : Hid (At w 19 #[.string sb, .string sa] (.tuple #[.string sp, .int .i64 ep])))
    (D1 : Hid (At w 20 #[.string sa, .string sb] (.tuple #[.string sq, .string sr, .int .i64 0])))
    (M1 : Hid (At w 19 #[.string sq, .string sb] (.tuple #[.string sm, .int .i64 0])))
    (N1 : Hid (At w 11 #[.string sm, .string sr] (.tuple #[.string sa, .int .i64 0])))
    (K1 : Hid (At w 21 #[.string sr, .string ⟨#[48]⟩] (.int .i64 k1)))
    (K2 : Hid (At w 21 #[.string sa, .string ⟨#[48]⟩] (.int .i64 k2)))
    (K3 : Hid (At w 21 #[.string sa, .string sb] (.int .i64 k3)))
    (K4 : Hid (At w 21 #[.string sb, .string sa] (.int .i64 k4)))
    (hne : (sb.toList == [48]) = false) (hw : wrap64 (k1 * k2) = kk) (hkk : 0 ≤ kk) (hn : wrap64 (-k4) = k3) :
    At w 5 #[.string sa, .string sb, .string sc] (.bool true) := by
  intro W hb
  go_enter Tryd.func5, Tryd.ntmps5
  go_wp2_with (first
      | (go_at_call 10; refine (CA.out _ hb).mono ?_; clear CA; rintro e W1 ⟨rfl, hb⟩)
      | (go_at_call 13; refine (G1.out _ hb).mono ?_; clear G1; rintro e W1 ⟨rfl, hb⟩)
      | (go_at_call 13; refine (G2.out _ hb).mono ?_; clear G2; rintro e W1 ⟨rfl, hb⟩)
      | (go_at_call 13; refine (G3.out _ hb).mono ?_; clear G3; rintro e W1 ⟨rfl, hb⟩)
      | (go_at_call 11; refine (C1.out _ hb).mono ?_; clear C1; rintro e W1 ⟨rfl, hb⟩)
      | (go_at_call 11; refine (C2.out _ hb).mono ?_; clear C2; rintro e W1 ⟨rfl, hb⟩)
      | (go_at_call 12; refine (C3.out _ hb).mono ?_; clear C3; rintro e W1 ⟨rfl, hb⟩)
      | (go_at_call 19; refine (C4_0.out _ hb).mono ?_; clear C4_0; rintro e W1 ⟨rfl, hb⟩)
      | (go_at_call 19; refine (C5_3.out _ hb).mono ?_; clear C5_3; rintro e W1 ⟨rfl, hb⟩)
      | (go_at_call 19; refine (C6_e.out _ hb).mono ?_; clear C6_e; rintro e W1 ⟨rfl, hb⟩)
      | (go_at_call 19; refine (P1.out _ hb).mono ?_; clear P1; rintro e W1 ⟨rfl, hb⟩)
      | (go_at_call 19; refine (P2.out _ hb).mono ?_; clear P2; rintro e W1 ⟨rfl, hb⟩)
      | (go_at_call 20; refine (D1.out _ hb).mono ?_; clear D1; rintro e W1 ⟨rfl, hb⟩)
      | (go_at_call 19; refine (M1.out _ hb).mono ?_; clear M1; rintro e W1 ⟨rfl, hb⟩)
      | (go_at_call 11; refine (N1.out _ hb).mono ?_; clear N1; rintro e W1 ⟨rfl, hb⟩)
      | (go_at_call 21; refine (K1.out _ hb).mono ?_; clear K1; rintro e W1 ⟨rfl, hb⟩)
      | (go_at_call 21; refine (K2.out _ hb).mono ?_; clear K2; rintro e W1 ⟨rfl, hb⟩)
      | (go_at_call 21; refine (K3.out _ hb).mono ?_; clear K3; rintro e W1 ⟨rfl, hb⟩)
      | (go_at_call 21; refine (K4.out _ hb).mono ?_; clear K4; rintro e W1 ⟨rfl, hb⟩))
  refine bodyPost_ret (v := .bool true) ?_ rfl ⟨rfl, hb⟩
  simp [results, Tryd.results5, go_sem]

set_option maxRecDepth 100000 in
set_option maxHeartbeats 1000000 in
theorem rules_H_z {w : World} {sa sb sc sab sx sy sz sp sq sr sm : ByteArray} {e5 e6 ep k1 k2 k3 k4 kk : Int}
    (CA : Hid (At w 10 #[] (.bool true)))
    (G1 : Hid (At w 13 #[.string sa] (.bool true)))
    (G2 : Hid (At w 13 #[.string ⟨#[48]⟩] (.bool true)))
    (G3 : Hid (At w 13 #[.string sc] (.bool true)))
    (C1 : Hid (At w 11 #[.string sa, .string ⟨#[48]⟩] (.tuple #[.string sab, .int .i64 0])))
    (C2 : Hid (At w 11 #[.string ⟨#[48]⟩, .string sa] (.tuple #[.string sab, .int .i64 0])))
    (C3 : Hid (At w 12 #[.string sab, .string ⟨#[48]⟩] (.tuple #[.string sa, .int .i64 0])))
    (C4_0 : Hid (At w 19 #[.string sab, .string sc] (.tuple #[.string sx, .int .i64 0])))
    (C5_0 : Hid (At w 19 #[.string sa, .string sc] (.tuple #[.string sy, .int .i64 0])))
    (C6_3 : Hid (At w 19 #[.string ⟨#[48]⟩, .string sc] (.tuple #[.string sz, .int .i64 3])))
    (P1 : Hid (At w 19 #[.string sa, .string ⟨#[48]⟩] (.tuple #[.string sp, .int .i64 ep])))
    (P2 : Hid (At w 19 #[.string ⟨#[48]⟩, .string sa] (.tuple #[.string sp, .int .i64 ep]))) :
    At w 5 #[.string sa, .string ⟨#[48]⟩, .string sc] (.bool true) := by
  intro W hb
  go_enter Tryd.func5, Tryd.ntmps5
  go_wp2_with (first
      | (go_at_call 10; refine (CA.out _ hb).mono ?_; clear CA; rintro e W1 ⟨rfl, hb⟩)
      | (go_at_call 13; refine (G1.out _ hb).mono ?_; clear G1; rintro e W1 ⟨rfl, hb⟩)
      | (go_at_call 13; refine (G2.out _ hb).mono ?_; clear G2; rintro e W1 ⟨rfl, hb⟩)
      | (go_at_call 13; refine (G3.out _ hb).mono ?_; clear G3; rintro e W1 ⟨rfl, hb⟩)
      | (go_at_call 11; refine (C1.out _ hb).mono ?_; clear C1; rintro e W1 ⟨rfl, hb⟩)
      | (go_at_call 11; refine (C2.out _ hb).mono ?_; clear C2; rintro e W1 ⟨rfl, hb⟩)
      | (go_at_call 12; refine (C3.out _ hb).mono ?_; clear C3; rintro e W1 ⟨rfl, hb⟩)
      | (go_at_call 19; refine (C4_0.out _ hb).mono ?_; clear C4_0; rintro e W1 ⟨rfl, hb⟩)
      | (go_at_call 19; refine (C5_0.out _ hb).mono ?_; clear C5_0; rintro e W1 ⟨rfl, hb⟩)
      | (go_at_call 19; refine (C6_3.out _ hb).mono ?_; clear C6_3; rintro e W1 ⟨rfl, hb⟩)
      | (go_at_call 19; refine (P1.out _ hb).mono ?_; clear P1; rintro e W1 ⟨rfl, hb⟩)
      | (go_at_call 19; refine (P2.out _ hb).mono ?_; clear P2; rintro e W1 ⟨rfl, hb⟩))
  refine bodyPost_ret (v := .bool true) ?_ rfl ⟨rfl, hb⟩
  simp [results, Tryd.results5, go_sem]

set_option maxRecDepth 100000 in
set_option maxHeartbeats 1000000 in
theorem rules_H_d {w : World} {sa sb sc sab sx sy sz sp sq sr sm : ByteArray} {e5 e6 ep k1 k2 k3 k4 kk : Int}
    (CA : Hid (At w 10 #[] (.bool true)))
    (G1 : Hid (At w 13 #[.string sa] (.bool true)))
    (G2 : Hid (At w 13 #[.string sb] (.bool true)))
    (G3 : Hid (At w 13 #[.string sc] (.bool true)))
    (C1 : Hid (At w 11 #[.string sa, .string sb] (.tuple #[.string sab, .int .i64 0])))
    (C2 : Hid (At w 11 #[.string sb, .string sa] (.tuple #[.string sab, .int .i64 0])))
    (C3 : Hid (At w 12 #[.string sab, .string sb] (.tuple #[.string sa, .int .i64 0])))
    (C4_0 : Hid (At w 19 #[.string sab, .string sc] (.tuple #[.string sx, .int .i64 0])))
    (C5_0 : Hid (At w 19 #[.string sa, .string sc] (.tuple #[.string sy, .int .i64 0])))
    (C6_3 : Hid (At w 19 #[.string sb, .string sc] (.tuple #[.string sz, .int .i64 3])))
    (P1 : Hid (At w 19 #[.string sa, .string sb] (.tuple #[.string sp, .int .i64 ep])))
    (P2 : Hid (At w 19 #[.string sb, .string sa] (.tuple #[.string sp, .int .i64 ep])))
    (D1 : Hid (At w 20 #[.string sa, .string sb] (.tuple #[.string sq, .string sr, .int .i64 0])))
    (M1 : Hid (At w 19 #[.string sq, .string sb] (.tuple #[.string sm, .int .i64 0])))
    (N1 : Hid (At w 11 #[.string sm, .string sr] (.tuple #[.string sa, .int .i64 0])))
    (K1 : Hid (At w 21 #[.string sr, .string ⟨#[48]⟩] (.int .i64 k1)))
    (K2 : Hid (At w 21 #[.string sa, .string ⟨#[48]⟩] (.int .i64 k2)))
    (K3 : Hid (At w 21 #[.string sa, .string sb] (.int .i64 k3)))
    (K4 : Hid (At w 21 #[.string sb, .string sa] (.int .i64 k4)))
    (hne : (sb.toList == [48]) = false) (hw : wrap64 (k1 * k2) = kk) (hkk : 0 ≤ kk) (hn : wrap64 (-k4) = k3) :
    At w 5 #[.string sa, .string sb, .string sc] (.bool true) := by
  intro W hb
  go_enter Tryd.func5, Tryd.ntmps5
  go_wp2_with (first
      | (go_at_call 10; refine (CA.out _ hb).mono ?_; clear CA; rintro e W1 ⟨rfl, hb⟩)
      | (go_at_call 13; refine (G1.out _ hb).mono ?_; clear G1; rintro e W1 ⟨rfl, hb⟩)
      | (go_at_call 13; refine (G2.out _ hb).mono ?_; clear G2; rintro e W1 ⟨rfl, hb⟩)
      | (go_at_call 13; refine (G3.out _ hb).mono ?_; clear G3; rintro e W1 ⟨rfl, hb⟩)
      | (go_at_call 11; refine (C1.out _ hb).mono ?_; clear C1; rintro e W1 ⟨rfl, hb⟩)
      | (go_at_call 11; refine (C2.out _ hb).mono ?_; clear C2; rintro e W1 ⟨rfl, hb⟩)
      | (go_at_call 12; refine (C3.out _ hb).mono ?_; clear C3; rintro e W1 ⟨rfl, hb⟩)
      | (go_at_call 19; refine (C4_0.out _ hb).mono ?_; clear C4_0; rintro e W1 ⟨rfl, hb⟩)
      | (go_at_call 19; refine (C5_0.out _ hb).mono ?_; clear C5_0; rintro e W1 ⟨rfl, hb⟩)
      | (go_at_call 19; refine (C6_3.out _ hb).mono ?_; clear C6_3; rintro e W1 ⟨rfl, hb⟩)
      | (go_at_call 19; refine (P1.out _ hb).mono ?_; clear P1; rintro e W1 ⟨rfl, hb⟩)
      | (go_at_call 19; refine (P2.out _ hb).mono ?_; clear P2; rintro e W1 ⟨rfl, hb⟩)
      | (go_at_call 20; refine (D1.out _ hb).mono ?_; clear D1; rintro e W1 ⟨rfl, hb⟩)
      | (go_at_call 19; refine (M1.out _ hb).mono ?_; clear M1; rintro e W1 ⟨rfl, hb⟩)
      | (go_at_call 11; refine (N1.out _ hb).mono ?_; clear N1; rintro e W1 ⟨rfl, hb⟩)
      | (go_at_call 21; refine (K1.out _ hb).mono ?_; clear K1; rintro e W1 ⟨rfl, hb⟩)
      | (go_at_call 21; refine (K2.out _ hb).mono ?_; clear K2; rintro e W1 ⟨rfl, hb⟩)
      | (go_at_call 21; refine (K3.out _ hb).mono ?_; clear K3; rintro e W1 ⟨rfl, hb⟩)
      | (go_at_call 21; refine (K4.out _ hb).mono ?_; clear K4; rintro e W1 ⟨rfl, hb⟩))
  refine bodyPost_ret (v := .bool true) ?_ rfl ⟨rfl, hb⟩
  simp [results, Tryd.results5, go_sem]

end Go.Proofs.YtlilojaefpnkmaaDoor
