/- NumSigns, way by way. -/
import Derived.Test.YtlilojaefpnkmaaDoorAt
namespace Go.Proofs.YtlilojaefpnkmaaDoor
open Go.RowKit
set_option linter.unusedVariables false

set_option maxRecDepth 100000 in
set_option maxHeartbeats 1000000 in
theorem signs_p0_d0_b0 {w : World} {sa sb sx sp sq ss sd su sv sw sy : ByteArray} {ep es ed k : Int} (CA : Hid (At w 10 #[] (.bool true))) (G1 : Hid (At w 13 #[.string sa] (.bool true))) (G2 : Hid (At w 13 #[.string ⟨#[48]⟩] (.bool true)))
    (CX : Hid (At w 12 #[.string ⟨#[48]⟩, .string sa] (.tuple #[.string sx, .int .i64 0]))) (CP : Hid (At w 19 #[.string sa, .string ⟨#[48]⟩] (.tuple #[.string sp, .int .i64 0]))) (CQ : Hid (At w 19 #[.string sx, .string ⟨#[48]⟩] (.tuple #[.string sq, .int .i64 0]))) (CS : Hid (At w 11 #[.string sp, .string sq] (.tuple #[.string ⟨#[48]⟩, .int .i64 0])))
    (CD : Hid (At w 12 #[.string sa, .string ⟨#[48]⟩] (.tuple #[.string sd, .int .i64 0]))) (CC2 : Hid (At w 21 #[.string sa, .string ⟨#[48]⟩] (.int .i64 k)))
    (CC1 : Hid (At w 21 #[.string sd, .string ⟨#[48]⟩] (.int .i64 k))) :
    At w 9 #[.string sa, .string ⟨#[48]⟩] (.bool true) := by
  intro W hb
  go_enter Tryd.func9, Tryd.ntmps9
  go_wp2_with (first
      | (go_at_call 10; refine (CA.out _ hb).mono ?_; clear CA; rintro e W1 ⟨rfl, hb⟩)
      | (go_at_call 13; refine (G1.out _ hb).mono ?_; clear G1; rintro e W1 ⟨rfl, hb⟩)
      | (go_at_call 13; refine (G2.out _ hb).mono ?_; clear G2; rintro e W1 ⟨rfl, hb⟩)
      | (go_at_call 12; refine (CX.out _ hb).mono ?_; clear CX; rintro e W1 ⟨rfl, hb⟩)
      | (go_at_call 19; refine (CP.out _ hb).mono ?_; clear CP; rintro e W1 ⟨rfl, hb⟩)
      | (go_at_call 19; refine (CQ.out _ hb).mono ?_; clear CQ; rintro e W1 ⟨rfl, hb⟩)
      | (go_at_call 11; refine (CS.out _ hb).mono ?_; clear CS; rintro e W1 ⟨rfl, hb⟩)
      | (go_at_call 12; refine (CD.out _ hb).mono ?_; clear CD; rintro e W1 ⟨rfl, hb⟩)
      | (go_at_call 21; refine (CC1.out _ hb).mono ?_; clear CC1; rintro e W1 ⟨rfl, hb⟩)
      | (go_at_call 21; refine (CC2.out _ hb).mono ?_; clear CC2; rintro e W1 ⟨rfl, hb⟩))
  refine bodyPost_ret (v := .bool true) ?_ rfl ⟨rfl, hb⟩
  simp [results, Tryd.results9, go_sem]

set_option maxRecDepth 100000 in
set_option maxHeartbeats 1000000 in
theorem signs_p0_d0_b1 {w : World} {sa sb sx sp sq ss sd su sv sw sy : ByteArray} {ep es ed k : Int} (CA : Hid (At w 10 #[] (.bool true))) (G1 : Hid (At w 13 #[.string sa] (.bool true))) (G2 : Hid (At w 13 #[.string sb] (.bool true)))
    (CX : Hid (At w 12 #[.string ⟨#[48]⟩, .string sa] (.tuple #[.string sx, .int .i64 0]))) (CP : Hid (At w 19 #[.string sa, .string sb] (.tuple #[.string sp, .int .i64 0]))) (CQ : Hid (At w 19 #[.string sx, .string sb] (.tuple #[.string sq, .int .i64 0]))) (CS : Hid (At w 11 #[.string sp, .string sq] (.tuple #[.string ⟨#[48]⟩, .int .i64 0])))
    (CD : Hid (At w 12 #[.string sa, .string sb] (.tuple #[.string sd, .int .i64 0]))) (CC2 : Hid (At w 21 #[.string sa, .string sb] (.int .i64 k)))
    (CC1 : Hid (At w 21 #[.string sd, .string ⟨#[48]⟩] (.int .i64 k)))
    (hne : (sb.toList == [48]) = false) (CU : Hid (At w 20 #[.string sa, .string sb] (.tuple #[.string su, .string sv, .int .i64 0]))) (CW : Hid (At w 20 #[.string sx, .string sb] (.tuple #[.string sw, .string sy, .int .i64 0]))) (CM : Hid (At w 11 #[.string su, .string sw] (.tuple #[.string ⟨#[48]⟩, .int .i64 0]))) (CN : Hid (At w 11 #[.string sv, .string sy] (.tuple #[.string ⟨#[48]⟩, .int .i64 0]))) :
    At w 9 #[.string sa, .string sb] (.bool true) := by
  intro W hb
  go_enter Tryd.func9, Tryd.ntmps9
  go_wp2_with (first
      | (go_at_call 10; refine (CA.out _ hb).mono ?_; clear CA; rintro e W1 ⟨rfl, hb⟩)
      | (go_at_call 13; refine (G1.out _ hb).mono ?_; clear G1; rintro e W1 ⟨rfl, hb⟩)
      | (go_at_call 13; refine (G2.out _ hb).mono ?_; clear G2; rintro e W1 ⟨rfl, hb⟩)
      | (go_at_call 12; refine (CX.out _ hb).mono ?_; clear CX; rintro e W1 ⟨rfl, hb⟩)
      | (go_at_call 19; refine (CP.out _ hb).mono ?_; clear CP; rintro e W1 ⟨rfl, hb⟩)
      | (go_at_call 19; refine (CQ.out _ hb).mono ?_; clear CQ; rintro e W1 ⟨rfl, hb⟩)
      | (go_at_call 11; refine (CS.out _ hb).mono ?_; clear CS; rintro e W1 ⟨rfl, hb⟩)
      | (go_at_call 12; refine (CD.out _ hb).mono ?_; clear CD; rintro e W1 ⟨rfl, hb⟩)
      | (go_at_call 21; refine (CC1.out _ hb).mono ?_; clear CC1; rintro e W1 ⟨rfl, hb⟩)
      | (go_at_call 21; refine (CC2.out _ hb).mono ?_; clear CC2; rintro e W1 ⟨rfl, hb⟩)
      | (go_at_call 20; refine (CU.out _ hb).mono ?_; clear CU; rintro e W1 ⟨rfl, hb⟩)
      | (go_at_call 20; refine (CW.out _ hb).mono ?_; clear CW; rintro e W1 ⟨rfl, hb⟩)
      | (go_at_call 11; refine (CM.out _ hb).mono ?_; clear CM; rintro e W1 ⟨rfl, hb⟩)
      | (go_at_call 11; refine (CN.out _ hb).mono ?_; clear CN; rintro e W1 ⟨rfl, hb⟩))
  refine bodyPost_ret (v := .bool true) ?_ rfl ⟨rfl, hb⟩
  simp [results, Tryd.results9, go_sem]

set_option maxRecDepth 100000 in
set_option maxHeartbeats 1000000 in
theorem signs_p0_d3_b0 {w : World} {sa sb sx sp sq ss sd su sv sw sy : ByteArray} {ep es ed k : Int} (CA : Hid (At w 10 #[] (.bool true))) (G1 : Hid (At w 13 #[.string sa] (.bool true))) (G2 : Hid (At w 13 #[.string ⟨#[48]⟩] (.bool true)))
    (CX : Hid (At w 12 #[.string ⟨#[48]⟩, .string sa] (.tuple #[.string sx, .int .i64 0]))) (CP : Hid (At w 19 #[.string sa, .string ⟨#[48]⟩] (.tuple #[.string sp, .int .i64 0]))) (CQ : Hid (At w 19 #[.string sx, .string ⟨#[48]⟩] (.tuple #[.string sq, .int .i64 0]))) (CS : Hid (At w 11 #[.string sp, .string sq] (.tuple #[.string ⟨#[48]⟩, .int .i64 0])))
    (CD : Hid (At w 12 #[.string sa, .string ⟨#[48]⟩] (.tuple #[.string sd, .int .i64 3]))) (CC2 : Hid (At w 21 #[.string sa, .string ⟨#[48]⟩] (.int .i64 k))) :
    At w 9 #[.string sa, .string ⟨#[48]⟩] (.bool true) := by
  intro W hb
  go_enter Tryd.func9, Tryd.ntmps9
  go_wp2_with (first
      | (go_at_call 10; refine (CA.out _ hb).mono ?_; clear CA; rintro e W1 ⟨rfl, hb⟩)
      | (go_at_call 13; refine (G1.out _ hb).mono ?_; clear G1; rintro e W1 ⟨rfl, hb⟩)
      | (go_at_call 13; refine (G2.out _ hb).mono ?_; clear G2; rintro e W1 ⟨rfl, hb⟩)
      | (go_at_call 12; refine (CX.out _ hb).mono ?_; clear CX; rintro e W1 ⟨rfl, hb⟩)
      | (go_at_call 19; refine (CP.out _ hb).mono ?_; clear CP; rintro e W1 ⟨rfl, hb⟩)
      | (go_at_call 19; refine (CQ.out _ hb).mono ?_; clear CQ; rintro e W1 ⟨rfl, hb⟩)
      | (go_at_call 11; refine (CS.out _ hb).mono ?_; clear CS; rintro e W1 ⟨rfl, hb⟩)
      | (go_at_call 12; refine (CD.out _ hb).mono ?_; clear CD; rintro e W1 ⟨rfl, hb⟩))
  refine bodyPost_ret (v := .bool true) ?_ rfl ⟨rfl, hb⟩
  simp [results, Tryd.results9, go_sem]

set_option maxRecDepth 100000 in
set_option maxHeartbeats 1000000 in
theorem signs_p0_d3_b1 {w : World} {sa sb sx sp sq ss sd su sv sw sy : ByteArray} {ep es ed k : Int} (CA : Hid (At w 10 #[] (.bool true))) (G1 : Hid (At w 13 #[.string sa] (.bool true))) (G2 : Hid (At w 13 #[.string sb] (.bool true)))
    (CX : Hid (At w 12 #[.string ⟨#[48]⟩, .string sa] (.tuple #[.string sx, .int .i64 0]))) (CP : Hid (At w 19 #[.string sa, .string sb] (.tuple #[.string sp, .int .i64 0]))) (CQ : Hid (At w 19 #[.string sx, .string sb] (.tuple #[.string sq, .int .i64 0]))) (CS : Hid (At w 11 #[.string sp, .string sq] (.tuple #[.string ⟨#[48]⟩, .int .i64 0])))
    (CD : Hid (At w 12 #[.string sa, .string sb] (.tuple #[.string sd, .int .i64 3]))) (CC2 : Hid (At w 21 #[.string sa, .string sb] (.int .i64 k)))
    (hne : (sb.toList == [48]) = false) (CU : Hid (At w 20 #[.string sa, .string sb] (.tuple #[.string su, .string sv, .int .i64 0]))) (CW : Hid (At w 20 #[.string sx, .string sb] (.tuple #[.string sw, .string sy, .int .i64 0]))) (CM : Hid (At w 11 #[.string su, .string sw] (.tuple #[.string ⟨#[48]⟩, .int .i64 0]))) (CN : Hid (At w 11 #[.string sv, .string sy] (.tuple #[.string ⟨#[48]⟩, .int .i64 0]))) :
    At w 9 #[.string sa, .string sb] (.bool true) := by
  intro W hb
  go_enter Tryd.func9, Tryd.ntmps9
  go_wp2_with (first
      | (go_at_call 10; refine (CA.out _ hb).mono ?_; clear CA; rintro e W1 ⟨rfl, hb⟩)
      | (go_at_call 13; refine (G1.out _ hb).mono ?_; clear G1; rintro e W1 ⟨rfl, hb⟩)
      | (go_at_call 13; refine (G2.out _ hb).mono ?_; clear G2; rintro e W1 ⟨rfl, hb⟩)
      | (go_at_call 12; refine (CX.out _ hb).mono ?_; clear CX; rintro e W1 ⟨rfl, hb⟩)
      | (go_at_call 19; refine (CP.out _ hb).mono ?_; clear CP; rintro e W1 ⟨rfl, hb⟩)
      | (go_at_call 19; refine (CQ.out _ hb).mono ?_; clear CQ; rintro e W1 ⟨rfl, hb⟩)
      | (go_at_call 11; refine (CS.out _ hb).mono ?_; clear CS; rintro e W1 ⟨rfl, hb⟩)
      | (go_at_call 12; refine (CD.out _ hb).mono ?_; clear CD; rintro e W1 ⟨rfl, hb⟩)
      | (go_at_call 20; refine (CU.out _ hb).mono ?_; clear CU; rintro e W1 ⟨rfl, hb⟩)
      | (go_at_call 20; refine (CW.out _ hb).mono ?_; clear CW; rintro e W1 ⟨rfl, hb⟩)
      | (go_at_call 11; refine (CM.out _ hb).mono ?_; clear CM; rintro e W1 ⟨rfl, hb⟩)
      | (go_at_call 11; refine (CN.out _ hb).mono ?_; clear CN; rintro e W1 ⟨rfl, hb⟩))
  refine bodyPost_ret (v := .bool true) ?_ rfl ⟨rfl, hb⟩
  simp [results, Tryd.results9, go_sem]

set_option maxRecDepth 100000 in
set_option maxHeartbeats 1000000 in
theorem signs_p3_d0_b0 {w : World} {sa sb sx sp sq ss sd su sv sw sy : ByteArray} {ep es ed k : Int} (CA : Hid (At w 10 #[] (.bool true))) (G1 : Hid (At w 13 #[.string sa] (.bool true))) (G2 : Hid (At w 13 #[.string ⟨#[48]⟩] (.bool true)))
    (CX : Hid (At w 12 #[.string ⟨#[48]⟩, .string sa] (.tuple #[.string sx, .int .i64 0]))) (CP : Hid (At w 19 #[.string sa, .string ⟨#[48]⟩] (.tuple #[.string sp, .int .i64 3]))) (CQ : Hid (At w 19 #[.string sx, .string ⟨#[48]⟩] (.tuple #[.string sq, .int .i64 3]))) (CS : Hid (At w 11 #[.string sp, .string sq] (.tuple #[.string ss, .int .i64 es])))
    (CD : Hid (At w 12 #[.string sa, .string ⟨#[48]⟩] (.tuple #[.string sd, .int .i64 0]))) (CC2 : Hid (At w 21 #[.string sa, .string ⟨#[48]⟩] (.int .i64 k)))
    (CC1 : Hid (At w 21 #[.string sd, .string ⟨#[48]⟩] (.int .i64 k))) :
    At w 9 #[.string sa, .string ⟨#[48]⟩] (.bool true) := by
  intro W hb
  go_enter Tryd.func9, Tryd.ntmps9
  go_wp2_with (first
      | (go_at_call 10; refine (CA.out _ hb).mono ?_; clear CA; rintro e W1 ⟨rfl, hb⟩)
      | (go_at_call 13; refine (G1.out _ hb).mono ?_; clear G1; rintro e W1 ⟨rfl, hb⟩)
      | (go_at_call 13; refine (G2.out _ hb).mono ?_; clear G2; rintro e W1 ⟨rfl, hb⟩)
      | (go_at_call 12; refine (CX.out _ hb).mono ?_; clear CX; rintro e W1 ⟨rfl, hb⟩)
      | (go_at_call 19; refine (CP.out _ hb).mono ?_; clear CP; rintro e W1 ⟨rfl, hb⟩)
      | (go_at_call 19; refine (CQ.out _ hb).mono ?_; clear CQ; rintro e W1 ⟨rfl, hb⟩)
      | (go_at_call 11; refine (CS.out _ hb).mono ?_; clear CS; rintro e W1 ⟨rfl, hb⟩)
      | (go_at_call 12; refine (CD.out _ hb).mono ?_; clear CD; rintro e W1 ⟨rfl, hb⟩)
      | (go_at_call 21; refine (CC1.out _ hb).mono ?_; clear CC1; rintro e W1 ⟨rfl, hb⟩)
      | (go_at_call 21; refine (CC2.out _ hb).mono ?_; clear CC2; rintro e W1 ⟨rfl, hb⟩))
  refine bodyPost_ret (v := .bool true) ?_ rfl ⟨rfl, hb⟩
  simp [results, Tryd.results9, go_sem]

set_option maxRecDepth 100000 in
set_option maxHeartbeats 1000000 in
theorem signs_p3_d0_b1 {w : World} {sa sb sx sp sq ss sd su sv sw sy : ByteArray} {ep es ed k : Int} (CA : Hid (At w 10 #[] (.bool true))) (G1 : Hid (At w 13 #[.string sa] (.bool true))) (G2 : Hid (At w 13 #[.string sb] (.bool true)))
    (CX : Hid (At w 12 #[.string ⟨#[48]⟩, .string sa] (.tuple #[.string sx, .int .i64 0]))) (CP : Hid (At w 19 #[.string sa, .string sb] (.tuple #[.string sp, .int .i64 3]))) (CQ : Hid (At w 19 #[.string sx, .string sb] (.tuple #[.string sq, .int .i64 3]))) (CS : Hid (At w 11 #[.string sp, .string sq] (.tuple #[.string ss, .int .i64 es])))
    (CD : Hid (At w 12 #[.string sa, .string sb] (.tuple #[.string sd, .int .i64 0]))) (CC2 : Hid (At w 21 #[.string sa, .string sb] (.int .i64 k)))
    (CC1 : Hid (At w 21 #[.string sd, .string ⟨#[48]⟩] (.int .i64 k)))
    (hne : (sb.toList == [48]) = false) (CU : Hid (At w 20 #[.string sa, .string sb] (.tuple #[.string su, .string sv, .int .i64 0]))) (CW : Hid (At w 20 #[.string sx, .string sb] (.tuple #[.string sw, .string sy, .int .i64 0]))) (CM : Hid (At w 11 #[.string su, .string sw] (.tuple #[.string ⟨#[48]⟩, .int .i64 0]))) (CN : Hid (At w 11 #[.string sv, .string sy] (.tuple #[.string ⟨#[48]⟩, .int .i64 0]))) :
    At w 9 #[.string sa, .string sb] (.bool true) := by
  intro W hb
  go_enter Tryd.func9, Tryd.ntmps9
  go_wp2_with (first
      | (go_at_call 10; refine (CA.out _ hb).mono ?_; clear CA; rintro e W1 ⟨rfl, hb⟩)
      | (go_at_call 13; refine (G1.out _ hb).mono ?_; clear G1; rintro e W1 ⟨rfl, hb⟩)
      | (go_at_call 13; refine (G2.out _ hb).mono ?_; clear G2; rintro e W1 ⟨rfl, hb⟩)
      | (go_at_call 12; refine (CX.out _ hb).mono ?_; clear CX; rintro e W1 ⟨rfl, hb⟩)
      | (go_at_call 19; refine (CP.out _ hb).mono ?_; clear CP; rintro e W1 ⟨rfl, hb⟩)
      | (go_at_call 19; refine (CQ.out _ hb).mono ?_; clear CQ; rintro e W1 ⟨rfl, hb⟩)
      | (go_at_call 11; refine (CS.out _ hb).mono ?_; clear CS; rintro e W1 ⟨rfl, hb⟩)
      | (go_at_call 12; refine (CD.out _ hb).mono ?_; clear CD; rintro e W1 ⟨rfl, hb⟩)
      | (go_at_call 21; refine (CC1.out _ hb).mono ?_; clear CC1; rintro e W1 ⟨rfl, hb⟩)
      | (go_at_call 21; refine (CC2.out _ hb).mono ?_; clear CC2; rintro e W1 ⟨rfl, hb⟩)
      | (go_at_call 20; refine (CU.out _ hb).mono ?_; clear CU; rintro e W1 ⟨rfl, hb⟩)
      | (go_at_call 20; refine (CW.out _ hb).mono ?_; clear CW; rintro e W1 ⟨rfl, hb⟩)
      | (go_at_call 11; refine (CM.out _ hb).mono ?_; clear CM; rintro e W1 ⟨rfl, hb⟩)
      | (go_at_call 11; refine (CN.out _ hb).mono ?_; clear CN; rintro e W1 ⟨rfl, hb⟩))
  refine bodyPost_ret (v := .bool true) ?_ rfl ⟨rfl, hb⟩
  simp [results, Tryd.results9, go_sem]

set_option maxRecDepth 100000 in
set_option maxHeartbeats 1000000 in
theorem signs_p3_d3_b0 {w : World} {sa sb sx sp sq ss sd su sv sw sy : ByteArray} {ep es ed k : Int} (CA : Hid (At w 10 #[] (.bool true))) (G1 : Hid (At w 13 #[.string sa] (.bool true))) (G2 : Hid (At w 13 #[.string ⟨#[48]⟩] (.bool true)))
    (CX : Hid (At w 12 #[.string ⟨#[48]⟩, .string sa] (.tuple #[.string sx, .int .i64 0]))) (CP : Hid (At w 19 #[.string sa, .string ⟨#[48]⟩] (.tuple #[.string sp, .int .i64 3]))) (CQ : Hid (At w 19 #[.string sx, .string ⟨#[48]⟩] (.tuple #[.string sq, .int .i64 3]))) (CS : Hid (At w 11 #[.string sp, .string sq] (.tuple #[.string ss, .int .i64 es])))
    (CD : Hid (At w 12 #[.string sa, .string ⟨#[48]⟩] (.tuple #[.string sd, .int .i64 3]))) (CC2 : Hid (At w 21 #[.string sa, .string ⟨#[48]⟩] (.int .i64 k))) :
    At w 9 #[.string sa, .string ⟨#[48]⟩] (.bool true) := by
  intro W hb
  go_enter Tryd.func9, Tryd.ntmps9
  go_wp2_with (first
      | (go_at_call 10; refine (CA.out _ hb).mono ?_; clear CA; rintro e W1 ⟨rfl, hb⟩)
      | (go_at_call 13; refine (G1.out _ hb).mono ?_; clear G1; rintro e W1 ⟨rfl, hb⟩)
      | (go_at_call 13; refine (G2.out _ hb).mono ?_; clear G2; rintro e W1 ⟨rfl, hb⟩)
      | (go_at_call 12; refine (CX.out _ hb).mono ?_; clear CX; rintro e W1 ⟨rfl, hb⟩)
      | (go_at_call 19; refine (CP.out _ hb).mono ?_; clear CP; rintro e W1 ⟨rfl, hb⟩)
      | (go_at_call 19; refine (CQ.out _ hb).mono ?_; clear CQ; rintro e W1 ⟨rfl, hb⟩)
      | (go_at_call 11; refine (CS.out _ hb).mono ?_; clear CS; rintro e W1 ⟨rfl, hb⟩)
      | (go_at_call 12; refine (CD.out _ hb).mono ?_; clear CD; rintro e W1 ⟨rfl, hb⟩))
  refine bodyPost_ret (v := .bool true) ?_ rfl ⟨rfl, hb⟩
  simp [results, Tryd.results9, go_sem]

set_option maxRecDepth 100000 in
set_option maxHeartbeats 1000000 in
theorem signs_p3_d3_b1 {w : World} {sa sb sx sp sq ss sd su sv sw sy : ByteArray} {ep es ed k : Int} (CA : Hid (At w 10 #[] (.bool true))) (G1 : Hid (At w 13 #[.string sa] (.bool true))) (G2 : Hid (At w 13 #[.string sb] (.bool true)))
    (CX : Hid (At w 12 #[.string ⟨#[48]⟩, .string sa] (.tuple #[.string sx, .int .i64 0]))) (CP : Hid (At w 19 #[.string sa, .string sb] (.tuple #[.string sp, .int .i64 3]))) (CQ : Hid (At w 19 #[.string sx, .string sb] (.tuple #[.string sq, .int .i64 3]))) (CS : Hid (At w 11 #[.string sp, .string sq] (.tuple #[.string ss, .int .i64 es])))
    (CD : Hid (At w 12 #[.string sa, .string sb] (.tuple #[.string sd, .int .i64 3]))) (CC2 : Hid (At w 21 #[.string sa, .string sb] (.int .i64 k)))
    (hne : (sb.toList == [48]) = false) (CU : Hid (At w 20 #[.string sa, .string sb] (.tuple #[.string su, .string sv, .int .i64 0]))) (CW : Hid (At w 20 #[.string sx, .string sb] (.tuple #[.string sw, .string sy, .int .i64 0]))) (CM : Hid (At w 11 #[.string su, .string sw] (.tuple #[.string ⟨#[48]⟩, .int .i64 0]))) (CN : Hid (At w 11 #[.string sv, .string sy] (.tuple #[.string ⟨#[48]⟩, .int .i64 0]))) :
    At w 9 #[.string sa, .string sb] (.bool true) := by
  intro W hb
  go_enter Tryd.func9, Tryd.ntmps9
  go_wp2_with (first
      | (go_at_call 10; refine (CA.out _ hb).mono ?_; clear CA; rintro e W1 ⟨rfl, hb⟩)
      | (go_at_call 13; refine (G1.out _ hb).mono ?_; clear G1; rintro e W1 ⟨rfl, hb⟩)
      | (go_at_call 13; refine (G2.out _ hb).mono ?_; clear G2; rintro e W1 ⟨rfl, hb⟩)
      | (go_at_call 12; refine (CX.out _ hb).mono ?_; clear CX; rintro e W1 ⟨rfl, hb⟩)
      | (go_at_call 19; refine (CP.out _ hb).mono ?_; clear CP; rintro e W1 ⟨rfl, hb⟩)
      | (go_at_call 19; refine (CQ.out _ hb).mono ?_; clear CQ; rintro e W1 ⟨rfl, hb⟩)
      | (go_at_call 11; refine (CS.out _ hb).mono ?_; clear CS; rintro e W1 ⟨rfl, hb⟩)
      | (go_at_call 12; refine (CD.out _ hb).mono ?_; clear CD; rintro e W1 ⟨rfl, hb⟩)
      | (go_at_call 20; refine (CU.out _ hb).mono ?_; clear CU; rintro e W1 ⟨rfl, hb⟩)
      | (go_at_call 20; refine (CW.out _ hb).mono ?_; clear CW; rintro e W1 ⟨rfl, hb⟩)
      | (go_at_call 11; refine (CM.out _ hb).mono ?_; clear CM; rintro e W1 ⟨rfl, hb⟩)
      | (go_at_call 11; refine (CN.out _ hb).mono ?_; clear CN; rintro e W1 ⟨rfl, hb⟩))
  refine bodyPost_ret (v := .bool true) ?_ rfl ⟨rfl, hb⟩
  simp [results, Tryd.results9, go_sem]

end Go.Proofs.YtlilojaefpnkmaaDoor
