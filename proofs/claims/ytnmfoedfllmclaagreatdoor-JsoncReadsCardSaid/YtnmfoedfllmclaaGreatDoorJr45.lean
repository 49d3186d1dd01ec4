/- awake: the document's examples · JsoncReads, walked: any text is read as the document says, or the same is wrong at the same byte · What the rows' condition on the listed variables gives the walks · The closed facts of JsoncReads's row, one by one -/
import Derived.Test.YtnmfoedfllmclaaGreatDoorRows
import Derived.Lib.LaidU8T
import Derived.Shelf.Vars
import Derived.ProofKit
import Derived.LaidMore
import Derived.OpenShut
import Derived.Lay
import Derived.LaidLaws
import Derived.JoinedOf
import Derived.Test.YtnmfoedfllmclaaGreatDoorCards
import Derived.Test.YtnmfoedfllmclaaGreatDoorTie
import Derived.SevenTiedAt
import Derived.Stop.Joined
import Derived.Test.YtnmfoedfllmclaaGreatDoorJr04
import Derived.Test.YtnmfoedfllmclaaGreatDoorJr20
import Derived.Test.YtnmfoedfllmclaaGreatDoorJr44
namespace Go.Proofs.YtnmfoedfllmclaaGreatDoor
open Go.RowKit Go.Shelf
set_option linter.unusedVariables false

abbrev tA : ByteArray := ⟨#[32, 123, 34, 98, 34, 32, 58, 32, 91, 49, 44, 32, 110, 117, 108, 108, 93, 44, 32, 34, 97, 34, 58, 34, 120, 92, 110, 34, 125]⟩
abbrev sA : ByteArray := ⟨#[123, 34, 97, 34, 58, 34, 120, 92, 110, 34, 44, 34, 98, 34, 58, 91, 49, 44, 110, 117, 108, 108, 93, 125]⟩
def TA : VT := .node 6 false ⟨#[]⟩ [.node 4 false ⟨#[120, 10]⟩ [] [], .node 5 false ⟨#[]⟩ [.node 3 false ⟨#[49]⟩ [] [], .node 0 false ⟨#[]⟩ [] []] []] [⟨#[97]⟩, ⟨#[98]⟩]
set_option maxRecDepth 100000 in
theorem awake_read : wholeJ tA = .ok TA := by kernel_rfl
set_option maxRecDepth 100000 in
theorem awake_bad : wholeJ ⟨#[91, 49, 44, 93]⟩ = .error (30, 1) := by kernel_rfl
set_option maxRecDepth 100000 in
theorem awake_enc : encR TA = (sA, 0) := by
  have h1 : within 24 1999 TA := ⟨by kernel_rfl, by decide, by kernel_rfl⟩
  have h2 : knownT TA = true := by kernel_rfl
  have h3 : utfT TA = true := by kernel_rfl
  have h4 : appV TA [] = sA.data.toList := by kernel_rfl
  unfold encR
  rw [if_pos h1, if_pos h2, if_pos h3, h4]
  rfl
set_option maxRecDepth 100000 in
set_option maxHeartbeats 4000000 in
theorem awake_any {W : World} (hR : ReadyJ W) : Calls Tryz.prog 7 #[] W fun e w' => e = .returned (.bool true) ∧ Below W.heap.size W w' := by
  have HD := Lib.hid (decode_any (t := tA) hR)
  rw [awake_read] at HD
  have HR := Lib.hid hR
  clear hR
  have hpn : ∀ w : World, (binOp BinOp.eql 34 (.pointer none) (.pointer none)).run Tryz.prog w = .ok (.bool true) w := fun _ => rfl
  go_enter Tryz.func7, Tryz.ntmps7
  go_wp2_with (go_at_call 10; refine HD.out.mono ?_; rintro e w1 ⟨hb1, v1, rfl, hf1, hs1⟩; obtain ⟨y1, y2, y3, ya, yn, yc, yk, ym, yd, rfl⟩ := hf1.shape; refine Hid.out ?_)
  refine Lib.hid ?_
  have HB1 := Lib.hid hb1
  have HF1 := Lib.hid hf1.at
  have HZ1 := Lib.hid (below_new0 w1 (.cells #[.int .i64 y1, .bool y2, .string y3, .slice ya yn yc, .slice yk ym yd] 26))
  have hbv := Blk.new w1 #[.int .i64 y1, .bool y2, .string y3, .slice ya yn yc, .slice yk ym yd] 26
  have q0 := hbv.cell 0
  have q1 := hbv.cell 1
  have q2 := hbv.cell 2
  have q3 := hbv.cell 3
  have q4 := hbv.cell 4
  have HE := Lib.hid (encode_any HF1.out HZ1.out (by simp) ((HR.out.below hb1).below HZ1.out))
  rw [awake_enc] at HE
  have HR1 := Lib.hid ((HR.out.below hb1).below HZ1.out)
  clear hb1 hf1 hs1 hbv
  go_wp2_with (go_at_call 8; refine HE.out.mono ?_; rintro e w2 ⟨rfl, hb2⟩; refine Hid.out ?_)
  refine Lib.hid ?_
  have HR2 := Lib.hid (HR1.out.below hb2)
  have HB2 : Hid (Below W.heap.size W w2) := Lib.hid ((HB1.out.trans (HZ1.out.mono HB1.out.size)).trans (hb2.mono (Nat.le_trans HB1.out.size HZ1.out.size)))
  have HD2 := Lib.hid (decode_any (t := ⟨#[91, 49, 44, 93]⟩) HR2.out)
  rw [awake_bad] at HD2
  clear hb2 q0 q1 q2 q3 q4
  go_wp2_with (go_at_call 10; refine HD2.out.mono ?_; rintro e w3 ⟨hb3, D, rfl, hD, hblk⟩; refine Hid.out ?_)
  refine Lib.hid ?_
  have HB3 : Hid (Below W.heap.size W w3) := Lib.hid (HB2.out.trans (hb3.mono HB2.out.size))
  have hbn := below_new0 w3 (.cells #[.int .i64 0, .bool false, .string ⟨#[]⟩, .slice none 0 0, .slice none 0 0] 26)
  have hb4 := hblk.below hbn
  have d0 := hb4.cell 0
  have d2 := hb4.cell 2
  clear hb3 hblk
  go_wp2
  go_ret
  exact ⟨rfl, HB3.out.trans (hbn.mono HB3.out.size)⟩
end Go.Proofs.YtnmfoedfllmclaaGreatDoor
namespace Go.Proofs.YtnmfoedfllmclaaGreatDoor
open Go.RowKit Go.Shelf
set_option linter.unusedVariables false

set_option maxRecDepth 100000 in
theorem is_wrong {W : World} {D : Nat} {c p : Int} (h : Blk W D #[.int .i64 c, .string ⟨#[]⟩, .int .i64 p] 48) (hc : c ≠ 0) : Calls Tryz.prog 12 #[.pointer (some ⟨D, 0, none⟩), .int .i64 c, .int .i64 p] W fun e w' => e = .returned (.bool true) ∧ Below W.heap.size W w' := by
  have c0 := h.cell 0
  have c1 := h.cell 1
  have c2 := h.cell 2
  have q0 : (c == 0) = false := beq_eq_false_iff_ne.2 hc
  have q1 : (c == c) = true := beq_self_eq_true c
  have q2 : (p == p) = true := beq_self_eq_true p
  clear hc h
  go_enter Tryz.func12, Tryz.ntmps12
  go_wp2
  go_ret
  exact ⟨rfl, Below.refl _ _⟩
set_option maxRecDepth 100000 in
theorem is_right (W : World) : Calls Tryz.prog 12 #[.pointer none, .int .i64 0, .int .i64 0] W fun e w' => e = .returned (.bool true) ∧ Below W.heap.size W w' := by
  have hpn : ∀ w : World, (binOp BinOp.eql 34 (.pointer none) (.pointer none)).run Tryz.prog w = .ok (.bool true) w := fun _ => rfl
  go_enter Tryz.func12, Tryz.ntmps12
  go_wp2
  go_ret
  exact ⟨rfl, Below.refl _ _⟩
theorem rdecode_any (t : ByteArray) (W : World) : Calls Tryz.prog 11 #[.string t] W (RDec W t (wholeD t)) := by
  by_cases hl : 65536 < t.size
  · exact rdecode_long hl W
  · exact rdecode_short (by omega) W
set_option maxRecDepth 100000 in
set_option maxHeartbeats 4000000 in
theorem reads_ok {W : World} {t : ByteArray} {T : VT} (hR : ReadyJ W) (hw : wholeJ t = .ok T) : Calls Tryz.prog 4 #[.string t] W fun e w' => e = .returned (.bool true) ∧ Below W.heap.size W w' := by
  have HR := Lib.hid hR
  have HA := Lib.hid (awake_any HR.out)
  have HW := Lib.hid hw
  clear hR hw
  go_enter Tryz.func4, Tryz.ntmps4
  go_wp2_with (go_at_call 7; refine HA.out.mono ?_; rintro e w1 ⟨rfl, hb1⟩; refine Hid.out ?_)
  refine Lib.hid ?_
  have HB1 := Lib.hid hb1
  have HD := Lib.hid (decode_any (t := t) (HR.out.below hb1))
  rw [HW.out] at HD
  clear hb1
  go_wp2_with (go_at_call 10; refine HD.out.mono ?_; rintro e w2 ⟨hb2, v2, rfl, hf2, hs2⟩; obtain ⟨y1, y2, y3, ya, yn, yc, yk, ym, yd, rfl⟩ := hf2.shape; refine Hid.out ?_)
  refine Lib.hid ?_
  have HB2 : Hid (Below W.heap.size W w2) := Lib.hid (HB1.out.trans (hb2.mono HB1.out.size))
  have HF2 := Lib.hid hf2.at
  have HZ2 := Lib.hid (below_new0 w2 (.cells #[.int .i64 y1, .bool y2, .string y3, .slice ya yn yc, .slice yk ym yd] 26))
  have HK2 := Lib.hid (Blk.new w2 #[.int .i64 y1, .bool y2, .string y3, .slice ya yn yc, .slice yk ym yd] 26)
  have HRD := Lib.hid (rdecode_any t (w2.alloc (.cells #[.int .i64 y1, .bool y2, .string y3, .slice ya yn yc, .slice yk ym yd] 26)))
  rw [← whole_sim, HW.out] at HRD
  clear hb2 hf2 hs2
  go_wp2_with (go_at_call 11; refine HRD.out.mono ?_; rintro e w3 ⟨hb3, v3, rfl, hf3⟩; obtain ⟨z1, z2, z3, za, zn, zc, zk, zm, zd, rfl⟩ := hf3.shape; refine Hid.out ?_)
  refine Lib.hid ?_
  have HF3 := Lib.hid hf3
  have HK3 := Lib.hid (HK2.out.below hb3)
  have HB3 : Hid (Below w2.heap.size w2 w3) := Lib.hid (HZ2.out.trans (hb3.mono HZ2.out.size))
  have HZ3 := Lib.hid (below_new0 w3 (.cells #[.int .i64 z1, .bool z2, .string z3, .slice za zn zc, .slice zk zm zd] 26))
  have HK4 := Lib.hid (Blk.new w3 #[.int .i64 z1, .bool z2, .string z3, .slice za zn zc, .slice zk zm zd] 26)
  have HI := Lib.hid (is_right (w3.alloc (.cells #[.int .i64 z1, .bool z2, .string z3, .slice za zn zc, .slice zk zm zd] 26)))
  clear hb3 hf3
  go_wp2_with (go_at_call 12; refine HI.out.mono ?_; rintro e w4 ⟨rfl, hb4⟩; have a0 := ((HK3.out.below HZ3.out).below hb4).cell 0; have a1 := ((HK3.out.below HZ3.out).below hb4).cell 1; have a2 := ((HK3.out.below HZ3.out).below hb4).cell 2; have a3 := ((HK3.out.below HZ3.out).below hb4).cell 3; have a4 := ((HK3.out.below HZ3.out).below hb4).cell 4; have b0 := (HK4.out.below hb4).cell 0; have b1 := (HK4.out.below hb4).cell 1; have b2 := (HK4.out.below hb4).cell 2; have b3 := (HK4.out.below hb4).cell 3; have b4 := (HK4.out.below hb4).cell 4; refine Hid.out ?_)
  refine Lib.hid ?_
  have HB4 : Hid (Below w3.heap.size w3 w4) := Lib.hid (HZ3.out.trans (hb4.mono HZ3.out.size))
  have HSM := Lib.hid (same_any ((HF2.out.later HB3.out).wide HB3.out.size) _ _ w4 HF3.out HB4.out HB4.out.size)
  rw [sameT_refl] at HSM
  clear hb4
  go_wp2_with (go_at_call 13; refine HSM.out.mono ?_; rintro e w5 ⟨rfl, hb5⟩)
  go_ret
  exact ⟨rfl, ((HB2.out.trans (HB3.out.mono HB2.out.size)).trans (HB4.out.mono (Nat.le_trans HB2.out.size HB3.out.size))).trans (hb5.mono (Nat.le_trans (Nat.le_trans HB2.out.size HB3.out.size) HB4.out.size))⟩
set_option maxRecDepth 100000 in
set_option maxHeartbeats 4000000 in
theorem reads_bad {W : World} {t : ByteArray} {bd : Bad} (hR : ReadyJ W) (hw : wholeJ t = .error bd) : Calls Tryz.prog 4 #[.string t] W fun e w' => e = .returned (.bool true) ∧ Below W.heap.size W w' := by
  have HR := Lib.hid hR
  have HA := Lib.hid (awake_any HR.out)
  have HW := Lib.hid hw
  clear hR hw
  go_enter Tryz.func4, Tryz.ntmps4
  go_wp2_with (go_at_call 7; refine HA.out.mono ?_; rintro e w1 ⟨rfl, hb1⟩; refine Hid.out ?_)
  refine Lib.hid ?_
  have HB1 := Lib.hid hb1
  have HD := Lib.hid (decode_any (t := t) (HR.out.below hb1))
  rw [HW.out] at HD
  clear hb1
  go_wp2_with (go_at_call 10; refine HD.out.mono ?_; rintro e w2 ⟨hb2, D, rfl, hD, hd2⟩; refine Hid.out ?_)
  refine Lib.hid ?_
  have HB2 : Hid (Below W.heap.size W w2) := Lib.hid (HB1.out.trans (hb2.mono HB1.out.size))
  have HD2 := Lib.hid hd2
  have HZ2 := Lib.hid (below_new0 w2 (.cells #[.int .i64 0, .bool false, .string ⟨#[]⟩, .slice none 0 0, .slice none 0 0] 26))
  have HK2 := Lib.hid (Blk.new w2 #[.int .i64 0, .bool false, .string ⟨#[]⟩, .slice none 0 0, .slice none 0 0] 26)
  have HRD := Lib.hid (rdecode_any t (w2.alloc (.cells #[.int .i64 0, .bool false, .string ⟨#[]⟩, .slice none 0 0, .slice none 0 0] 26)))
  rw [← whole_sim, HW.out] at HRD
  obtain ⟨p, hp⟩ : ∃ p, t.size - bd.2 = p := ⟨_, rfl⟩
  obtain ⟨c, hc⟩ : ∃ c, bd.1 = c := ⟨_, rfl⟩
  unfold RDec at HRD
  simp only [hp, hc] at HRD HD2
  clear hb2 hd2 HD hp hc
  go_wp2_with (go_at_call 11; refine HRD.out.mono ?_; rintro e w3 ⟨hb3, rfl, hne⟩; refine Hid.out ?_)
  refine Lib.hid ?_
  have HK3 := Lib.hid (HK2.out.below hb3)
  have HB3 : Hid (Below w2.heap.size w2 w3) := Lib.hid (HZ2.out.trans (hb3.mono HZ2.out.size))
  have HZ3 := Lib.hid (below_new0 w3 (.cells #[.int .i64 0, .bool false, .string ⟨#[]⟩, .slice none 0 0, .slice none 0 0] 26))
  have HK4 := Lib.hid (Blk.new w3 #[.int .i64 0, .bool false, .string ⟨#[]⟩, .slice none 0 0, .slice none 0 0] 26)
  have HI := Lib.hid (is_wrong ((HD2.out.below HB3.out).below HZ3.out) hne)
  clear hb3 hne hD
  go_wp2_with (go_at_call 12; refine HI.out.mono ?_; rintro e w4 ⟨rfl, hb4⟩; have a0 := ((HK3.out.below HZ3.out).below hb4).cell 0; have a1 := ((HK3.out.below HZ3.out).below hb4).cell 1; have a2 := ((HK3.out.below HZ3.out).below hb4).cell 2; have a3 := ((HK3.out.below HZ3.out).below hb4).cell 3; have a4 := ((HK3.out.below HZ3.out).below hb4).cell 4; have b0 := (HK4.out.below hb4).cell 0; have b1 := (HK4.out.below hb4).cell 1; have b2 := (HK4.out.below hb4).cell 2; have b3 := (HK4.out.below hb4).cell 3; have b4 := (HK4.out.below hb4).cell 4; refine Hid.out ?_)
  refine Lib.hid ?_
  have HB4 : Hid (Below w3.heap.size w3 w4) := Lib.hid (HZ3.out.trans (hb4.mono HZ3.out.size))
  have HSM := Lib.hid (same_any (nil_is 0 w3.heap.size w3).at _ _ w4 (nil_is 0 w3.heap.size w3).at HB4.out HB4.out.size)
  rw [sameT_refl] at HSM
  clear hb4
  go_wp2_with (go_at_call 13; refine HSM.out.mono ?_; rintro e w5 ⟨rfl, hb5⟩)
  go_ret
  exact ⟨rfl, ((HB2.out.trans (HB3.out.mono HB2.out.size)).trans (HB4.out.mono (Nat.le_trans HB2.out.size HB3.out.size))).trans (hb5.mono (Nat.le_trans (Nat.le_trans HB2.out.size HB3.out.size) HB4.out.size))⟩
theorem reads_law {W : World} {t : ByteArray} (hR : ReadyJ W) : Calls Tryz.prog 4 #[.string t] W fun e w' => e = .returned (.bool true) ∧ Below W.heap.size W w' := by
  cases hw : wholeJ t with
  | ok T => exact reads_ok hR hw
  | error bd => exact reads_bad hR hw
end Go.Proofs.YtnmfoedfllmclaaGreatDoor
namespace Go.Proofs.YtnmfoedfllmclaaGreatDoor
open Go.ChangeShapes Go.WideShapes Go.ChangeAt Go.WideMaps Go.WideElems Go.RowKit Go.Lib

/-- The seven variables that the rows list. -/
def laidJ : List (String × DataW Unit) := [("math/bits.deBruijn32tab", Rows.laid_math_bits_deBruijn32tab), ("math/bits.deBruijn64tab", Rows.laid_math_bits_deBruijn64tab), ("internal/strconv.uint64pow10", Rows.laid_internal_strconv_uint64pow10), ("unicode/utf8.acceptRanges", Rows.laid_unicode_utf8_acceptRanges), ("strconv.ErrRange", Rows.laid_strconv_ErrRange), ("strconv.ErrSyntax", Rows.laid_strconv_ErrSyntax), ("unicode/utf8.first", Rows.laid_unicode_utf8_first)]
theorem ownJ : ownKnob Tryz.prog.godebug = none := by kernel_rfl
theorem readsJ {W : World} (h : laidMetH Tryz.prog laidJ W) {n : String} {d : DataW Unit} (hm : (n, d) ∈ laidJ) : VarReads Tryz.prog W n d := by
  rw [MakeChecks.laidMetH_plain _ _ _ (by kernel_rfl)] at h
  exact laidMet.reads h hm
set_option maxRecDepth 100000 in
theorem firstJ : (Rows.laid_unicode_utf8_first : DataW Unit) = firstData := by kernel_rfl
set_option maxRecDepth 100000 in
theorem acceptJ : (Rows.laid_unicode_utf8_acceptRanges : DataW Unit) = acceptData := by kernel_rfl
theorem tabsJ {W : World} (h : laidMetH Tryz.prog laidJ W) : Lib.Utf8Tabs 0 1 W := by
  have h3 := readsJ h (n := "unicode/utf8.first") (d := Rows.laid_unicode_utf8_first) (by simp [laidJ])
  have h4 := readsJ h (n := "unicode/utf8.acceptRanges") (d := Rows.laid_unicode_utf8_acceptRanges) (by simp [laidJ])
  rw [firstJ] at h3
  rw [acceptJ] at h4
  exact utf8Tabs_of_readsT (U8Types.of196 Tryz.lays196) ⟨by kernel_rfl, by kernel_rfl, by kernel_rfl, by kernel_rfl, by kernel_rfl, by kernel_rfl, by kernel_rfl⟩ h3 h4
theorem gRangeJ : Tryz.prog.globalNamed "strconv.ErrRange" = some 4 := by kernel_rfl
theorem gSynJ : Tryz.prog.globalNamed "strconv.ErrSyntax" = some 3 := by kernel_rfl
theorem tyRangeJ : (Tryz.prog.globals[ 4 ]?).map (·.type) = some 137 := by kernel_rfl
theorem tySynJ : (Tryz.prog.globals[ 3 ]?).map (·.type) = some 137 := by kernel_rfl
theorem cell_of_var {W : World} {n : String} {g : Nat} {c : Value} (hg : Tryz.prog.globalNamed n = some g) (hv : W.var? Tryz.prog n = some #[c]) : W.cell? ⟨g, 0, none⟩ = some c := by
  unfold World.var? at hv
  rw [hg] at hv
  simp only [Option.bind_some] at hv
  split at hv
  · rename_i cc t fr hh
    obtain rfl := Option.some.inj hv
    simp [World.cell?, hh]
  · cases hv
theorem size_of_shapeJ {P : Program} {w : World} {g : Nat} {t : TypeId} {zero : Array Value} (h : w.ShapedOpen P) (hg : g < P.globals.size)
    (h0 : ((begin P (fun _ _ => 0) default).world.heap[g]?).bind Obj.row? = some (zero, t)) : g < w.heap.size := by
  obtain ⟨cs, hh, _⟩ := h.1 g zero t hg h0
  exact (Array.getElem?_eq_some_iff.1 hh).1
theorem ready_ofJ {W : World} (h : laidMetH Tryz.prog laidJ W) (hs : W.ShapedOpen Tryz.prog) : ReadyJ W := by
  refine ⟨tabsJ h, ?_, ?_, ?_⟩
  · obtain ⟨g, t, cs, fuel, p, hg, hty, hvar, hd⟩ := readsJ h (n := "strconv.ErrSyntax") (d := Rows.laid_strconv_ErrSyntax) (by simp [laidJ])
    obtain rfl := Option.some.inj (gSynJ.symm.trans hg)
    obtain rfl := Option.some.inj (tySynJ.symm.trans hty)
    obtain ⟨f', u, v, hc, -, -⟩ := iface_of_trod Tryz.underlying137 hd
    exact ⟨.iface u v, cell_of_var gSynJ (by rw [hvar]; exact congrArg some (Array.ext' hc)), .inr ⟨u, v, rfl⟩⟩
  · obtain ⟨g, t, cs, fuel, p, hg, hty, hvar, hd⟩ := readsJ h (n := "strconv.ErrRange") (d := Rows.laid_strconv_ErrRange) (by simp [laidJ])
    obtain rfl := Option.some.inj (gRangeJ.symm.trans hg)
    obtain rfl := Option.some.inj (tyRangeJ.symm.trans hty)
    obtain ⟨f', u, v, hc, -, -⟩ := iface_of_trod Tryz.underlying137 hd
    exact ⟨.iface u v, cell_of_var gRangeJ (by rw [hvar]; exact congrArg some (Array.ext' hc)), .inr ⟨u, v, rfl⟩⟩
  · exact size_of_shapeJ (g := 6) (zero := ((begin Tryz.prog (fun _ _ => 0) default).world.heap[6]?.bind Obj.row?).get!.1) (t := ((begin Tryz.prog (fun _ _ => 0) default).world.heap[6]?.bind Obj.row?).get!.2) hs (of_decide_eq_true (by kernel_rfl)) (by kernel_rfl)
/-- The wrap that keeps both a condition on the memory and the world's shape. -/
theorem returns_of {H : Type} {enc : TypeId × Value → H} {a : Assume} {C : Checked} {os : Os} {f : FuncId} {fn : Func} {s : ChangeSpec} {X : World → Prop} (hX : ∀ w w' : World, w.heap = w'.heap → X w → X w')
    (own : ownKnob C.prog.godebug = none) (started : os.Started) (noInit : C.prog.inits.idxOf? f = none) (hfn : C.prog.funcs[f]? = some fn)
    (witness : ∃ (w : World) (tape : Tape) (i : Input), w.os = os ∧ (w.forCall tape i).Shaped C.prog ∧ i.vars = [] ∧ Input.okWide C.prog (w.forCall tape i) .any w.heap.size f i ∧
      ((s.pre enc C.prog fn [] false (w.forCall tape i).memory i.args ∧ X (w.forCall tape i).memory) ∧ sizedMet enc C.prog fn (OpenSpec.ofChange s) false (w.forCall tape i).memory i.args) ∧ a.holds C.prog (lone (Frame.enter C.prog f i.args .normal) [] (w.forCall tape i)))
    (contract : ∀ (W : World) (base : Nat) (args : Array Value) (ds gs : List (DataW H)) (before : List MemPlace), (∀ (j : Nat) t v, fn.params[j]? = some t → args[j]? = some v → Value.okWide C.prog W .any base t v) →
      DataW.Whole enc C.prog fn.params.toList s.vars false W args.toList ds gs before → (DataW.weightsEach C.prog (fn.params.toList ++ s.plain.varTypes C.prog) (ds ++ gs)).all (· ≤ reachBytes) = true → X W → W.ShapedOpen C.prog →
      Calls C.prog f args W fun e W' => ∃ v, e = .returned v ∧ s.post enc C.prog fn false true false false W args v W') :
    ReturnsInHanded a C os f .any (fun w args => (s.pre enc C.prog fn [] false w args ∧ X w) ∧ sizedMet enc C.prog fn (OpenSpec.ofChange s) false w args) (s.post enc C.prog fn false true false false) :=
  returnsInHanded_of_calls own started noInit witness fun w tape i _ hsh _ hok hpre _ => by
    obtain ⟨_, _, _, fn', hfn', _, _, _, _, hval⟩ := hok
    obtain rfl : fn' = fn := Option.some.inj (hfn'.symm.trans hfn)
    obtain ⟨⟨⟨ds, gs, before, hw, _⟩, hx⟩, hz⟩ := hpre
    refine (contract _ w.heap.size i.args ds gs before hval (DataW.Whole.of_heap (w' := w.forCall tape i) (by rfl) hw) (hz.weights hw) (hX _ _ (by rfl) hx) hsh).mono ?_
    rintro e W' ⟨v, rfl, hp⟩
    exact ChangeSpec.post_blind hp
end Go.Proofs.YtnmfoedfllmclaaGreatDoor
namespace Go.Proofs.YtnmfoedfllmclaaGreatDoor
set_option maxRecDepth 100000 in
set_option maxHeartbeats 100000000 in
theorem reads_closed : joinedFacts Tryz.prog 4 Tryz.f4 Rows.jsoncReadsSpec Rows.jsoncReadsRow = true := by
  unfold joinedFacts
  repeat' (with_reducible refine Bool.and_eq_true_iff.2 ⟨?_, ?_⟩)
  all_goals (as_aux_lemma => kernel_rfl)
#print axioms reads_closed
theorem reads_w : Rows.jsoncReadsRow.wfByText (OpenSpec.ofChange Rows.jsoncReadsSpec) = true := by kernel_rfl
#print axioms reads_w
theorem reads_g : false = Rows.jsoncReadsRow.goesBy Tryz.prog := by kernel_rfl
#print axioms reads_g
theorem reads_lk : true = Tryz.prog.looks [] := by kernel_rfl
#print axioms reads_lk
end Go.Proofs.YtnmfoedfllmclaaGreatDoor
