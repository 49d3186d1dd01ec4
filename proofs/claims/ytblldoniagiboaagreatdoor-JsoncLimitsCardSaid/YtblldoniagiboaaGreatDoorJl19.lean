/- What stands for one rune of a text · strings.IndexRune in the bytes that stand behind a backslash · strings.IndexRune of U+FFFD; of any rune -/
import Derived.Lib.UnsafeStr
import Derived.Lib.OthersKept
import Derived.Deep.LoopGhost
import Derived.Laws.Runes
import Derived.WalkMore
import Derived.Lib.QuoteLoop
import Derived.Test.YtblldoniagiboaaGreatDoorJl18
namespace Go.Proofs.YtblldoniagiboaaGreatDoor
open Go.RowKit Go.Shelf
set_option linter.unusedVariables false

/-- How a reader of one rune ends. -/
def REnds (W : World) (P : Nat) (t : ByteArray) (a n : Nat) (r : Except Int (Int × List UInt8)) (e : Ending) (w' : World) : Prop :=
  match r with
  | .ok (x, R') => e = .returned (.int .i32 x) ∧ ∃ a', Went W w' P t a' n ∧ rest t a' = R'
  | .error c => Thrown W P t (c, (rest t a).length) e w'
theorem valid_lib (r : Int) : Utf8.valid r = Lib.validRune r := by
  unfold Utf8.valid Lib.validRune
  first | rfl | (rw [Bool.eq_iff_iff]; simp; omega)
theorem unitL_range (R : List UInt8) : -1 ≤ unitL R ∧ unitL R ≤ 65535 := by
  rcases Nat.lt_or_ge R.length 6 with h | h
  · rw [unitL_short h]; omega
  · rw [unitL_six h]
    split
    · split
      · rename_i n hn
        have : n ≤ 65535 := by
          unfold puS at hn
          split at hn
          · cases hn
          · exact puL_le _ 0 n (by omega) hn
        omega
      · omega
    · omega
theorem unitL_len {R : List UInt8} (h : 0 ≤ unitL R) : 6 ≤ R.length := by
  rcases Nat.lt_or_ge R.length 6 with h1 | h1
  · rw [unitL_short h1] at h; omega
  · exact h1
set_option maxRecDepth 100000 in
set_option maxHeartbeats 4000000 in
theorem escapedRune_any {W : World} {P a n : Nat} {t : ByteArray} (h : Rdr W P t a n) (hR : ReadyJ W) : Calls Tryz.prog 203 #[.pointer (some ⟨P, 0, none⟩)] W (REnds W P t a n (pairL (rest t a))) := by
  have hsz := h.2.2.1
  have hat := h.2.1
  have HU := Lib.hid (unit_any h hR (p := a) (by omega))
  have HV := Lib.hid (fun w => Tryz.utf8_ValidRune (unitL (rest t a)) w)
  have hr1 := unitL_range (rest t a)
  have hl1 := unitL_len (R := rest t a)
  have hl2 := unitL_len (R := (rest t a).drop 6)
  have hr2 := unitL_range ((rest t a).drop 6)
  have HS := Lib.hid h
  have HR := Lib.hid hR
  have k1 := h.1.cell 1
  have hpl : pairL (rest t a) = if Utf8.valid (unitL (rest t a)) then .ok (unitL (rest t a), (rest t a).drop 6) else if unitL (rest t a) - 55296 < 0 ∨ 1024 ≤ unitL (rest t a) - 55296 ∨ unitL ((rest t a).drop 6) - 56320 < 0 ∨ 1024 ≤ unitL ((rest t a).drop 6) - 56320 then .error 30 else .ok (65536 + (unitL (rest t a) - 55296) * 1024 + (unitL ((rest t a).drop 6) - 56320), (rest t a).drop 12) := rfl
  obtain ⟨u, hu⟩ : ∃ u, unitL (rest t a) = u := ⟨_, rfl⟩
  obtain ⟨v, hv⟩ : ∃ v, unitL ((rest t a).drop 6) = v := ⟨_, rfl⟩
  rw [hu] at HU HV hr1 hl1 hpl
  rw [hv] at hr2 hl2 hpl
  rw [rest_length] at hl1
  rw [List.length_drop, rest_length] at hl2
  rw [valid_lib] at hpl
  have HV2 := Lib.hid hv
  obtain ⟨b1, b2⟩ := hr1
  obtain ⟨c1, c2⟩ := hr2
  have i0 : (0 : Int) ≤ (a : Int) := by omega
  clear h hR hu hv
  cases hvr : Lib.validRune u
  · rw [hvr] at HV hpl
    rw [if_neg Bool.false_ne_true] at hpl
    have HPL := Lib.hid hpl
    clear hpl hvr
    go_enter Tryz.func203, Tryz.ntmps203
    go_wp2_with fail
    go_at_call 223; refine HU.out.mono ?_; rintro e w1 ⟨rfl, hb1⟩
    have HW1 := Lib.hid (HS.out.stays hb1)
    have HR1 := Lib.hid (HR.out.below hb1)
    clear hb1 k1
    have k1 := HW1.out.2.1.cell 1
    go_wp2_with (go_at_call 166; refine (HV.out _).mono ?_; rintro e w2 ⟨rfl, rfl⟩)
    have hun := unit_any HW1.out.2 HR1.out (p := a + 6) (by omega)
    rw [rest_add, HV2.out] at hun
    have HU2 := Lib.hid hun
    clear hun k1
    go_at_call 223; refine HU2.out.mono ?_; rintro e w3 ⟨rfl, hb3⟩
    have HW3 := Lib.hid (HW1.out.trans (HW1.out.2.stays hb3))
    clear hb3
    have k1 := HW3.out.2.1.cell 1
    have f1 := HW3.out.2.1.frozen 1
    by_cases d1 : u - 55296 < 0
    · have d2 : u < 55296 := by omega
      have HE := Lib.hid (show pairL (rest t a) = .error 30 from HPL.out.trans (if_pos (by omega)))
      go_wp2_with (go_at_call 66; refine (diag_any _ _ _).mono ?_; rintro e w4 ⟨rfl, rfl⟩)
      refine ⟨rfl, ?_⟩
      rw [HE.out]
      exact thrown_new (c := 30) HW3.out (l := (rest t a).length) (rest_back hat)
    · have d2 : 55296 ≤ u := by omega
      by_cases d3 : 1024 ≤ u - 55296
      · have d4 : 56320 ≤ u := by omega
        have HE := Lib.hid (show pairL (rest t a) = .error 30 from HPL.out.trans (if_pos (by omega)))
        go_wp2_with (go_at_call 66; refine (diag_any _ _ _).mono ?_; rintro e w4 ⟨rfl, rfl⟩)
        refine ⟨rfl, ?_⟩
        rw [HE.out]
        exact thrown_new (c := 30) HW3.out (l := (rest t a).length) (rest_back hat)
      · have d4 : u < 56320 := by omega
        by_cases d5 : v - 56320 < 0
        · have d6 : v < 56320 := by omega
          have HE := Lib.hid (show pairL (rest t a) = .error 30 from HPL.out.trans (if_pos (by omega)))
          go_wp2_with (go_at_call 66; refine (diag_any _ _ _).mono ?_; rintro e w4 ⟨rfl, rfl⟩)
          refine ⟨rfl, ?_⟩
          rw [HE.out]
          exact thrown_new (c := 30) HW3.out (l := (rest t a).length) (rest_back hat)
        · have d6 : 56320 ≤ v := by omega
          by_cases d7 : 1024 ≤ v - 56320
          · have d8 : 57344 ≤ v := by omega
            have HE := Lib.hid (show pairL (rest t a) = .error 30 from HPL.out.trans (if_pos (by omega)))
            go_wp2_with (go_at_call 66; refine (diag_any _ _ _).mono ?_; rintro e w4 ⟨rfl, rfl⟩)
            refine ⟨rfl, ?_⟩
            rw [HE.out]
            exact thrown_new (c := 30) HW3.out (l := (rest t a).length) (rest_back hat)
          · have d8 : v < 57344 := by omega
            have HE := Lib.hid (show pairL (rest t a) = _ from HPL.out.trans (if_neg (by omega)))
            have hl3 : 12 ≤ t.size - a := by have := hl2 (by omega); omega
            have i1 : (a : Int) + 12 ≤ (t.size : Int) := by omega
            go_wp2
            go_ret
            rw [HE.out]
            refine ⟨rfl, a + 12, ?_, by rw [rest_add]⟩
            have := HW3.out.trans (HW3.out.2.moves (b := a + 12) (by omega))
            simpa using this
  · rw [hvr] at HV hpl
    rw [if_pos rfl] at hpl
    have HPL := Lib.hid hpl
    have hu0 : 0 ≤ u := by
      unfold Lib.validRune at hvr
      simp at hvr
      omega
    have hl3 := hl1 hu0
    have i1 : (a : Int) + 6 ≤ (t.size : Int) := by omega
    clear hpl hvr
    go_enter Tryz.func203, Tryz.ntmps203
    go_wp2_with fail
    go_at_call 223; refine HU.out.mono ?_; rintro e w1 ⟨rfl, hb1⟩
    have HW1 := Lib.hid (HS.out.stays hb1)
    clear hb1 k1
    have k1 := HW1.out.2.1.cell 1
    have f1 := HW1.out.2.1.frozen 1
    go_wp2_with (go_at_call 166; refine (HV.out _).mono ?_; rintro e w2 ⟨rfl, rfl⟩)
    go_ret
    rw [HPL.out]
    refine ⟨rfl, a + 6, ?_, by rw [rest_add]⟩
    have := HW1.out.trans (HW1.out.2.moves (b := a + 6) (by omega))
    simpa using this

/-! ### escape -/
theorem pre2 {R : List UInt8} {p q : UInt8} (h : Lib.hasPrefix R [p, q] = true) : R = p :: q :: R.drop 2 := by
  match R, h with
  | [], h => simp [Lib.hasPrefix] at h
  | [a], h => simp [Lib.hasPrefix, List.isPrefixOf] at h
  | a :: b :: r, h =>
    simp [Lib.hasPrefix, List.isPrefixOf] at h
    simp [h]
theorem escJ_slash {R : List UInt8} (h : Lib.hasPrefix R [92, 47] = true) : escJ R = .ok (47, R.drop 2) := by
  obtain ⟨r, hr⟩ : ∃ r, R.drop 2 = r := ⟨_, rfl⟩
  have e := pre2 h
  rw [hr] at e ⊢
  rw [e]
  rfl
theorem escJ_hit {R : List UInt8} {q : UInt8} {x : Int} (hq : letterJ q = some x) (h47 : q ≠ 47) (h : Lib.hasPrefix R [92, q] = true) : escJ R = .ok (x, R.drop 2) := by
  obtain ⟨r, hr⟩ : ∃ r, R.drop 2 = r := ⟨_, rfl⟩
  have e := pre2 h
  rw [hr] at e ⊢
  rw [e]
  show (if q = 47 then Except.ok (47, r) else match letterJ q with | some x => Except.ok (x, r) | none => pairL (92 :: q :: r)) = Except.ok (x, r)
  rw [if_neg h47, hq]
theorem escJ_miss {R : List UInt8} (h0 : Lib.hasPrefix R [92, 47] = false) (h : ∀ q ∈ [34, 92, 98, 102, 110, 114, 116], Lib.hasPrefix R [92, q] = false) : escJ R = pairL R := by
  unfold escJ
  split
  · rename_i c r
    have hne : ∀ q : UInt8, Lib.hasPrefix (92 :: c :: r) [92, q] = false → c ≠ q := by
      intro q hq e
      subst e
      simp [Lib.hasPrefix, List.isPrefixOf] at hq
    rw [if_neg (hne 47 h0)]
    have hl : letterJ c = none := by
      unfold letterJ
      rw [if_neg (hne 34 (h 34 (by simp))), if_neg (hne 92 (h 92 (by simp))), if_neg (hne 98 (h 98 (by simp))), if_neg (hne 102 (h 102 (by simp))), if_neg (hne 110 (h 110 (by simp))), if_neg (hne 114 (h 114 (by simp))), if_neg (hne 116 (h 116 (by simp)))]
    rw [hl]
  · rfl
end Go.Proofs.YtblldoniagiboaaGreatDoor
namespace Go.Proofs.YtblldoniagiboaaGreatDoor
open Go.RowKit Go.Shelf
set_option linter.unusedVariables false

/-- Where a rune stands in them, or -1. -/
def placeQ (r : Int) : Int := if r = 34 then 0 else if r = 92 then 1 else if r = 8 then 2 else if r = 12 then 3 else if r = 10 then 4 else if r = 13 then 5 else if r = 9 then 6 else -1
abbrev escB : ByteArray := ⟨#[34, 92, 8, 12, 10, 13, 9]⟩
set_option maxRecDepth 100000 in
theorem place_low : ∀ c : Fin 128, Lib.indexByte escB.data.toList ((c.val : Nat) : Int).toNat.toUInt8 = placeQ ((c.val : Nat) : Int) := by decide
theorem place_far {r : Int} (h : 128 ≤ r) : placeQ r = -1 := by
  unfold placeQ
  repeat (rw [if_neg (by omega)])
theorem index_low {r : Int} (h0 : 0 ≤ r) (h1 : r < 128) (w : World) : Calls Tryz.prog 132 #[.string escB, .int .i32 r] w fun e w' => e = .returned (.int .i64 (placeQ r)) ∧ Below w.heap.size w w' := by
  refine (Tryz.strings_IndexRune_ascii escB r w h0 h1).mono ?_
  rintro e w' ⟨rfl, rfl⟩
  have := place_low ⟨r.toNat, by omega⟩
  have hr : ((r.toNat : Nat) : Int) = r := by omega
  simp only [hr] at this
  rw [this]
  exact ⟨rfl, Below.refl _ _⟩
theorem far_none : ∀ (l : List UInt8) (c : UInt8), (∀ x ∈ l, x ≠ c) → Lib.indexByte l c = -1
  | [], c, _ => rfl
  | b :: l, c, h => by
    have hb : (b == c) = false := beq_eq_false_iff_ne.2 (h b (by simp))
    have := far_none l c (fun x hx => h x (by simp [hx]))
    unfold Lib.indexByte
    rw [hb, this]
    rfl
set_option maxRecDepth 100000 in
set_option maxHeartbeats 4000000 in
theorem index_high {r : Int} (h0 : 128 ≤ r) (h1 : r ≤ 1114111) (hv : Utf8.valid r = true) (he : ¬ r = 65533) (w : World) : Calls Tryz.prog 132 #[.string escB, .int .i32 r] w fun e w' => e = .returned (.int .i64 (placeQ r)) ∧ Below w.heap.size w w' := by
  rw [place_far h0]
  obtain ⟨f1, f2, f3⟩ := encode_facts r hv h0
  obtain ⟨s, hs⟩ : ∃ s, Utf8.encode r = s := ⟨_, rfl⟩
  rw [hs] at f1 f2 f3
  have hlast := f3 (by omega)
  obtain ⟨c, hc⟩ : ∃ c : UInt8, s[s.size - 1]'(by omega) = c := ⟨_, rfl⟩
  rw [hc] at hlast
  have hcv : ∀ w : World, (convert 21 9 (.int .i32 r)).run Tryz.prog w = .ok (.string s) w := fun w => by
    rw [← hs]
    exact run_convert_int_string w 21 9 .i32 r (by rw [Tryz.underlying21]; rfl) Tryz.underlying9
  have hix : ∀ W : World, (Instr.index 9 (.string s) (.int .i64 ((s.size : Int) - 1))).run Tryz.prog W = .ok (.int .u8 (c.toNat : Int)) W := fun W => by
    have hu := Tryz.underlying9
    have e1 : (0 : Int) ≤ (s.size : Int) - 1 := by omega
    have e2 : ((s.size : Int) - 1).toNat = s.size - 1 := by omega
    have e3 : s.size - 1 < s.size := by omega
    have e4 : (1 : Int) ≤ (s.size : Int) := by omega
    simp [Instr.index, run_underlying hu, asIntOf, go_sem, e2, getElem?_pos, e3, e4, hc]
  have HV := Lib.hid (fun w => Tryz.utf8_ValidRune r w)
  rw [show Lib.validRune r = true from (valid_lib r).symm.trans hv] at HV
  have HB : Hid (∀ (t : ByteArray) (w : World), (∀ x ∈ t.data.toList, x.toNat < 128) → Calls Tryz.prog 165 #[.string t, .int .u8 (c.toNat : Int)] w fun e w' => e = .returned (.int .i64 (-1)) ∧ w' = w) := Lib.hid (fun t w ht => by
    refine (Tryz.strings_IndexByte t (c.toNat : Int) w).mono ?_
    rintro e w' ⟨rfl, rfl⟩
    rw [far_none _ _ (fun x hx e => by
      have h2 : ((c.toNat : Int)).toNat.toUInt8 = c := by simp
      rw [h2] at e
      have := ht x hx
      rw [e] at this
      omega)]
    exact ⟨rfl, rfl⟩)
  have i0 : (0 : Int) ≤ r := by omega
  have i1 : ¬ r < 128 := by omega
  have i2 : (r == 65533) = false := beq_eq_false_iff_ne.2 he
  have hw : IntKind.i64.wrap ((s.size : Int) - 1) = (s.size : Int) - 1 := IntWalk.i64_in _ (by omega)
  clear hs hc f3
  rcases (show s.size = 2 ∨ s.size = 3 ∨ s.size = 4 by omega) with h | h | h
  · rw [h] at hix hw
    have e1 : ((2 : Nat) : Int) - 1 = 1 := rfl
    have hw2 : IntKind.i64.wrap 2 = 2 := by decide
    have hxs : ∀ W : World, (Instr.index 9 (.string escB) (.int .i64 1)).run Tryz.prog W = .ok (.int .u8 92) W := fun W => by kernel_rfl
    have hsl : ∀ W : World, (Instr.sliceAt 9 (.string escB) (some (.int .i64 2)) none none).run Tryz.prog W = .ok (.string ⟨#[8, 12, 10, 13, 9]⟩) W := fun W => by kernel_rfl
    rw [e1] at hix hw
    have k1 : ((92 : Int) == (c.toNat : Int)) = false := beq_eq_false_iff_ne.2 (by omega)
    have k2 : ((92 : Int) != (c.toNat : Int)) = true := by simp only [bne, k1]; rfl
    go_enter Tryz.func132, Tryz.ntmps132
    go_wp2_with (go_at_call 166; refine (HV.out _).mono ?_; rintro e w2 ⟨rfl, rfl⟩)
    go_step3
    go_wp2_with fail
    refine wp_loop_rounds 1 ?_
    rw [rounds_succ]
    go_wp2_with fail
    go_step3
    go_wp2_with fail
    go_quiet (fail)
    have hb3 := below_drewN w2 nq
    generalize w2.drewN nq = w3 at *
    go_wp2_with fail
    go_quiet ((go_at_call 165; refine Calls.quiet_of_same (HB.out _ _ ?_); decide))
    go_wp2_with fail
    rw [Exit.noGoto_ret]
    simp only [Exit.inBlock, Exit.then, Exit.noGoto_ret]
    go_ret
    exact ⟨rfl, hb3.trans ((below_drewN w3 _).mono hb3.size)⟩
  · rw [h] at hix hw
    have e1 : ((3 : Nat) : Int) - 1 = 2 := rfl
    have hw2 : IntKind.i64.wrap 3 = 3 := by decide
    have hxs : ∀ W : World, (Instr.index 9 (.string escB) (.int .i64 2)).run Tryz.prog W = .ok (.int .u8 8) W := fun W => by kernel_rfl
    have hsl : ∀ W : World, (Instr.sliceAt 9 (.string escB) (some (.int .i64 3)) none none).run Tryz.prog W = .ok (.string ⟨#[12, 10, 13, 9]⟩) W := fun W => by kernel_rfl
    rw [e1] at hix hw
    have k1 : ((8 : Int) == (c.toNat : Int)) = false := beq_eq_false_iff_ne.2 (by omega)
    have k2 : ((8 : Int) != (c.toNat : Int)) = true := by simp only [bne, k1]; rfl
    go_enter Tryz.func132, Tryz.ntmps132
    go_wp2_with (go_at_call 166; refine (HV.out _).mono ?_; rintro e w2 ⟨rfl, rfl⟩)
    go_step3
    go_wp2_with fail
    refine wp_loop_rounds 1 ?_
    rw [rounds_succ]
    go_wp2_with fail
    go_step3
    go_wp2_with fail
    go_quiet (fail)
    have hb3 := below_drewN w2 nq
    generalize w2.drewN nq = w3 at *
    go_wp2_with fail
    go_quiet ((go_at_call 165; refine Calls.quiet_of_same (HB.out _ _ ?_); decide))
    go_wp2_with fail
    rw [Exit.noGoto_ret]
    simp only [Exit.inBlock, Exit.then, Exit.noGoto_ret]
    go_ret
    exact ⟨rfl, hb3.trans ((below_drewN w3 _).mono hb3.size)⟩
  · rw [h] at hix hw
    have e1 : ((4 : Nat) : Int) - 1 = 3 := rfl
    have hw2 : IntKind.i64.wrap 4 = 4 := by decide
    have hxs : ∀ W : World, (Instr.index 9 (.string escB) (.int .i64 3)).run Tryz.prog W = .ok (.int .u8 12) W := fun W => by kernel_rfl
    have hsl : ∀ W : World, (Instr.sliceAt 9 (.string escB) (some (.int .i64 4)) none none).run Tryz.prog W = .ok (.string ⟨#[10, 13, 9]⟩) W := fun W => by kernel_rfl
    rw [e1] at hix hw
    have k1 : ((12 : Int) == (c.toNat : Int)) = false := beq_eq_false_iff_ne.2 (by omega)
    have k2 : ((12 : Int) != (c.toNat : Int)) = true := by simp only [bne, k1]; rfl
    go_enter Tryz.func132, Tryz.ntmps132
    go_wp2_with (go_at_call 166; refine (HV.out _).mono ?_; rintro e w2 ⟨rfl, rfl⟩)
    go_step3
    go_wp2_with fail
    refine wp_loop_rounds 1 ?_
    rw [rounds_succ]
    go_wp2_with fail
    go_step3
    go_wp2_with fail
    go_quiet (fail)
    have hb3 := below_drewN w2 nq
    generalize w2.drewN nq = w3 at *
    go_wp2_with fail
    go_quiet ((go_at_call 165; refine Calls.quiet_of_same (HB.out _ _ ?_); decide))
    go_wp2_with fail
    rw [Exit.noGoto_ret]
    simp only [Exit.inBlock, Exit.then, Exit.noGoto_ret]
    go_ret
    exact ⟨rfl, hb3.trans ((below_drewN w3 _).mono hb3.size)⟩
end Go.Proofs.YtblldoniagiboaaGreatDoor
namespace Go.Proofs.YtblldoniagiboaaGreatDoor
open Go.RowKit Go.Shelf
set_option linter.unusedVariables false

theorem below_iterAt {B : Nat} {w W : World} (h : Below B w W) {k : Nat} (hk : B ≤ k) (s : ByteArray) (p : Nat) : Below B w (W.iterAt k s p) := by
  refine ⟨h.os, h.tape, h.output, ?_, fun j hj => ?_⟩
  · simpa [World.iterAt] using h.size
  · rw [← h.block j hj]
    simp only [World.iterAt]
    rw [Array.getElem?_setIfInBounds_ne (by omega)]
theorem esc_low : ∀ p : Fin 7, (escB[p.val]'p.isLt).toNat < 128 := by decide
set_option maxRecDepth 100000 in
set_option maxHeartbeats 4000000 in
theorem index_err (w : World) : Calls Tryz.prog 132 #[.string escB, .int .i32 65533] w fun e w' => e = .returned (.int .i64 (placeQ 65533)) ∧ Below w.heap.size w w' := by
  have hp : placeQ 65533 = -1 := rfl
  rw [hp]
  clear hp
  go_enter Tryz.func132, Tryz.ntmps132
  go_wp2_with fail
  go_loopg [] 8 (fun gf wx => ∃ pos, Hid (wx.heap[w.heap.size]? = some (.stringIter escB pos)) ∧ Hid (Below w.heap.size w wx) ∧ 7 - pos < gf)
  case atStart => exact ⟨0, Lib.hid (World.iter_heap _ _ _), Lib.hid (below_new0 _ _), by omega⟩
  case round =>
    obtain ⟨pos, HI, HB, hf⟩ := hrel
    by_cases hlt : pos < 7
    · have hnx := fun ty => Lib.run_next_ascii_at (P := Tryz.prog) wr w.heap.size escB pos ty HI.out hlt (esc_low ⟨pos, hlt⟩)
      have hlow := esc_low ⟨pos, hlt⟩
      obtain ⟨c, hc⟩ : ∃ c, (escB[pos]'hlt).toNat = c := ⟨_, rfl⟩
      have hlow' : c < 128 := by rw [← hc]; exact hlow
      rw [hc] at hnx
      have k1 : ((c : Int) == 65533) = false := beq_eq_false_iff_ne.2 (by omega)
      obtain ⟨g', rfl⟩ : ∃ g', gk = g' + 1 := ⟨gk - 1, by omega⟩
      have HI2 := Lib.hid (Lib.iterAt_heap wr w.heap.size escB pos (pos + 1) HI.out)
      have HB2 := Lib.hid (below_iterAt HB.out (Nat.le_refl _) escB (pos + 1))
      clear hlow hc
      go_wp2_with fail
      go_roundg g'
      case measure => omega
      case rel => exact ⟨pos + 1, HI2, HB2, by omega⟩
    · have hnx := fun ty => Lib.run_next_end_at (P := Tryz.prog) wr w.heap.size escB pos ty HI.out hlt
      go_wp2_with fail
      go_ret
      exact ⟨rfl, HB.out⟩
/-- At every rune that a text may have. -/
theorem index_any {r : Int} (h0 : 0 ≤ r) (h1 : r ≤ 1114111) (hv : Utf8.valid r = true) (w : World) : Calls Tryz.prog 132 #[.string escB, .int .i32 r] w fun e w' => e = .returned (.int .i64 (placeQ r)) ∧ Below w.heap.size w w' := by
  by_cases h : r < 128
  · exact index_low h0 h w
  · by_cases he : r = 65533
    · subst he; exact index_err w
    · exact index_high (by omega) h1 hv he w
end Go.Proofs.YtblldoniagiboaaGreatDoor
