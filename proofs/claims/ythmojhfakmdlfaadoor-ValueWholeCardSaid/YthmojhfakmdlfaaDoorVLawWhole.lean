/- ValueWhole: its walk. -/
import Derived.Test.YthmojhfakmdlfaaDoorVList
import Derived.Test.YthmojhfakmdlfaaDoorVLawGood
namespace Go.Proofs.YthmojhfakmdlfaaDoor
open Go.RowKit
set_option linter.unusedVariables false

/-- A good value's contracts, wherever nothing that was there has turned. -/
structure GoodAt (T : VT) (v : Value) (W : World) : Prop where
  vs : ∀ W', Below W.heap.size W W' → Calls Tryd.prog 19 #[v] W' fun e w' => e = .returned (.int .i64 (sizeT T : Int)) ∧ Below W'.heap.size W' w'
  rs : ∀ W', Below W.heap.size W W' → Calls Tryd.prog 20 #[v] W' fun e w' => e = .returned (.int .i64 (sizeT T : Int)) ∧ Below W'.heap.size W' w'
  vk : ∀ W', Below W.heap.size W W' → Calls Tryd.prog 16 #[v] W' fun e w' => e = .returned (.bool (knownT T)) ∧ Below W'.heap.size W' w'
  rk : ∀ W', Below W.heap.size W W' → Calls Tryd.prog 21 #[v] W' fun e w' => e = .returned (.bool (knownT T)) ∧ Below W'.heap.size W' w'
  cl : ∀ W', Below W.heap.size W W' → Calls Tryd.prog 22 #[v] W' (Clones T W')
  sm : ∀ W' v', Below W.heap.size W W' → Is W'.heap.size W' v' T → Calls Tryd.prog 11 #[v', v] W' fun e w' => e = .returned (.bool true) ∧ Below W'.heap.size W' w'
theorem goodAt_of {B : Nat} {w : World} {v : Value} {T : VT} (h : Is B w v T) (hg : goodT T = true) (W : World) (hb : Below B w W) (hBW : B ≤ W.heap.size) : GoodAt T v W where
  vs W' hb' := vSize_good h hg W' (hb.trans (hb'.mono hBW)) (Nat.le_trans hBW hb'.size)
  rs W' hb' := rSize_good h hg W' (hb.trans (hb'.mono hBW)) (Nat.le_trans hBW hb'.size)
  vk W' hb' := vKnown_any h W' (hb.trans (hb'.mono hBW)) (Nat.le_trans hBW hb'.size)
  rk W' hb' := rKnown_any h W' (hb.trans (hb'.mono hBW)) (Nat.le_trans hBW hb'.size)
  cl W' hb' := clone_any h (goodT_small hg) W' (hb.trans (hb'.mono hBW)) (Nat.le_trans hBW hb'.size)
  sm W' v' hb' hv' := by
    have h2 : Is W'.heap.size W' v T := (h.later (hb.trans (hb'.mono hBW))).wide (Nat.le_trans hBW hb'.size)
    have := same_any hv' v T W' h2 (Below.refl _ _) (Nat.le_refl _)
    rw [sameT_refl] at this
    exact this

theorem keep12 {w4 w1 w2 : World} {a0 a1 a2 a3 a4 a5 a6 a7 a8 a9 aa ab : Addr} {v0 v1 v2 v3 v4 v5 v6 v7 v8 v9 va vb : Value} (h : Hid (Below w4.heap.size w4 w1) ∧ w1.cell? a0 = some v0 ∧ w1.cell? a1 = some v1 ∧ w1.cell? a2 = some v2 ∧ w1.cell? a3 = some v3 ∧ w1.cell? a4 = some v4 ∧ w1.cell? a5 = some v5 ∧ w1.cell? a6 = some v6 ∧ w1.cell? a7 = some v7 ∧ w1.cell? a8 = some v8 ∧ w1.cell? a9 = some v9 ∧ w1.cell? aa = some va ∧ w1.cell? ab = some vb) (hb : Below w1.heap.size w1 w2) :
    Hid (Below w4.heap.size w4 w2) ∧ w2.cell? a0 = some v0 ∧ w2.cell? a1 = some v1 ∧ w2.cell? a2 = some v2 ∧ w2.cell? a3 = some v3 ∧ w2.cell? a4 = some v4 ∧ w2.cell? a5 = some v5 ∧ w2.cell? a6 = some v6 ∧ w2.cell? a7 = some v7 ∧ w2.cell? a8 = some v8 ∧ w2.cell? a9 = some v9 ∧ w2.cell? aa = some va ∧ w2.cell? ab = some vb := by
  obtain ⟨h0, q0, q1, q2, q3, q4, q5, q6, q7, q8, q9, qa, qb⟩ := h
  exact ⟨Lib.hid (h0.out.trans (hb.mono h0.out.size)), cells_keep hb q0, cells_keep hb q1, cells_keep hb q2, cells_keep hb q3, cells_keep hb q4, cells_keep hb q5, cells_keep hb q6, cells_keep hb q7, cells_keep hb q8, cells_keep hb q9, cells_keep hb qa, cells_keep hb qb⟩

set_option maxRecDepth 100000 in
set_option maxHeartbeats 8000000 in
theorem wholeLaw_any {B : Nat} {w : World} {v : Value} {T : VT} (h : Is B w v T) (W : World) (hb : Below B w W) (hBW : B ≤ W.heap.size) : Calls Tryd.prog 5 #[v] W fun e w' => e = .returned (.bool true) ∧ Below W.heap.size W w' := by
  have HRG := Lib.hid (fun W' (hb' : Below W.heap.size W W') => rGood_any h W' (hb.trans (hb'.mono hBW)) (Nat.le_trans hBW hb'.size))
  have HAW := Lib.hid (fun W' => awake_any W')
  obtain ⟨k, b, t, ad, n, cap, adk, nk, capk, rfl⟩ := h.shape
  have hb0 := below_new W (.cells #[.int .i64 k, .bool b, .string t, .slice ad n cap, .slice adk nk capk] 26)
  have hk0 := Blk.new W #[.int .i64 k, .bool b, .string t, .slice ad n cap, .slice adk nk capk] 26
  have HB0 := Lib.hid hb0
  have HK0 := Lib.hid hk0
  have HI := Lib.hid h
  have HBb := Lib.hid hb
  have HBW := Lib.hid hBW
  clear hb0 hk0 hb hBW h
  go_enter Tryd.func5, Tryd.ntmps5
  go_wp2_with fail
  go_at_call 6; refine (HAW.out _).mono ?_; rintro e w1 ⟨rfl, hb1⟩
  have HB1 := Lib.hid (HB0.out.trans (hb1.mono HB0.out.size))
  have HK1 := Lib.hid (HK0.out.below hb1)
  have q0 := HK1.out.cell 0
  have q1 := HK1.out.cell 1
  have q2 := HK1.out.cell 2
  have q3 := HK1.out.cell 3
  have q4 := HK1.out.cell 4
  have HRG1 := Lib.hid (HRG.out w1 HB1.out)
  clear hb1 HRG HB0 HK0 HAW
  cases hg : goodT T
  · rw [hg] at HRG1
    clear hg
    go_wp2_with (go_at_call 8; refine HRG1.out.mono ?_; rintro e w2 ⟨rfl, hb2⟩)
    go_ret
    exact ⟨rfl, HB1.out.trans (hb2.mono HB1.out.size)⟩
  · rw [hg] at HRG1
    have HG := Lib.hid hg
    clear hg
    go_wp2_with fail
    go_at_call 8; refine HRG1.out.mono ?_; rintro e w2 ⟨rfl, hb2⟩
    clear q0 q1 q2 q3 q4
    have HB2 := Lib.hid (HB1.out.trans (hb2.mono HB1.out.size))
    have HK2 := Lib.hid (HK1.out.below hb2)
    have q0 := HK2.out.cell 0
    have q1 := HK2.out.cell 1
    have q2 := HK2.out.cell 2
    have q3 := HK2.out.cell 3
    have q4 := HK2.out.cell 4
    have hbl := below_new w2 (.cells #[.int .i64 k, .bool b, .string t, .slice ad n cap, .slice adk nk capk, .int .i64 k, .bool b, .string t, .slice ad n cap, .slice adk nk capk] 26)
    have HB3 := Lib.hid (HB2.out.trans (hbl.mono HB2.out.size))
    have HK3 := Lib.hid (HK2.out.below hbl)
    have HLs := Lib.hid (list_two HI.out (goodT_small HG.out) (w2.alloc (.cells #[.int .i64 k, .bool b, .string t, .slice ad n cap, .slice adk nk capk, .int .i64 k, .bool b, .string t, .slice ad n cap, .slice adk nk capk] 26)) (HBb.out.trans (HB3.out.mono HBW.out)) (Nat.le_trans HBW.out HB3.out.size) w2.heap.size (Blk.new w2 _ _))
    clear hb2 hbl
    go_wp2_with fail
    go_at_call 18; refine HLs.out.mono ?_; rintro e w3 ⟨lv, rfl, hlf, hb3⟩
    have hlf0 := hlf.at
    cases hlf with
    | mk k5 b5 t5 its5 ks5 ad5 cap5 kv5 g5 o5 ik5 ib5 it5 ii5 iv5 hk5 hc5 hn5 ha5 hcell5 hrec5 =>
    obtain ⟨adk5, capk5, rfl, -⟩ := hk5
    obtain ⟨rfl, hg5, hg5'⟩ := ha5 (by simp)
    have hc1 := hcell5 1 (by simp)
    have hr1 : Is w3.heap.size w3 (.agg #[.int .i64 (ik5 1), .bool (ib5 1), .string (it5 1), ii5 1, iv5 1]) T := (hrec5 1 (by simp)).at
    obtain ⟨z0, z1, z2, z3, z4⟩ := hc1
    generalize ik5 1 = y0 at z0 hr1
    generalize ib5 1 = y1 at z1 hr1
    generalize it5 1 = y2 at z2 hr1
    generalize ii5 1 = y3 at z3 hr1
    generalize iv5 1 = y4 at z4 hr1
    clear hcell5 hrec5 hlf0 hc5 hn5 ha5 q0 q1 q2 q3 q4
    have HB4 := Lib.hid (HB3.out.trans (hb3.mono HB3.out.size))
    have HGA := Lib.hid (goodAt_of HI.out HG.out W HBb.out HBW.out)
    have hbn := below_new w3 (.cells #[.int .i64 5, .bool false, .string ⟨#[]⟩, .slice (some ⟨g5, o5, none⟩) 2 cap5, .slice adk5 0 capk5] 26)
    have HB5 := Lib.hid (HB4.out.trans (hbn.mono HB4.out.size))
    have hx := Blk.new w3 #[.int .i64 5, .bool false, .string ⟨#[]⟩, .slice (some ⟨g5, o5, none⟩) 2 cap5, .slice adk5 0 capk5] 26
    have hr4 := Lib.hid ((hr1.later hbn).wide hbn.size)
    have hK4 := Lib.hid (((HK3.out.below hb3)).below hbn)
    have x0 := hx.cell 0
    have x3 := hx.cell 3
    have k0 := hK4.out.cell 0
    have k1 := hK4.out.cell 1
    have k2 := hK4.out.cell 2
    have k3 := hK4.out.cell 3
    have k4 := hK4.out.cell 4
    replace z0 := cells_keep hbn z0
    replace z1 := cells_keep hbn z1
    replace z2 := cells_keep hbn z2
    replace z3 := cells_keep hbn z3
    replace z4 := cells_keep hbn z4
    go_wp2_with fail
    generalize w3.alloc (.cells #[.int .i64 5, .bool false, .string ⟨#[]⟩, .slice (some ⟨g5, o5, none⟩) 2 cap5, .slice adk5 0 capk5] 26) = w4 at *
    generalize w3.heap.size = X at *
    have HS0 : Hid (Below w4.heap.size w4 w4.drew) ∧ w4.drew.cell? ⟨W.heap.size, 0, none⟩ = some (.int .i64 k) ∧ w4.drew.cell? ⟨W.heap.size, 1, none⟩ = some (.bool b) ∧ w4.drew.cell? ⟨W.heap.size, 2, none⟩ = some (.string t) ∧ w4.drew.cell? ⟨W.heap.size, 3, none⟩ = some (.slice ad n cap) ∧ w4.drew.cell? ⟨W.heap.size, 4, none⟩ = some (.slice adk nk capk) ∧ w4.drew.cell? ⟨X, 0, none⟩ = some (.int .i64 5) ∧ w4.drew.cell? ⟨X, 3, none⟩ = some (.slice (some ⟨g5, o5, none⟩) 2 cap5) ∧ w4.drew.cell? ⟨g5, o5 + 1 * 5, none⟩ = some (.int .i64 y0) ∧ w4.drew.cell? ⟨g5, o5 + 1 * 5 + 1, none⟩ = some (.bool y1) ∧ w4.drew.cell? ⟨g5, o5 + 1 * 5 + 2, none⟩ = some (.string y2) ∧ w4.drew.cell? ⟨g5, o5 + 1 * 5 + 3, none⟩ = some y3 ∧ w4.drew.cell? ⟨g5, o5 + 1 * 5 + 4, none⟩ = some y4 := ⟨Lib.hid ⟨rfl, rfl, rfl, Nat.le_refl _, fun _ _ => rfl⟩, k0, k1, k2, k3, k4, x0, x3, z0, z1, z2, z3, z4⟩
    go_region_held3 (fun w' => Hid (Below w4.heap.size w4 w') ∧ w'.cell? ⟨W.heap.size, 0, none⟩ = some (.int .i64 k) ∧ w'.cell? ⟨W.heap.size, 1, none⟩ = some (.bool b) ∧ w'.cell? ⟨W.heap.size, 2, none⟩ = some (.string t) ∧ w'.cell? ⟨W.heap.size, 3, none⟩ = some (.slice ad n cap) ∧ w'.cell? ⟨W.heap.size, 4, none⟩ = some (.slice adk nk capk) ∧ w'.cell? ⟨X, 0, none⟩ = some (.int .i64 5) ∧ w'.cell? ⟨X, 3, none⟩ = some (.slice (some ⟨g5, o5, none⟩) 2 cap5) ∧ w'.cell? ⟨g5, o5 + 1 * 5, none⟩ = some (.int .i64 y0) ∧ w'.cell? ⟨g5, o5 + 1 * 5 + 1, none⟩ = some (.bool y1) ∧ w'.cell? ⟨g5, o5 + 1 * 5 + 2, none⟩ = some (.string y2) ∧ w'.cell? ⟨g5, o5 + 1 * 5 + 3, none⟩ = some y3 ∧ w'.cell? ⟨g5, o5 + 1 * 5 + 4, none⟩ = some y4)
      (first | exact keep12 (by assumption) (by assumption) | exact HS0 | go_keep)
      (first
        | (go_at_call 19; refine (HGA.out.vs _ (by have := ‹Hid (Below w4.heap.size w4 _) ∧ _›.1.out; exact HB5.out.trans (this.mono HB5.out.size))).mono ?_; rintro e w5 ⟨rfl, hb5⟩)
        | (go_at_call 20; refine (HGA.out.rs _ (by have := ‹Hid (Below w4.heap.size w4 _) ∧ _›.1.out; exact HB5.out.trans (this.mono HB5.out.size))).mono ?_; rintro e w5 ⟨rfl, hb5⟩)
        | (go_at_call 16; refine (HGA.out.vk _ (by have := ‹Hid (Below w4.heap.size w4 _) ∧ _›.1.out; exact HB5.out.trans (this.mono HB5.out.size))).mono ?_; rintro e w5 ⟨rfl, hb5⟩)
        | (go_at_call 21; refine (HGA.out.rk _ (by have := ‹Hid (Below w4.heap.size w4 _) ∧ _›.1.out; exact HB5.out.trans (this.mono HB5.out.size))).mono ?_; rintro e w5 ⟨rfl, hb5⟩)
        | (go_at_call 22; refine (HGA.out.cl _ (by have := ‹Hid (Below w4.heap.size w4 _) ∧ _›.1.out; exact HB5.out.trans (this.mono HB5.out.size))).mono ?_; rintro e w5 ⟨vcl, rfl, hfcl, hb5⟩)
        | (go_at_call 11; refine (HGA.out.sm _ _ (by have := ‹Hid (Below w4.heap.size w4 _) ∧ _›.1.out; exact HB5.out.trans (this.mono HB5.out.size)) (by first | exact (‹Fresh _ _ _ _ _›).at | (have := ‹Hid (Below w4.heap.size w4 _) ∧ _›.1.out; exact (hr4.out.later this).wide this.size))).mono ?_; rintro e w5 ⟨rfl, hb5⟩))
    all_goals
      go_wp2_with fail
      go_ret
      rename_i hS
      refine ⟨?_, HB5.out.trans (hS.1.out.mono HB5.out.size)⟩
      simp
end Go.Proofs.YthmojhfakmdlfaaDoor
