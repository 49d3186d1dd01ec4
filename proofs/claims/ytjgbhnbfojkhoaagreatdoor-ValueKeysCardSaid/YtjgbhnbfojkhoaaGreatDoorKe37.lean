/- ValueKeys: its walk · What the rows' condition on the table of powers of ten gives the walks -/
import Derived.Test.YtjgbhnbfojkhoaaGreatDoorRows
import Derived.Lib.AppendIntMem
import Derived.Lib.LaidTab
import Derived.ProofKit
import Derived.LaidMore
import Derived.OpenShut
import Derived.Test.YtjgbhnbfojkhoaaGreatDoorKe09
import Derived.Test.YtjgbhnbfojkhoaaGreatDoorKe24
import Derived.Test.YtjgbhnbfojkhoaaGreatDoorKe32
import Derived.Test.YtjgbhnbfojkhoaaGreatDoorKe34
import Derived.Test.YtjgbhnbfojkhoaaGreatDoorKe36
namespace Go.Proofs.YtjgbhnbfojkhoaaGreatDoor
open Go.RowKit
set_option linter.unusedVariables false

/-- Two values stand boxed at the head of what is new. -/
def Two (W w : World) (A B : Array Value) : Prop := Below W.heap.size W w ∧ Blk w W.heap.size A 26 ∧ Blk w (W.heap.size + 1) B 26
theorem Two.next {W w w' : World} {A B : Array Value} (h : Two W w A B) (hb : Below w.heap.size w w') : Two W w' A B := ⟨h.1.trans (hb.mono h.1.size), h.2.1.below hb, h.2.2.below hb⟩
theorem Two.new (W : World) (A B : Array Value) : Two W ((W.alloc (.cells A 26)).alloc (.cells B 26)) A B := by
  have h1 := below_new0 W (.cells A 26)
  have h2 := h1.alloc h1.size (.cells B 26)
  refine ⟨h2, (Blk.new W A 26).alloc _, ?_⟩
  have := Blk.new (W.alloc (.cells A 26)) B 26
  simpa using this
theorem got_one {k : Int} {ks : List ByteArray} {its : List VT} {key : ByteArray} {T T' : VT} {ok ok' : Bool} (hr : k = 6 → Rising ks) (h : Got k ks its key T ok) (h' : Got k ks its key T' ok') : T = T' ∧ ok = ok' := by
  rcases h with ⟨rfl, h6, j, hj, hj', he, rfl⟩ | ⟨rfl, rfl, hn⟩
  · rcases h' with ⟨rfl, -, i, hi, hi', he', rfl⟩ | ⟨rfl, rfl, hn⟩
    · obtain rfl := place_only (hr h6) hj hi he he'
      exact ⟨rfl, rfl⟩
    · rcases hn with hn | hn
      · exact absurd h6 hn
      · rw [hn j hj] at he; cases he
  · rcases h' with ⟨rfl, h6, i, hi, hi', he', rfl⟩ | ⟨rfl, rfl, hn'⟩
    · rcases hn with hn | hn
      · exact absurd h6 hn
      · rw [hn i hi] at he'; cases he'
    · exact ⟨rfl, rfl⟩

/-- The contracts that the law goes by, wherever nothing that was there has turned. -/
structure KeyAt (TP TD : VT) (key : ByteArray) (v x : Value) (W : World) : Prop where
  gv : ∀ W', Below W.heap.size W W' → Calls Tryz.prog 17 #[v, .string key] W' fun e w' => (∃ v' T' ok, e = .returned (.tuple #[v', .bool ok]) ∧ Is w'.heap.size w' v' T' ∧ ∀ W2, Below W.heap.size W W2 → Calls Tryz.prog 18 #[v, .string key] W2 fun e w2 => (∃ v2, e = .returned (.tuple #[v2, .bool ok]) ∧ Is w2.heap.size w2 v2 T') ∧ Below W2.heap.size W2 w2) ∧ Below W'.heap.size W' w'
  pv : ∀ W', Below W.heap.size W W' → Calls Tryz.prog 19 #[v, .string key, x] W' fun e w' => (∃ v', e = .returned v' ∧ Is w'.heap.size w' v' TP) ∧ Below W'.heap.size W' w'
  pr : ∀ W', Below W.heap.size W W' → Calls Tryz.prog 20 #[v, .string key, x] W' fun e w' => (∃ v', e = .returned v' ∧ Is w'.heap.size w' v' TP) ∧ Below W'.heap.size W' w'
  dv : ∀ W', Below W.heap.size W W' → Calls Tryz.prog 21 #[v, .string key] W' fun e w' => (∃ v' T', e = .returned v' ∧ Is w'.heap.size w' v' T' ∧ sameT T' TD = true) ∧ Below W'.heap.size W' w'
  dr : ∀ W', Below W.heap.size W W' → Calls Tryz.prog 22 #[v, .string key] W' fun e w' => (∃ v', e = .returned v' ∧ Is w'.heap.size w' v' TD) ∧ Below W'.heap.size W' w'
theorem keyAt_of {B : Nat} {w : World} {v x : Value} {T X : VT} {key : ByteArray} (h : Is B w v T) (hx : Is B w x X) (hg : goodT T = true) (hgx : goodT X = true) (W : World) (hb : Below B w W) (hBW : B ≤ W.heap.size) : ∃ TP TD, KeyAt TP TD key v x W := by
  cases T with
  | node k b t its ks =>
  obtain ⟨hl, hr, hbt, h9, hsm⟩ := good_parts hg
  have hsx := goodT_small hgx
  refine ⟨putT k ks its key X, dropT k b t ks its key, fun W' hb' => ?_, fun W' hb' => ?_, fun W' hb' => rPut_tree h hx hl h9 W' (hb.trans (hb'.mono hBW)) (Nat.le_trans hBW hb'.size), fun W' hb' => ?_, fun W' hb' => rDrop_tree h hl h9 W' (hb.trans (hb'.mono hBW)) (Nat.le_trans hBW hb'.size)⟩
  · refine (vGet_any (key := key) h hl hr hsm W' (hb.trans (hb'.mono hBW)) (Nat.le_trans hBW hb'.size)).mono ?_
    rintro e w' ⟨⟨v', T', ok, rfl, hf, hgot⟩, hbw⟩
    refine ⟨⟨v', T', ok, rfl, hf.at, fun W2 hb2 => ?_⟩, hbw⟩
    refine (rGet_any (key := key) h hl W2 (hb.trans (hb2.mono hBW)) (Nat.le_trans hBW hb2.size)).mono ?_
    rintro e w2 ⟨⟨v2, T2, ok2, rfl, hi2, hgot2⟩, hbw2⟩
    obtain ⟨rfl, rfl⟩ := got_one hr hgot hgot2
    exact ⟨⟨v2, rfl, (hi2.later ((hb.trans (hb2.mono hBW)).trans (hbw2.mono (Nat.le_trans hBW hb2.size)))).wide (Nat.le_trans hBW (Nat.le_trans hb2.size hbw2.size))⟩, hbw2⟩
  · refine (vPut_any (key := key) h hx hl hr hsm hsx h9 W' (hb.trans (hb'.mono hBW)) (Nat.le_trans hBW hb'.size)).mono ?_
    rintro e w' ⟨⟨v', T', rfl, hf, hp⟩, hbw⟩
    rw [putIs_eq hl hr hp] at hf
    exact ⟨⟨v', rfl, hf.at⟩, hbw⟩
  · refine (vDrop_any (key := key) h hl hr hsm h9 W' (hb.trans (hb'.mono hBW)) (Nat.le_trans hBW hb'.size)).mono ?_
    rintro e w' ⟨⟨v', T', rfl, hf, hd⟩, hbw⟩
    exact ⟨⟨v', T', rfl, hf.at, dropIs_same hl hr hbt hd⟩, hbw⟩
theorem same_at {W v1 v2 T1 T2} (h : sameT T1 T2 = true) (h1 : Is W.heap.size W v1 T1) (h2 : Is W.heap.size W v2 T2) : Calls Tryz.prog 16 #[v1, v2] W fun e w' => e = .returned (.bool true) ∧ Below W.heap.size W w' := by
  have := same_any h1 v2 T2 W h2 (Below.refl _ _) (Nat.le_refl _)
  rw [h] at this
  exact this

theorem keep10 {w4 w1 w2 : World} {a0 a1 a2 a3 a4 a5 a6 a7 a8 a9 : Addr} {v0 v1 v2 v3 v4 v5 v6 v7 v8 v9 : Value} (h : Hid (Below w4.heap.size w4 w1) ∧ w1.cell? a0 = some v0 ∧ w1.cell? a1 = some v1 ∧ w1.cell? a2 = some v2 ∧ w1.cell? a3 = some v3 ∧ w1.cell? a4 = some v4 ∧ w1.cell? a5 = some v5 ∧ w1.cell? a6 = some v6 ∧ w1.cell? a7 = some v7 ∧ w1.cell? a8 = some v8 ∧ w1.cell? a9 = some v9) (hb : Below w1.heap.size w1 w2) :
    Hid (Below w4.heap.size w4 w2) ∧ w2.cell? a0 = some v0 ∧ w2.cell? a1 = some v1 ∧ w2.cell? a2 = some v2 ∧ w2.cell? a3 = some v3 ∧ w2.cell? a4 = some v4 ∧ w2.cell? a5 = some v5 ∧ w2.cell? a6 = some v6 ∧ w2.cell? a7 = some v7 ∧ w2.cell? a8 = some v8 ∧ w2.cell? a9 = some v9 := by
  obtain ⟨h0, q0, q1, q2, q3, q4, q5, q6, q7, q8, q9⟩ := h
  exact ⟨Lib.hid (h0.out.trans (hb.mono h0.out.size)), cells_keep hb q0, cells_keep hb q1, cells_keep hb q2, cells_keep hb q3, cells_keep hb q4, cells_keep hb q5, cells_keep hb q6, cells_keep hb q7, cells_keep hb q8, cells_keep hb q9⟩

set_option maxRecDepth 100000 in
set_option maxHeartbeats 8000000 in
theorem keysLaw_any {B : Nat} {w : World} {v x : Value} {T X : VT} (hv : Is B w v T) (key : ByteArray) (hx : Is B w x X) (W : World) (hb : Below B w W) (hBW : B ≤ W.heap.size) : Calls Tryz.prog 4 #[v, .string key, x] W fun e w' => e = .returned (.bool true) ∧ Below W.heap.size W w' := by
  have HAW := Lib.hid (fun W' => awake_any W')
  have G0 := Lib.hid (fun W' (hb' : Below W.heap.size W W') => rGood_any hv W' (hb.trans (hb'.mono hBW)) (Nat.le_trans hBW hb'.size))
  have G1 := Lib.hid (fun W' (hb' : Below W.heap.size W W') => rGood_any hx W' (hb.trans (hb'.mono hBW)) (Nat.le_trans hBW hb'.size))
  have HALL : Hid (goodT T = true → goodT X = true → ∃ TP TD, KeyAt TP TD key v x W) := Lib.hid (fun h0 h1 => keyAt_of hv hx h0 h1 W hb hBW)
  obtain ⟨k0, b0, t0, ad0, n0, cap0, adk0, nk0, capk0, rfl⟩ := hv.shape
  obtain ⟨k1, b1, t1, ad1, n1, cap1, adk1, nk1, capk1, rfl⟩ := hx.shape
  have HX0 := Lib.hid (Two.new W #[.int .i64 k0, .bool b0, .string t0, .slice ad0 n0 cap0, .slice adk0 nk0 capk0] #[.int .i64 k1, .bool b1, .string t1, .slice ad1 n1 cap1, .slice adk1 nk1 capk1])
  clear hv hx hb hBW
  generalize goodT T = g0 at G0 HALL
  generalize goodT X = g1 at G1 HALL
  go_enter Tryz.func4, Tryz.ntmps4
  go_wp2_with fail
  go_at_call 11; refine (HAW.out _).mono ?_; rintro e w1 ⟨rfl, hb⟩
  have HX1 := Lib.hid (HX0.out.next hb)
  clear hb HX0
  have c00 := HX1.out.2.1.cell 0
  have c01 := HX1.out.2.1.cell 1
  have c02 := HX1.out.2.1.cell 2
  have c03 := HX1.out.2.1.cell 3
  have c04 := HX1.out.2.1.cell 4
  have c10 := HX1.out.2.2.cell 0
  have c11 := HX1.out.2.2.cell 1
  have c12 := HX1.out.2.2.cell 2
  have c13 := HX1.out.2.2.cell 3
  have c14 := HX1.out.2.2.cell 4
  cases g0
  · go_wp2_with fail
    go_at_call 12; refine (G0.out _ HX1.out.1).mono ?_; rintro e w2 ⟨rfl, hb⟩
    go_wp2_with fail
    go_ret
    exact ⟨by first | rfl | simp, HX1.out.1.trans (hb.mono HX1.out.1.size)⟩
  · go_wp2_with fail
    go_at_call 12; refine (G0.out _ HX1.out.1).mono ?_; rintro e w2 ⟨rfl, hb⟩
    clear c00 c01 c02 c03 c04 c10 c11 c12 c13 c14
    have HX2 := Lib.hid (HX1.out.next hb)
    clear hb HX1
    have c00 := HX2.out.2.1.cell 0
    have c01 := HX2.out.2.1.cell 1
    have c02 := HX2.out.2.1.cell 2
    have c03 := HX2.out.2.1.cell 3
    have c04 := HX2.out.2.1.cell 4
    have c10 := HX2.out.2.2.cell 0
    have c11 := HX2.out.2.2.cell 1
    have c12 := HX2.out.2.2.cell 2
    have c13 := HX2.out.2.2.cell 3
    have c14 := HX2.out.2.2.cell 4
    cases g1
    · go_wp2_with fail
      go_at_call 12; refine (G1.out _ HX2.out.1).mono ?_; rintro e w3 ⟨rfl, hb⟩
      go_wp2_with fail
      go_ret
      exact ⟨by first | rfl | simp, HX2.out.1.trans (hb.mono HX2.out.1.size)⟩
    · obtain ⟨TP, TD, hka⟩ := HALL.out (by first | rfl | trivial) (by first | rfl | trivial)
      have HKA := Lib.hid hka
      clear hka HALL
      go_wp2_with fail
      go_at_call 12; refine (G1.out _ HX2.out.1).mono ?_; rintro e w3 ⟨rfl, hb⟩
      clear c00 c01 c02 c03 c04 c10 c11 c12 c13 c14
      have HX3 := Lib.hid (HX2.out.next hb)
      clear hb HX2 G0 G1 HAW
      have c00 := HX3.out.2.1.cell 0
      have c01 := HX3.out.2.1.cell 1
      have c02 := HX3.out.2.1.cell 2
      have c03 := HX3.out.2.1.cell 3
      have c04 := HX3.out.2.1.cell 4
      go_wp2_with fail
      go_at_call 17; refine (HKA.out.gv _ HX3.out.1).mono ?_; rintro e w4 ⟨⟨g, TG, ok, rfl, hig, hgr⟩, hb⟩
      obtain ⟨kg, bg, tg, adg, ng, capg, adkg, nkg, capkg, rfl⟩ := hig.shape
      have HGR := Lib.hid hgr
      have hbl := below_new w4 (.cells #[.int .i64 kg, .bool bg, .string tg, .slice adg ng capg, .slice adkg nkg capkg] 26)
      have HX4 := Lib.hid ((HX3.out.next hb).next hbl)
      have HG4 := Lib.hid ((hig.later hbl).wide hbl.size)
      have HBG := Lib.hid (Blk.new w4 #[.int .i64 kg, .bool bg, .string tg, .slice adg ng capg, .slice adkg nkg capkg] 26)
      clear hb HX3 hgr hig hbl c00 c01 c02 c03 c04
      have c00 := HX4.out.2.1.cell 0
      have c01 := HX4.out.2.1.cell 1
      have c02 := HX4.out.2.1.cell 2
      have c03 := HX4.out.2.1.cell 3
      have c04 := HX4.out.2.1.cell 4
      go_wp2_with fail
      go_at_call 18; refine (HGR.out _ HX4.out.1).mono ?_; rintro e w5 ⟨⟨g2, rfl, hig⟩, hb⟩
      obtain ⟨kh, bh, th, adh, nh, caph, adkh, nkh, capkh, rfl⟩ := hig.shape
      have hbl := below_new w5 (.cells #[.int .i64 kh, .bool bh, .string th, .slice adh nh caph, .slice adkh nkh capkh] 26)
      have hb5 := hb.trans (hbl.mono hb.size)
      have HX5 := Lib.hid (HX4.out.next hb5)
      have HG5 := Lib.hid ((HG4.out.later hb5).wide hb5.size)
      have HH5 := Lib.hid ((hig.later hbl).wide hbl.size)
      have HBG5 := Lib.hid (HBG.out.below hb5)
      have HBH5 := Lib.hid (Blk.new w5 #[.int .i64 kh, .bool bh, .string th, .slice adh nh caph, .slice adkh nkh capkh] 26)
      clear hb HX4 hig hbl hb5 c00 c01 c02 c03 c04 HG4 HBG HGR
      have g0 := HBG5.out.cell 0
      have g1 := HBG5.out.cell 1
      have g2 := HBG5.out.cell 2
      have g3 := HBG5.out.cell 3
      have g4 := HBG5.out.cell 4
      have h0 := HBH5.out.cell 0
      have h1 := HBH5.out.cell 1
      have h2 := HBH5.out.cell 2
      have h3 := HBH5.out.cell 3
      have h4 := HBH5.out.cell 4
      go_wp2_with fail
      go_at_call 16; refine (same_at (sameT_refl _) HG5.out HH5.out).mono ?_; rintro e w6 ⟨rfl, hb⟩
      have HX6 := Lib.hid (HX5.out.next hb)
      clear hb HX5 HG5 HH5 HBG5 HBH5 g0 g1 g2 g3 g4 h0 h1 h2 h3 h4
      have c00 := HX6.out.2.1.cell 0
      have c01 := HX6.out.2.1.cell 1
      have c02 := HX6.out.2.1.cell 2
      have c03 := HX6.out.2.1.cell 3
      have c04 := HX6.out.2.1.cell 4
      have c10 := HX6.out.2.2.cell 0
      have c11 := HX6.out.2.2.cell 1
      have c12 := HX6.out.2.2.cell 2
      have c13 := HX6.out.2.2.cell 3
      have c14 := HX6.out.2.2.cell 4
      go_wp2_with fail
      have HS0 : Hid (Below w6.heap.size w6 w6.drew) ∧ w6.drew.cell? ⟨W.heap.size, 0, none⟩ = some (.int .i64 k0) ∧ w6.drew.cell? ⟨W.heap.size, 1, none⟩ = some (.bool b0) ∧ w6.drew.cell? ⟨W.heap.size, 2, none⟩ = some (.string t0) ∧ w6.drew.cell? ⟨W.heap.size, 3, none⟩ = some (.slice ad0 n0 cap0) ∧ w6.drew.cell? ⟨W.heap.size, 4, none⟩ = some (.slice adk0 nk0 capk0) ∧ w6.drew.cell? ⟨W.heap.size + 1, 0, none⟩ = some (.int .i64 k1) ∧ w6.drew.cell? ⟨W.heap.size + 1, 1, none⟩ = some (.bool b1) ∧ w6.drew.cell? ⟨W.heap.size + 1, 2, none⟩ = some (.string t1) ∧ w6.drew.cell? ⟨W.heap.size + 1, 3, none⟩ = some (.slice ad1 n1 cap1) ∧ w6.drew.cell? ⟨W.heap.size + 1, 4, none⟩ = some (.slice adk1 nk1 capk1) := ⟨Lib.hid ⟨rfl, rfl, rfl, Nat.le_refl _, fun _ _ => rfl⟩, c00, c01, c02, c03, c04, c10, c11, c12, c13, c14⟩
      go_region_held3 (fun w' => Hid (Below w6.heap.size w6 w') ∧ w'.cell? ⟨W.heap.size, 0, none⟩ = some (.int .i64 k0) ∧ w'.cell? ⟨W.heap.size, 1, none⟩ = some (.bool b0) ∧ w'.cell? ⟨W.heap.size, 2, none⟩ = some (.string t0) ∧ w'.cell? ⟨W.heap.size, 3, none⟩ = some (.slice ad0 n0 cap0) ∧ w'.cell? ⟨W.heap.size, 4, none⟩ = some (.slice adk0 nk0 capk0) ∧ w'.cell? ⟨W.heap.size + 1, 0, none⟩ = some (.int .i64 k1) ∧ w'.cell? ⟨W.heap.size + 1, 1, none⟩ = some (.bool b1) ∧ w'.cell? ⟨W.heap.size + 1, 2, none⟩ = some (.string t1) ∧ w'.cell? ⟨W.heap.size + 1, 3, none⟩ = some (.slice ad1 n1 cap1) ∧ w'.cell? ⟨W.heap.size + 1, 4, none⟩ = some (.slice adk1 nk1 capk1))
        (first | exact keep10 (by assumption) (by assumption) | exact HS0 | go_keep)
        (first
          | (go_at_call 19; refine (HKA.out.pv _ (by have := ‹Hid (Below w6.heap.size w6 _) ∧ _›.1.out; exact HX6.out.1.trans (this.mono HX6.out.1.size))).mono ?_; rintro e w7 ⟨⟨v7, rfl, hi7⟩, hb7⟩)
          | (go_at_call 20; refine (HKA.out.pr _ (by have := ‹Hid (Below w6.heap.size w6 _) ∧ _›.1.out; exact HX6.out.1.trans (this.mono HX6.out.1.size))).mono ?_; rintro e w8 ⟨⟨v8, rfl, hi8⟩, hb8⟩)
          | (go_at_call 21; refine (HKA.out.dv _ (by have := ‹Hid (Below w6.heap.size w6 _) ∧ _›.1.out; exact HX6.out.1.trans (this.mono HX6.out.1.size))).mono ?_; rintro e wa ⟨⟨va, Ta, rfl, hia, hsa⟩, hba⟩)
          | (go_at_call 22; refine (HKA.out.dr _ (by have := ‹Hid (Below w6.heap.size w6 _) ∧ _›.1.out; exact HX6.out.1.trans (this.mono HX6.out.1.size))).mono ?_; rintro e wb ⟨⟨vb, rfl, hib⟩, hbb⟩)
          | (go_at_call 16; refine (same_at hsa ((hia.later hbb).wide hbb.size) hib).mono ?_; rintro e wc ⟨rfl, hbc⟩)
          | (go_at_call 16; refine (same_at (sameT_refl _) ((hi7.later hb8).wide hb8.size) hi8).mono ?_; rintro e w9 ⟨rfl, hb9⟩))
      all_goals
        go_wp2_with fail
        go_ret
        rename_i hS
        refine ⟨?_, HX6.out.1.trans (hS.1.out.mono HX6.out.1.size)⟩
        simp
end Go.Proofs.YtjgbhnbfojkhoaaGreatDoor
namespace Go.Proofs.YtjgbhnbfojkhoaaGreatDoor
open Go.ChangeShapes Go.WideShapes Go.ChangeAt Go.WideMaps Go.WideElems Go.RowKit

/-- The table of powers of ten stands, now and wherever nothing below B turned. -/
def Tab (B : Nat) (w : World) : Prop := Lib.TabBelow Tryz.prog B w "internal/strconv.uint64pow10" .u64 Lib.pow10Tab
theorem Tab.here {B : Nat} {w : World} (h : Tab B w) : Lib.TabIs Tryz.prog w "internal/strconv.uint64pow10" .u64 Lib.pow10Tab := Lib.TabBelow.here h
theorem Tab.mono {B B' : Nat} {w : World} (h : Tab B w) (hB : B ≤ B') : Tab B' w := fun w' hb => h w' (hb.mono hB)
theorem Tab.below {B B' : Nat} {w w' : World} (h : Tab B w) (hb : Below B' w w') (hB : B ≤ B') : Tab B w' := Lib.TabBelow.on h (hb.mono hB)
/-- The three tables that the rows list. -/
def laid3 : List (String × DataW Unit) := [("math/bits.deBruijn32tab", Rows.laid_math_bits_deBruijn32tab), ("math/bits.deBruijn64tab", Rows.laid_math_bits_deBruijn64tab), ("internal/strconv.uint64pow10", Rows.laid_internal_strconv_uint64pow10)]
theorem own : ownKnob Tryz.prog.godebug = none := by kernel_rfl
theorem gPow : Tryz.prog.globalNamed "internal/strconv.uint64pow10" = some 3 := by kernel_rfl

set_option maxRecDepth 100000 in
theorem door_met (os : Os) (args : Array Value) : laidMetH Tryz.prog laid3 ((World.doorLaid Tryz.prog 400 os).forCall (fun _ _ => 0) ⟨#[], args, []⟩).memory :=
  laidMetH_of_parts3 (fuel := 8) (laidMet_of_run' 8 (by kernel_rfl) (by kernel_rfl)) (by kernel_rfl) (by kernel_rfl)

theorem tyPow : (Tryz.prog.globals[ 3 ]?).map (·.type) = some 198 := by kernel_rfl

theorem tab_of_laid {W : World} (h : laidMetH Tryz.prog laid3 W) : Tab W.heap.size W := by
  rw [MakeChecks.laidMetH_plain _ _ _ (by kernel_rfl)] at h
  obtain ⟨ps, ⟨g0, t0, cs0, f0, p0, q0, hg0, ht0, hv0, hd0, ⟨g1, t1, cs1, f1, p1, q1, hg1, ht1, hv1, hd1, ⟨g2, t2, cs2, f2, p2, q2, hg2, ht2, hv2, hd2, _, _⟩, _⟩, _⟩, _⟩ := h
  obtain rfl := Option.some.inj (gPow.symm.trans hg2)
  obtain rfl := Option.some.inj (tyPow.symm.trans ht2)
  refine Lib.tabBelow_of_tabIs ?_
  unfold Lib.TabIs
  rw [hv2, ← Lib.cells_of_tab (n := 20) (e := 152) (k := .u64) (zs := Lib.pow10Tab) Tryz.underlying198 Tryz.underlying152 (by kernel_rfl) (by kernel_rfl) hd2]

end Go.Proofs.YtjgbhnbfojkhoaaGreatDoor
