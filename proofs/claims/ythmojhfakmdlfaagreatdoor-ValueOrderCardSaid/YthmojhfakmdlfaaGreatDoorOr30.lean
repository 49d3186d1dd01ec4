/- ValueOrder: its walk -/
import Derived.Test.YthmojhfakmdlfaaGreatDoorOr24
import Derived.Test.YthmojhfakmdlfaaGreatDoorOr28
import Derived.Test.YthmojhfakmdlfaaGreatDoorOr29
namespace Go.Proofs.YthmojhfakmdlfaaGreatDoor
open Go.RowKit
set_option linter.unusedVariables false

/-- Three values stand boxed at the head of what is new. -/
def Three (W w : World) (A B C : Array Value) : Prop := Below W.heap.size W w ∧ Blk w W.heap.size A 26 ∧ Blk w (W.heap.size + 1) B 26 ∧ Blk w (W.heap.size + 2) C 26
theorem Three.next {W w w' : World} {A B C : Array Value} (h : Three W w A B C) (hb : Below w.heap.size w w') : Three W w' A B C := ⟨h.1.trans (hb.mono h.1.size), h.2.1.below hb, h.2.2.1.below hb, h.2.2.2.below hb⟩
theorem Three.new (W : World) (A B C : Array Value) : Three W (((W.alloc (.cells A 26)).alloc (.cells B 26)).alloc (.cells C 26)) A B C := by
  have h1 := below_new0 W (.cells A 26)
  have h2 := h1.alloc h1.size (.cells B 26)
  have h3 := h2.alloc h2.size (.cells C 26)
  refine ⟨h3, ((Blk.new W A 26).alloc _).alloc _, ?_, ?_⟩
  · have := (Blk.new (W.alloc (.cells A 26)) B 26).alloc (.cells C 26)
    simpa using this
  · have := Blk.new ((W.alloc (.cells A 26)).alloc (.cells B 26)) C 26
    simpa using this
mutual
theorem cmpT_range : ∀ a b : VT, -1 ≤ cmpT a b ∧ cmpT a b ≤ 1
  | .node k b t its ks, .node k' b' t' its' ks' => by
    have h1 := cmpL_range its its'
    have h2 := cmpKs_range ks ks'
    have h3 := bytes_range t.data.toList t'.data.toList
    unfold cmpT cmpB cmpS sgnI
    repeat' split <;> omega
theorem cmpL_range : ∀ l m : List VT, -1 ≤ cmpL l m ∧ cmpL l m ≤ 1
  | [], [] => by simp [cmpL]
  | [], _ :: _ => by simp [cmpL]
  | _ :: _, [] => by simp [cmpL]
  | x :: l, y :: m => by
    have h1 := cmpL_range l m
    have h2 := cmpT_range x y
    unfold cmpL
    split <;> omega
end

set_option maxRecDepth 100000 in
set_option maxHeartbeats 8000000 in
theorem orderLaw_any {B : Nat} {w : World} {u v x : Value} {T U X : VT} (hu : Is B w u T) (hv : Is B w v U) (hx : Is B w x X) (W : World) (hb : Below B w W) (hBW : B ≤ W.heap.size) : Calls Tryz.prog 3 #[u, v, x] W fun e w' => e = .returned (.bool true) ∧ Below W.heap.size W w' := by
  have HAW := Lib.hid (fun W' => awake_any W')
  have G0 := Lib.hid (fun W' (hb' : Below W.heap.size W W') => rGood_any hu W' (hb.trans (hb'.mono hBW)) (Nat.le_trans hBW hb'.size))
  have G1 := Lib.hid (fun W' (hb' : Below W.heap.size W W') => rGood_any hv W' (hb.trans (hb'.mono hBW)) (Nat.le_trans hBW hb'.size))
  have G2 := Lib.hid (fun W' (hb' : Below W.heap.size W W') => rGood_any hx W' (hb.trans (hb'.mono hBW)) (Nat.le_trans hBW hb'.size))
  have HALL : Hid (goodT T = true → goodT U = true → goodT X = true →
      (∀ W', Below W.heap.size W W' → Calls Tryz.prog 13 #[u, v] W' fun e w' => e = .returned (.int .i64 (cmpT T U)) ∧ Below W'.heap.size W' w') ∧
      (∀ W', Below W.heap.size W W' → Calls Tryz.prog 13 #[v, u] W' fun e w' => e = .returned (.int .i64 (- cmpT T U)) ∧ Below W'.heap.size W' w') ∧
      (∀ W', Below W.heap.size W W' → Calls Tryz.prog 13 #[v, x] W' fun e w' => e = .returned (.int .i64 (cmpT U X)) ∧ Below W'.heap.size W' w') ∧
      (∀ W', Below W.heap.size W W' → Calls Tryz.prog 13 #[u, x] W' fun e w' => e = .returned (.int .i64 (cmpT T X)) ∧ Below W'.heap.size W' w') ∧
      (∀ W', Below W.heap.size W W' → Calls Tryz.prog 14 #[u, v] W' fun e w' => e = .returned (.int .i64 (cmpT T U)) ∧ Below W'.heap.size W' w') ∧
      (∀ W', Below W.heap.size W W' → Calls Tryz.prog 15 #[u, v] W' fun e w' => e = .returned (.bool (cmpT T U == 0)) ∧ Below W'.heap.size W' w') ∧
      (∀ W', Below W.heap.size W W' → Calls Tryz.prog 16 #[u, v] W' fun e w' => e = .returned (.bool (cmpT T U == 0)) ∧ Below W'.heap.size W' w') ∧
      (-1 ≤ cmpT T U ∧ cmpT T U ≤ 1) ∧ Thru (cmpT T U) (cmpT U X) (cmpT T X)) := Lib.hid (fun h0 h1 h2 => by
    have p0 := (goodT_parts h0).2.2
    have p1 := (goodT_parts h1).2.2
    have p2 := (goodT_parts h2).2.2
    refine ⟨fun W' hb' => vCmp_any hu p0 _ _ W' hv p1 (hb.trans (hb'.mono hBW)) (Nat.le_trans hBW hb'.size), fun W' hb' => ?_, fun W' hb' => vCmp_any hv p1 _ _ W' hx p2 (hb.trans (hb'.mono hBW)) (Nat.le_trans hBW hb'.size), fun W' hb' => vCmp_any hu p0 _ _ W' hx p2 (hb.trans (hb'.mono hBW)) (Nat.le_trans hBW hb'.size), fun W' hb' => rCmp_any hu p0 _ _ W' hv p1 (hb.trans (hb'.mono hBW)) (Nat.le_trans hBW hb'.size), fun W' hb' => vEqual_any hu p0 hv p1 W' (hb.trans (hb'.mono hBW)) (Nat.le_trans hBW hb'.size), fun W' hb' => ?_, cmpT_range _ _, cmpT_thru _ _ _⟩
    · rw [← cmpT_anti T U]
      exact vCmp_any hv p1 _ _ W' hu p0 (hb.trans (hb'.mono hBW)) (Nat.le_trans hBW hb'.size)
    · have e : (cmpT T U == 0) = sameT T U := by
        rw [Bool.eq_iff_iff, beq_iff_eq]; exact cmpT_zero T U p0 p1
      rw [e]
      exact same_any hu v U W' hv (hb.trans (hb'.mono hBW)) (Nat.le_trans hBW hb'.size))
  obtain ⟨k0, b0, t0, ad0, n0, cap0, adk0, nk0, capk0, rfl⟩ := hu.shape
  obtain ⟨k1, b1, t1, ad1, n1, cap1, adk1, nk1, capk1, rfl⟩ := hv.shape
  obtain ⟨k2, b2, t2, ad2, n2, cap2, adk2, nk2, capk2, rfl⟩ := hx.shape
  have HX0 : Hid (Three W (((W.alloc (.cells #[.int .i64 k0, .bool b0, .string t0, .slice ad0 n0 cap0, .slice adk0 nk0 capk0] 26)).alloc (.cells #[.int .i64 k1, .bool b1, .string t1, .slice ad1 n1 cap1, .slice adk1 nk1 capk1] 26)).alloc (.cells #[.int .i64 k2, .bool b2, .string t2, .slice ad2 n2 cap2, .slice adk2 nk2 capk2] 26)) #[.int .i64 k0, .bool b0, .string t0, .slice ad0 n0 cap0, .slice adk0 nk0 capk0] #[.int .i64 k1, .bool b1, .string t1, .slice ad1 n1 cap1, .slice adk1 nk1 capk1] #[.int .i64 k2, .bool b2, .string t2, .slice ad2 n2 cap2, .slice adk2 nk2 capk2]) := Lib.hid (Three.new W _ _ _)
  clear hu hv hx hb hBW
  generalize goodT T = g0 at G0 HALL
  generalize goodT U = g1 at G1 HALL
  generalize goodT X = g2 at G2 HALL
  generalize cmpT T U = p at HALL
  generalize cmpT U X = q at HALL
  generalize cmpT T X = r at HALL
  go_enter Tryz.func3, Tryz.ntmps3
  go_wp2_with fail
  go_at_call 11; refine (HAW.out _).mono ?_; rintro e w1 ⟨rfl, hb⟩
  have HX1 := Lib.hid (HX0.out.next hb)
  clear hb HX0
  have c00 := HX1.out.2.1.cell 0
  have c01 := HX1.out.2.1.cell 1
  have c02 := HX1.out.2.1.cell 2
  have c03 := HX1.out.2.1.cell 3
  have c04 := HX1.out.2.1.cell 4
  have c10 := HX1.out.2.2.1.cell 0
  have c11 := HX1.out.2.2.1.cell 1
  have c12 := HX1.out.2.2.1.cell 2
  have c13 := HX1.out.2.2.1.cell 3
  have c14 := HX1.out.2.2.1.cell 4
  have c20 := HX1.out.2.2.2.cell 0
  have c21 := HX1.out.2.2.2.cell 1
  have c22 := HX1.out.2.2.2.cell 2
  have c23 := HX1.out.2.2.2.cell 3
  have c24 := HX1.out.2.2.2.cell 4
  cases g0
  · go_wp2_with fail
    go_at_call 12; refine (G0.out _ HX1.out.1).mono ?_; rintro e w2 ⟨rfl, hb⟩
    clear c00 c01 c02 c03 c04 c10 c11 c12 c13 c14 c20 c21 c22 c23 c24
    have HX2 := Lib.hid (HX1.out.next hb)
    clear hb HX1
    have c00 := HX2.out.2.1.cell 0
    have c01 := HX2.out.2.1.cell 1
    have c02 := HX2.out.2.1.cell 2
    have c03 := HX2.out.2.1.cell 3
    have c04 := HX2.out.2.1.cell 4
    have c10 := HX2.out.2.2.1.cell 0
    have c11 := HX2.out.2.2.1.cell 1
    have c12 := HX2.out.2.2.1.cell 2
    have c13 := HX2.out.2.2.1.cell 3
    have c14 := HX2.out.2.2.1.cell 4
    have c20 := HX2.out.2.2.2.cell 0
    have c21 := HX2.out.2.2.2.cell 1
    have c22 := HX2.out.2.2.2.cell 2
    have c23 := HX2.out.2.2.2.cell 3
    have c24 := HX2.out.2.2.2.cell 4
    go_wp2_with fail
    go_ret
    exact ⟨by first | rfl | simp, HX2.out.1⟩
  · go_wp2_with fail
    go_at_call 12; refine (G0.out _ HX1.out.1).mono ?_; rintro e w2 ⟨rfl, hb⟩
    clear c00 c01 c02 c03 c04 c10 c11 c12 c13 c14 c20 c21 c22 c23 c24
    have HX2 := Lib.hid (HX1.out.next hb)
    clear hb HX1
    have c00 := HX2.out.2.1.cell 0
    have c01 := HX2.out.2.1.cell 1
    have c02 := HX2.out.2.1.cell 2
    have c03 := HX2.out.2.1.cell 3
    have c04 := HX2.out.2.1.cell 4
    have c10 := HX2.out.2.2.1.cell 0
    have c11 := HX2.out.2.2.1.cell 1
    have c12 := HX2.out.2.2.1.cell 2
    have c13 := HX2.out.2.2.1.cell 3
    have c14 := HX2.out.2.2.1.cell 4
    have c20 := HX2.out.2.2.2.cell 0
    have c21 := HX2.out.2.2.2.cell 1
    have c22 := HX2.out.2.2.2.cell 2
    have c23 := HX2.out.2.2.2.cell 3
    have c24 := HX2.out.2.2.2.cell 4
    cases g1
    · go_wp2_with fail
      go_at_call 12; refine (G1.out _ HX2.out.1).mono ?_; rintro e w3 ⟨rfl, hb⟩
      clear c00 c01 c02 c03 c04 c10 c11 c12 c13 c14 c20 c21 c22 c23 c24
      have HX3 := Lib.hid (HX2.out.next hb)
      clear hb HX2
      have c00 := HX3.out.2.1.cell 0
      have c01 := HX3.out.2.1.cell 1
      have c02 := HX3.out.2.1.cell 2
      have c03 := HX3.out.2.1.cell 3
      have c04 := HX3.out.2.1.cell 4
      have c10 := HX3.out.2.2.1.cell 0
      have c11 := HX3.out.2.2.1.cell 1
      have c12 := HX3.out.2.2.1.cell 2
      have c13 := HX3.out.2.2.1.cell 3
      have c14 := HX3.out.2.2.1.cell 4
      have c20 := HX3.out.2.2.2.cell 0
      have c21 := HX3.out.2.2.2.cell 1
      have c22 := HX3.out.2.2.2.cell 2
      have c23 := HX3.out.2.2.2.cell 3
      have c24 := HX3.out.2.2.2.cell 4
      go_wp2_with fail
      go_ret
      exact ⟨by first | rfl | simp, HX3.out.1⟩
    · go_wp2_with fail
      go_at_call 12; refine (G1.out _ HX2.out.1).mono ?_; rintro e w3 ⟨rfl, hb⟩
      clear c00 c01 c02 c03 c04 c10 c11 c12 c13 c14 c20 c21 c22 c23 c24
      have HX3 := Lib.hid (HX2.out.next hb)
      clear hb HX2
      have c00 := HX3.out.2.1.cell 0
      have c01 := HX3.out.2.1.cell 1
      have c02 := HX3.out.2.1.cell 2
      have c03 := HX3.out.2.1.cell 3
      have c04 := HX3.out.2.1.cell 4
      have c10 := HX3.out.2.2.1.cell 0
      have c11 := HX3.out.2.2.1.cell 1
      have c12 := HX3.out.2.2.1.cell 2
      have c13 := HX3.out.2.2.1.cell 3
      have c14 := HX3.out.2.2.1.cell 4
      have c20 := HX3.out.2.2.2.cell 0
      have c21 := HX3.out.2.2.2.cell 1
      have c22 := HX3.out.2.2.2.cell 2
      have c23 := HX3.out.2.2.2.cell 3
      have c24 := HX3.out.2.2.2.cell 4
      cases g2
      · go_wp2_with fail
        go_at_call 12; refine (G2.out _ HX3.out.1).mono ?_; rintro e w4 ⟨rfl, hb⟩
        clear c00 c01 c02 c03 c04 c10 c11 c12 c13 c14 c20 c21 c22 c23 c24
        have HX4 := Lib.hid (HX3.out.next hb)
        clear hb HX3
        have c00 := HX4.out.2.1.cell 0
        have c01 := HX4.out.2.1.cell 1
        have c02 := HX4.out.2.1.cell 2
        have c03 := HX4.out.2.1.cell 3
        have c04 := HX4.out.2.1.cell 4
        have c10 := HX4.out.2.2.1.cell 0
        have c11 := HX4.out.2.2.1.cell 1
        have c12 := HX4.out.2.2.1.cell 2
        have c13 := HX4.out.2.2.1.cell 3
        have c14 := HX4.out.2.2.1.cell 4
        have c20 := HX4.out.2.2.2.cell 0
        have c21 := HX4.out.2.2.2.cell 1
        have c22 := HX4.out.2.2.2.cell 2
        have c23 := HX4.out.2.2.2.cell 3
        have c24 := HX4.out.2.2.2.cell 4
        go_wp2_with fail
        go_ret
        exact ⟨by first | rfl | simp, HX4.out.1⟩
      · go_wp2_with fail
        go_at_call 12; refine (G2.out _ HX3.out.1).mono ?_; rintro e w4 ⟨rfl, hb⟩
        clear c00 c01 c02 c03 c04 c10 c11 c12 c13 c14 c20 c21 c22 c23 c24
        have HX4 := Lib.hid (HX3.out.next hb)
        clear hb HX3
        have c00 := HX4.out.2.1.cell 0
        have c01 := HX4.out.2.1.cell 1
        have c02 := HX4.out.2.1.cell 2
        have c03 := HX4.out.2.1.cell 3
        have c04 := HX4.out.2.1.cell 4
        have c10 := HX4.out.2.2.1.cell 0
        have c11 := HX4.out.2.2.1.cell 1
        have c12 := HX4.out.2.2.1.cell 2
        have c13 := HX4.out.2.2.1.cell 3
        have c14 := HX4.out.2.2.1.cell 4
        have c20 := HX4.out.2.2.2.cell 0
        have c21 := HX4.out.2.2.2.cell 1
        have c22 := HX4.out.2.2.2.cell 2
        have c23 := HX4.out.2.2.2.cell 3
        have c24 := HX4.out.2.2.2.cell 4
        obtain ⟨h1, h2, h3, h4, h5, h6, h7, ⟨hr1, hr2⟩, hT⟩ := HALL.out (by first | rfl | trivial) (by first | rfl | trivial) (by first | rfl | trivial)
        have C1 := Lib.hid h1
        have C2 := Lib.hid h2
        have C3 := Lib.hid h3
        have C4 := Lib.hid h4
        have C5 := Lib.hid h5
        have C6 := Lib.hid h6
        have C7 := Lib.hid h7
        have HT := Lib.hid hT
        clear h1 h2 h3 h4 h5 h6 h7 hT HALL G0 G1 G2 HAW
        rcases (show p = -1 ∨ p = 0 ∨ p = 1 by omega) with rfl | rfl | rfl
        · clear hr1 hr2
          go_wp2_with fail
          go_at_call 13; refine (C1.out _ HX4.out.1).mono ?_; rintro e w5 ⟨rfl, hb⟩
          clear c00 c01 c02 c03 c04 c10 c11 c12 c13 c14 c20 c21 c22 c23 c24
          have HX5 := Lib.hid (HX4.out.next hb)
          clear hb HX4
          have c00 := HX5.out.2.1.cell 0
          have c01 := HX5.out.2.1.cell 1
          have c02 := HX5.out.2.1.cell 2
          have c03 := HX5.out.2.1.cell 3
          have c04 := HX5.out.2.1.cell 4
          have c10 := HX5.out.2.2.1.cell 0
          have c11 := HX5.out.2.2.1.cell 1
          have c12 := HX5.out.2.2.1.cell 2
          have c13 := HX5.out.2.2.1.cell 3
          have c14 := HX5.out.2.2.1.cell 4
          have c20 := HX5.out.2.2.2.cell 0
          have c21 := HX5.out.2.2.2.cell 1
          have c22 := HX5.out.2.2.2.cell 2
          have c23 := HX5.out.2.2.2.cell 3
          have c24 := HX5.out.2.2.2.cell 4
          go_wp2_with fail
          go_at_call 14; refine (C5.out _ HX5.out.1).mono ?_; rintro e w6 ⟨rfl, hb⟩
          clear c00 c01 c02 c03 c04 c10 c11 c12 c13 c14 c20 c21 c22 c23 c24
          have HX6 := Lib.hid (HX5.out.next hb)
          clear hb HX5
          have c00 := HX6.out.2.1.cell 0
          have c01 := HX6.out.2.1.cell 1
          have c02 := HX6.out.2.1.cell 2
          have c03 := HX6.out.2.1.cell 3
          have c04 := HX6.out.2.1.cell 4
          have c10 := HX6.out.2.2.1.cell 0
          have c11 := HX6.out.2.2.1.cell 1
          have c12 := HX6.out.2.2.1.cell 2
          have c13 := HX6.out.2.2.1.cell 3
          have c14 := HX6.out.2.2.1.cell 4
          have c20 := HX6.out.2.2.2.cell 0
          have c21 := HX6.out.2.2.2.cell 1
          have c22 := HX6.out.2.2.2.cell 2
          have c23 := HX6.out.2.2.2.cell 3
          have c24 := HX6.out.2.2.2.cell 4
          go_wp2_with fail
          go_at_call 13; refine (C2.out _ HX6.out.1).mono ?_; rintro e w7 ⟨rfl, hb⟩
          clear c00 c01 c02 c03 c04 c10 c11 c12 c13 c14 c20 c21 c22 c23 c24
          have HX7 := Lib.hid (HX6.out.next hb)
          clear hb HX6
          have c00 := HX7.out.2.1.cell 0
          have c01 := HX7.out.2.1.cell 1
          have c02 := HX7.out.2.1.cell 2
          have c03 := HX7.out.2.1.cell 3
          have c04 := HX7.out.2.1.cell 4
          have c10 := HX7.out.2.2.1.cell 0
          have c11 := HX7.out.2.2.1.cell 1
          have c12 := HX7.out.2.2.1.cell 2
          have c13 := HX7.out.2.2.1.cell 3
          have c14 := HX7.out.2.2.1.cell 4
          have c20 := HX7.out.2.2.2.cell 0
          have c21 := HX7.out.2.2.2.cell 1
          have c22 := HX7.out.2.2.2.cell 2
          have c23 := HX7.out.2.2.2.cell 3
          have c24 := HX7.out.2.2.2.cell 4
          go_wp2_with fail
          go_at_call 15; refine (C6.out _ HX7.out.1).mono ?_; rintro e w8 ⟨rfl, hb⟩
          clear c00 c01 c02 c03 c04 c10 c11 c12 c13 c14 c20 c21 c22 c23 c24
          have HX8 := Lib.hid (HX7.out.next hb)
          clear hb HX7
          have c00 := HX8.out.2.1.cell 0
          have c01 := HX8.out.2.1.cell 1
          have c02 := HX8.out.2.1.cell 2
          have c03 := HX8.out.2.1.cell 3
          have c04 := HX8.out.2.1.cell 4
          have c10 := HX8.out.2.2.1.cell 0
          have c11 := HX8.out.2.2.1.cell 1
          have c12 := HX8.out.2.2.1.cell 2
          have c13 := HX8.out.2.2.1.cell 3
          have c14 := HX8.out.2.2.1.cell 4
          have c20 := HX8.out.2.2.2.cell 0
          have c21 := HX8.out.2.2.2.cell 1
          have c22 := HX8.out.2.2.2.cell 2
          have c23 := HX8.out.2.2.2.cell 3
          have c24 := HX8.out.2.2.2.cell 4
          go_wp2_with fail
          go_at_call 16; refine (C7.out _ HX8.out.1).mono ?_; rintro e w9 ⟨rfl, hb⟩
          clear c00 c01 c02 c03 c04 c10 c11 c12 c13 c14 c20 c21 c22 c23 c24
          have HX9 := Lib.hid (HX8.out.next hb)
          clear hb HX8
          have c00 := HX9.out.2.1.cell 0
          have c01 := HX9.out.2.1.cell 1
          have c02 := HX9.out.2.1.cell 2
          have c03 := HX9.out.2.1.cell 3
          have c04 := HX9.out.2.1.cell 4
          have c10 := HX9.out.2.2.1.cell 0
          have c11 := HX9.out.2.2.1.cell 1
          have c12 := HX9.out.2.2.1.cell 2
          have c13 := HX9.out.2.2.1.cell 3
          have c14 := HX9.out.2.2.1.cell 4
          have c20 := HX9.out.2.2.2.cell 0
          have c21 := HX9.out.2.2.2.cell 1
          have c22 := HX9.out.2.2.2.cell 2
          have c23 := HX9.out.2.2.2.cell 3
          have c24 := HX9.out.2.2.2.cell 4
          by_cases hq : 0 < q
          · go_wp2_with fail
            go_at_call 13; refine (C3.out _ HX9.out.1).mono ?_; rintro e w10 ⟨rfl, hb⟩
            clear c00 c01 c02 c03 c04 c10 c11 c12 c13 c14 c20 c21 c22 c23 c24
            have HX10 := Lib.hid (HX9.out.next hb)
            clear hb HX9
            have c00 := HX10.out.2.1.cell 0
            have c01 := HX10.out.2.1.cell 1
            have c02 := HX10.out.2.1.cell 2
            have c03 := HX10.out.2.1.cell 3
            have c04 := HX10.out.2.1.cell 4
            have c10 := HX10.out.2.2.1.cell 0
            have c11 := HX10.out.2.2.1.cell 1
            have c12 := HX10.out.2.2.1.cell 2
            have c13 := HX10.out.2.2.1.cell 3
            have c14 := HX10.out.2.2.1.cell 4
            have c20 := HX10.out.2.2.2.cell 0
            have c21 := HX10.out.2.2.2.cell 1
            have c22 := HX10.out.2.2.2.cell 2
            have c23 := HX10.out.2.2.2.cell 3
            have c24 := HX10.out.2.2.2.cell 4
            go_wp2_with fail
            go_ret
            exact ⟨by first | rfl | simp, HX10.out.1⟩
          · have hr : r ≤ 0 := (HT.out.1 (by omega) (by omega)).1
            go_wp2_with fail
            go_at_call 13; refine (C3.out _ HX9.out.1).mono ?_; rintro e w10 ⟨rfl, hb⟩
            clear c00 c01 c02 c03 c04 c10 c11 c12 c13 c14 c20 c21 c22 c23 c24
            have HX10 := Lib.hid (HX9.out.next hb)
            clear hb HX9
            have c00 := HX10.out.2.1.cell 0
            have c01 := HX10.out.2.1.cell 1
            have c02 := HX10.out.2.1.cell 2
            have c03 := HX10.out.2.1.cell 3
            have c04 := HX10.out.2.1.cell 4
            have c10 := HX10.out.2.2.1.cell 0
            have c11 := HX10.out.2.2.1.cell 1
            have c12 := HX10.out.2.2.1.cell 2
            have c13 := HX10.out.2.2.1.cell 3
            have c14 := HX10.out.2.2.1.cell 4
            have c20 := HX10.out.2.2.2.cell 0
            have c21 := HX10.out.2.2.2.cell 1
            have c22 := HX10.out.2.2.2.cell 2
            have c23 := HX10.out.2.2.2.cell 3
            have c24 := HX10.out.2.2.2.cell 4
            go_wp2_with fail
            go_at_call 13; refine (C4.out _ HX10.out.1).mono ?_; rintro e w11 ⟨rfl, hb⟩
            clear c00 c01 c02 c03 c04 c10 c11 c12 c13 c14 c20 c21 c22 c23 c24
            have HX11 := Lib.hid (HX10.out.next hb)
            clear hb HX10
            have c00 := HX11.out.2.1.cell 0
            have c01 := HX11.out.2.1.cell 1
            have c02 := HX11.out.2.1.cell 2
            have c03 := HX11.out.2.1.cell 3
            have c04 := HX11.out.2.1.cell 4
            have c10 := HX11.out.2.2.1.cell 0
            have c11 := HX11.out.2.2.1.cell 1
            have c12 := HX11.out.2.2.1.cell 2
            have c13 := HX11.out.2.2.1.cell 3
            have c14 := HX11.out.2.2.1.cell 4
            have c20 := HX11.out.2.2.2.cell 0
            have c21 := HX11.out.2.2.2.cell 1
            have c22 := HX11.out.2.2.2.cell 2
            have c23 := HX11.out.2.2.2.cell 3
            have c24 := HX11.out.2.2.2.cell 4
            go_wp2_with fail
            go_ret
            exact ⟨by first | rfl | simp, HX11.out.1⟩
        · clear hr1 hr2
          go_wp2_with fail
          go_at_call 13; refine (C1.out _ HX4.out.1).mono ?_; rintro e w5 ⟨rfl, hb⟩
          clear c00 c01 c02 c03 c04 c10 c11 c12 c13 c14 c20 c21 c22 c23 c24
          have HX5 := Lib.hid (HX4.out.next hb)
          clear hb HX4
          have c00 := HX5.out.2.1.cell 0
          have c01 := HX5.out.2.1.cell 1
          have c02 := HX5.out.2.1.cell 2
          have c03 := HX5.out.2.1.cell 3
          have c04 := HX5.out.2.1.cell 4
          have c10 := HX5.out.2.2.1.cell 0
          have c11 := HX5.out.2.2.1.cell 1
          have c12 := HX5.out.2.2.1.cell 2
          have c13 := HX5.out.2.2.1.cell 3
          have c14 := HX5.out.2.2.1.cell 4
          have c20 := HX5.out.2.2.2.cell 0
          have c21 := HX5.out.2.2.2.cell 1
          have c22 := HX5.out.2.2.2.cell 2
          have c23 := HX5.out.2.2.2.cell 3
          have c24 := HX5.out.2.2.2.cell 4
          go_wp2_with fail
          go_at_call 14; refine (C5.out _ HX5.out.1).mono ?_; rintro e w6 ⟨rfl, hb⟩
          clear c00 c01 c02 c03 c04 c10 c11 c12 c13 c14 c20 c21 c22 c23 c24
          have HX6 := Lib.hid (HX5.out.next hb)
          clear hb HX5
          have c00 := HX6.out.2.1.cell 0
          have c01 := HX6.out.2.1.cell 1
          have c02 := HX6.out.2.1.cell 2
          have c03 := HX6.out.2.1.cell 3
          have c04 := HX6.out.2.1.cell 4
          have c10 := HX6.out.2.2.1.cell 0
          have c11 := HX6.out.2.2.1.cell 1
          have c12 := HX6.out.2.2.1.cell 2
          have c13 := HX6.out.2.2.1.cell 3
          have c14 := HX6.out.2.2.1.cell 4
          have c20 := HX6.out.2.2.2.cell 0
          have c21 := HX6.out.2.2.2.cell 1
          have c22 := HX6.out.2.2.2.cell 2
          have c23 := HX6.out.2.2.2.cell 3
          have c24 := HX6.out.2.2.2.cell 4
          go_wp2_with fail
          go_at_call 13; refine (C2.out _ HX6.out.1).mono ?_; rintro e w7 ⟨rfl, hb⟩
          clear c00 c01 c02 c03 c04 c10 c11 c12 c13 c14 c20 c21 c22 c23 c24
          have HX7 := Lib.hid (HX6.out.next hb)
          clear hb HX6
          have c00 := HX7.out.2.1.cell 0
          have c01 := HX7.out.2.1.cell 1
          have c02 := HX7.out.2.1.cell 2
          have c03 := HX7.out.2.1.cell 3
          have c04 := HX7.out.2.1.cell 4
          have c10 := HX7.out.2.2.1.cell 0
          have c11 := HX7.out.2.2.1.cell 1
          have c12 := HX7.out.2.2.1.cell 2
          have c13 := HX7.out.2.2.1.cell 3
          have c14 := HX7.out.2.2.1.cell 4
          have c20 := HX7.out.2.2.2.cell 0
          have c21 := HX7.out.2.2.2.cell 1
          have c22 := HX7.out.2.2.2.cell 2
          have c23 := HX7.out.2.2.2.cell 3
          have c24 := HX7.out.2.2.2.cell 4
          go_wp2_with fail
          go_at_call 15; refine (C6.out _ HX7.out.1).mono ?_; rintro e w8 ⟨rfl, hb⟩
          clear c00 c01 c02 c03 c04 c10 c11 c12 c13 c14 c20 c21 c22 c23 c24
          have HX8 := Lib.hid (HX7.out.next hb)
          clear hb HX7
          have c00 := HX8.out.2.1.cell 0
          have c01 := HX8.out.2.1.cell 1
          have c02 := HX8.out.2.1.cell 2
          have c03 := HX8.out.2.1.cell 3
          have c04 := HX8.out.2.1.cell 4
          have c10 := HX8.out.2.2.1.cell 0
          have c11 := HX8.out.2.2.1.cell 1
          have c12 := HX8.out.2.2.1.cell 2
          have c13 := HX8.out.2.2.1.cell 3
          have c14 := HX8.out.2.2.1.cell 4
          have c20 := HX8.out.2.2.2.cell 0
          have c21 := HX8.out.2.2.2.cell 1
          have c22 := HX8.out.2.2.2.cell 2
          have c23 := HX8.out.2.2.2.cell 3
          have c24 := HX8.out.2.2.2.cell 4
          go_wp2_with fail
          go_at_call 16; refine (C7.out _ HX8.out.1).mono ?_; rintro e w9 ⟨rfl, hb⟩
          clear c00 c01 c02 c03 c04 c10 c11 c12 c13 c14 c20 c21 c22 c23 c24
          have HX9 := Lib.hid (HX8.out.next hb)
          clear hb HX8
          have c00 := HX9.out.2.1.cell 0
          have c01 := HX9.out.2.1.cell 1
          have c02 := HX9.out.2.1.cell 2
          have c03 := HX9.out.2.1.cell 3
          have c04 := HX9.out.2.1.cell 4
          have c10 := HX9.out.2.2.1.cell 0
          have c11 := HX9.out.2.2.1.cell 1
          have c12 := HX9.out.2.2.1.cell 2
          have c13 := HX9.out.2.2.1.cell 3
          have c14 := HX9.out.2.2.1.cell 4
          have c20 := HX9.out.2.2.2.cell 0
          have c21 := HX9.out.2.2.2.cell 1
          have c22 := HX9.out.2.2.2.cell 2
          have c23 := HX9.out.2.2.2.cell 3
          have c24 := HX9.out.2.2.2.cell 4
          by_cases hq : 0 < q
          · go_wp2_with fail
            go_at_call 13; refine (C3.out _ HX9.out.1).mono ?_; rintro e w10 ⟨rfl, hb⟩
            clear c00 c01 c02 c03 c04 c10 c11 c12 c13 c14 c20 c21 c22 c23 c24
            have HX10 := Lib.hid (HX9.out.next hb)
            clear hb HX9
            have c00 := HX10.out.2.1.cell 0
            have c01 := HX10.out.2.1.cell 1
            have c02 := HX10.out.2.1.cell 2
            have c03 := HX10.out.2.1.cell 3
            have c04 := HX10.out.2.1.cell 4
            have c10 := HX10.out.2.2.1.cell 0
            have c11 := HX10.out.2.2.1.cell 1
            have c12 := HX10.out.2.2.1.cell 2
            have c13 := HX10.out.2.2.1.cell 3
            have c14 := HX10.out.2.2.1.cell 4
            have c20 := HX10.out.2.2.2.cell 0
            have c21 := HX10.out.2.2.2.cell 1
            have c22 := HX10.out.2.2.2.cell 2
            have c23 := HX10.out.2.2.2.cell 3
            have c24 := HX10.out.2.2.2.cell 4
            go_wp2_with fail
            go_ret
            exact ⟨by first | rfl | simp, HX10.out.1⟩
          · have hr : r ≤ 0 := (HT.out.1 (by omega) (by omega)).1
            go_wp2_with fail
            go_at_call 13; refine (C3.out _ HX9.out.1).mono ?_; rintro e w10 ⟨rfl, hb⟩
            clear c00 c01 c02 c03 c04 c10 c11 c12 c13 c14 c20 c21 c22 c23 c24
            have HX10 := Lib.hid (HX9.out.next hb)
            clear hb HX9
            have c00 := HX10.out.2.1.cell 0
            have c01 := HX10.out.2.1.cell 1
            have c02 := HX10.out.2.1.cell 2
            have c03 := HX10.out.2.1.cell 3
            have c04 := HX10.out.2.1.cell 4
            have c10 := HX10.out.2.2.1.cell 0
            have c11 := HX10.out.2.2.1.cell 1
            have c12 := HX10.out.2.2.1.cell 2
            have c13 := HX10.out.2.2.1.cell 3
            have c14 := HX10.out.2.2.1.cell 4
            have c20 := HX10.out.2.2.2.cell 0
            have c21 := HX10.out.2.2.2.cell 1
            have c22 := HX10.out.2.2.2.cell 2
            have c23 := HX10.out.2.2.2.cell 3
            have c24 := HX10.out.2.2.2.cell 4
            go_wp2_with fail
            go_at_call 13; refine (C4.out _ HX10.out.1).mono ?_; rintro e w11 ⟨rfl, hb⟩
            clear c00 c01 c02 c03 c04 c10 c11 c12 c13 c14 c20 c21 c22 c23 c24
            have HX11 := Lib.hid (HX10.out.next hb)
            clear hb HX10
            have c00 := HX11.out.2.1.cell 0
            have c01 := HX11.out.2.1.cell 1
            have c02 := HX11.out.2.1.cell 2
            have c03 := HX11.out.2.1.cell 3
            have c04 := HX11.out.2.1.cell 4
            have c10 := HX11.out.2.2.1.cell 0
            have c11 := HX11.out.2.2.1.cell 1
            have c12 := HX11.out.2.2.1.cell 2
            have c13 := HX11.out.2.2.1.cell 3
            have c14 := HX11.out.2.2.1.cell 4
            have c20 := HX11.out.2.2.2.cell 0
            have c21 := HX11.out.2.2.2.cell 1
            have c22 := HX11.out.2.2.2.cell 2
            have c23 := HX11.out.2.2.2.cell 3
            have c24 := HX11.out.2.2.2.cell 4
            go_wp2_with fail
            go_ret
            exact ⟨by first | rfl | simp, HX11.out.1⟩
        · clear hr1 hr2
          go_wp2_with fail
          go_at_call 13; refine (C1.out _ HX4.out.1).mono ?_; rintro e w5 ⟨rfl, hb⟩
          clear c00 c01 c02 c03 c04 c10 c11 c12 c13 c14 c20 c21 c22 c23 c24
          have HX5 := Lib.hid (HX4.out.next hb)
          clear hb HX4
          have c00 := HX5.out.2.1.cell 0
          have c01 := HX5.out.2.1.cell 1
          have c02 := HX5.out.2.1.cell 2
          have c03 := HX5.out.2.1.cell 3
          have c04 := HX5.out.2.1.cell 4
          have c10 := HX5.out.2.2.1.cell 0
          have c11 := HX5.out.2.2.1.cell 1
          have c12 := HX5.out.2.2.1.cell 2
          have c13 := HX5.out.2.2.1.cell 3
          have c14 := HX5.out.2.2.1.cell 4
          have c20 := HX5.out.2.2.2.cell 0
          have c21 := HX5.out.2.2.2.cell 1
          have c22 := HX5.out.2.2.2.cell 2
          have c23 := HX5.out.2.2.2.cell 3
          have c24 := HX5.out.2.2.2.cell 4
          go_wp2_with fail
          go_at_call 14; refine (C5.out _ HX5.out.1).mono ?_; rintro e w6 ⟨rfl, hb⟩
          clear c00 c01 c02 c03 c04 c10 c11 c12 c13 c14 c20 c21 c22 c23 c24
          have HX6 := Lib.hid (HX5.out.next hb)
          clear hb HX5
          have c00 := HX6.out.2.1.cell 0
          have c01 := HX6.out.2.1.cell 1
          have c02 := HX6.out.2.1.cell 2
          have c03 := HX6.out.2.1.cell 3
          have c04 := HX6.out.2.1.cell 4
          have c10 := HX6.out.2.2.1.cell 0
          have c11 := HX6.out.2.2.1.cell 1
          have c12 := HX6.out.2.2.1.cell 2
          have c13 := HX6.out.2.2.1.cell 3
          have c14 := HX6.out.2.2.1.cell 4
          have c20 := HX6.out.2.2.2.cell 0
          have c21 := HX6.out.2.2.2.cell 1
          have c22 := HX6.out.2.2.2.cell 2
          have c23 := HX6.out.2.2.2.cell 3
          have c24 := HX6.out.2.2.2.cell 4
          go_wp2_with fail
          go_at_call 13; refine (C2.out _ HX6.out.1).mono ?_; rintro e w7 ⟨rfl, hb⟩
          clear c00 c01 c02 c03 c04 c10 c11 c12 c13 c14 c20 c21 c22 c23 c24
          have HX7 := Lib.hid (HX6.out.next hb)
          clear hb HX6
          have c00 := HX7.out.2.1.cell 0
          have c01 := HX7.out.2.1.cell 1
          have c02 := HX7.out.2.1.cell 2
          have c03 := HX7.out.2.1.cell 3
          have c04 := HX7.out.2.1.cell 4
          have c10 := HX7.out.2.2.1.cell 0
          have c11 := HX7.out.2.2.1.cell 1
          have c12 := HX7.out.2.2.1.cell 2
          have c13 := HX7.out.2.2.1.cell 3
          have c14 := HX7.out.2.2.1.cell 4
          have c20 := HX7.out.2.2.2.cell 0
          have c21 := HX7.out.2.2.2.cell 1
          have c22 := HX7.out.2.2.2.cell 2
          have c23 := HX7.out.2.2.2.cell 3
          have c24 := HX7.out.2.2.2.cell 4
          go_wp2_with fail
          go_at_call 15; refine (C6.out _ HX7.out.1).mono ?_; rintro e w8 ⟨rfl, hb⟩
          clear c00 c01 c02 c03 c04 c10 c11 c12 c13 c14 c20 c21 c22 c23 c24
          have HX8 := Lib.hid (HX7.out.next hb)
          clear hb HX7
          have c00 := HX8.out.2.1.cell 0
          have c01 := HX8.out.2.1.cell 1
          have c02 := HX8.out.2.1.cell 2
          have c03 := HX8.out.2.1.cell 3
          have c04 := HX8.out.2.1.cell 4
          have c10 := HX8.out.2.2.1.cell 0
          have c11 := HX8.out.2.2.1.cell 1
          have c12 := HX8.out.2.2.1.cell 2
          have c13 := HX8.out.2.2.1.cell 3
          have c14 := HX8.out.2.2.1.cell 4
          have c20 := HX8.out.2.2.2.cell 0
          have c21 := HX8.out.2.2.2.cell 1
          have c22 := HX8.out.2.2.2.cell 2
          have c23 := HX8.out.2.2.2.cell 3
          have c24 := HX8.out.2.2.2.cell 4
          go_wp2_with fail
          go_at_call 16; refine (C7.out _ HX8.out.1).mono ?_; rintro e w9 ⟨rfl, hb⟩
          clear c00 c01 c02 c03 c04 c10 c11 c12 c13 c14 c20 c21 c22 c23 c24
          have HX9 := Lib.hid (HX8.out.next hb)
          clear hb HX8
          have c00 := HX9.out.2.1.cell 0
          have c01 := HX9.out.2.1.cell 1
          have c02 := HX9.out.2.1.cell 2
          have c03 := HX9.out.2.1.cell 3
          have c04 := HX9.out.2.1.cell 4
          have c10 := HX9.out.2.2.1.cell 0
          have c11 := HX9.out.2.2.1.cell 1
          have c12 := HX9.out.2.2.1.cell 2
          have c13 := HX9.out.2.2.1.cell 3
          have c14 := HX9.out.2.2.1.cell 4
          have c20 := HX9.out.2.2.2.cell 0
          have c21 := HX9.out.2.2.2.cell 1
          have c22 := HX9.out.2.2.2.cell 2
          have c23 := HX9.out.2.2.2.cell 3
          have c24 := HX9.out.2.2.2.cell 4
          go_wp2_with fail
          go_ret
          exact ⟨by first | rfl | simp, HX9.out.1⟩
end Go.Proofs.YthmojhfakmdlfaaGreatDoor
