/- ValueOwn: its walk -/
import Derived.Deep.RegionHeld3
import Derived.Deep.DrawnRows
import Derived.Deep.DeepCutAuto
import Derived.Test.YtjgbhnbfojkhoaaGreatDoorOw18
import Derived.Test.YtjgbhnbfojkhoaaGreatDoorOw21
import Derived.Test.YtjgbhnbfojkhoaaGreatDoorOw23
import Derived.Test.YtjgbhnbfojkhoaaGreatDoorOw31
import Derived.Test.YtjgbhnbfojkhoaaGreatDoorOw32
import Derived.Test.YtjgbhnbfojkhoaaGreatDoorOw37
import Derived.Test.YtjgbhnbfojkhoaaGreatDoorOw39
import Derived.Test.YtjgbhnbfojkhoaaGreatDoorOw41
namespace Go.Proofs.YtjgbhnbfojkhoaaGreatDoor
open Go.RowKit
set_option linter.unusedVariables false
attribute [local go_sem ↓] Go.wp_at_zero Go.wp_at_succ

/-- An answer in new memory. -/
def Ans (W : World) (e : Ending) (w' : World) : Prop := ∃ v' T', e = .returned v' ∧ Fresh W.heap.size w'.heap.size w' v' T' ∧ Below W.heap.size W w'
/-- The contracts that the law goes by, wherever nothing that was there has turned. -/
structure OwnAt (T X : VT) (key : ByteArray) (v x : Value) (cv cx : List Value) (W : World) : Prop where
  rv : ∀ W', Below W.heap.size W W' → Calls Tryz.prog 23 #[v] W' (Clones T W')
  rx : ∀ W', Below W.heap.size W W' → Calls Tryz.prog 23 #[x] W' (Clones X W')
  gv : ∀ W', Below W.heap.size W W' → Calls Tryz.prog 17 #[v, .string key] W' fun e w' => ∃ v' T' ok, e = .returned (.tuple #[v', .bool ok]) ∧ Fresh W'.heap.size w'.heap.size w' v' T' ∧ Below W'.heap.size W' w'
  ov : ∀ W' K Y, Below W.heap.size W W' → Blk W' K #[.string ⟨#[112]⟩, .string ⟨#[113]⟩] 9 → Blk W' Y (cv ++ cx).toArray 26 → Calls Tryz.prog 24 #[.slice (some ⟨K, 0, none⟩) 2 2, .slice (some ⟨Y, 0, none⟩) 2 2] W' fun e w' => ∃ v' T', e = .returned (.tuple #[v', .int .i64 0]) ∧ Fresh W'.heap.size w'.heap.size w' v' T' ∧ Below W'.heap.size W' w'
  pv : ∀ W', Below W.heap.size W W' → Calls Tryz.prog 19 #[v, .string key, x] W' (Ans W')
  dv : ∀ W', Below W.heap.size W W' → Calls Tryz.prog 21 #[v, .string key] W' (Ans W')
  cl : ∀ W', Below W.heap.size W W' → Calls Tryz.prog 25 #[v] W' (Ans W')
  lv : ∀ W' Y, Below W.heap.size W W' → Blk W' Y (cv ++ cx).toArray 26 → Calls Tryz.prog 26 #[.slice (some ⟨Y, 0, none⟩) 2 2] W' (Ans W')
  sv : ∀ W' a, Below W.heap.size W W' → Is W'.heap.size W' a T → Calls Tryz.prog 16 #[v, a] W' fun e w' => e = .returned (.bool true) ∧ Below W'.heap.size W' w'
  sx : ∀ W' a, Below W.heap.size W W' → Is W'.heap.size W' a X → Calls Tryz.prog 16 #[x, a] W' fun e w' => e = .returned (.bool true) ∧ Below W'.heap.size W' w'
theorem sameAt_of {B : Nat} {w : World} {v : Value} {T : VT} (h : Is B w v T) (W : World) (hb : Below B w W) (hBW : B ≤ W.heap.size) (a : Value) (ha : Is W.heap.size W a T) : Calls Tryz.prog 16 #[v, a] W fun e w' => e = .returned (.bool true) ∧ Below W.heap.size W w' := by
  have h2 : Is W.heap.size W v T := (h.later hb).wide hBW
  have := same_any h2 a T W ha (Below.refl _ _) (Nat.le_refl _)
  rw [sameT_refl] at this
  exact this
theorem ownAt_of {B : Nat} {w : World} {T X : VT} {key : ByteArray} {k0 k1 : Int} {b0 b1 : Bool} {t0 t1 : ByteArray} {ad0 adk0 ad1 adk1 : Option Addr} {n0 cap0 nk0 capk0 n1 cap1 nk1 capk1 : Nat} (h : Is B w (.agg #[.int .i64 k0, .bool b0, .string t0, .slice ad0 n0 cap0, .slice adk0 nk0 capk0]) T) (hx : Is B w (.agg #[.int .i64 k1, .bool b1, .string t1, .slice ad1 n1 cap1, .slice adk1 nk1 capk1]) X) (hg : goodT T = true) (hgx : goodT X = true) (W : World) (hb : Below B w W) (hBW : B ≤ W.heap.size) : OwnAt T X key (.agg #[.int .i64 k0, .bool b0, .string t0, .slice ad0 n0 cap0, .slice adk0 nk0 capk0]) (.agg #[.int .i64 k1, .bool b1, .string t1, .slice ad1 n1 cap1, .slice adk1 nk1 capk1]) [.int .i64 k0, .bool b0, .string t0, .slice ad0 n0 cap0, .slice adk0 nk0 capk0] [.int .i64 k1, .bool b1, .string t1, .slice ad1 n1 cap1, .slice adk1 nk1 capk1] W := by
  have hsx := goodT_small hgx
  have hst := goodT_small hg
  have hbb : ∀ W', Below W.heap.size W W' → Below B w W' ∧ B ≤ W'.heap.size := fun W' hb' => ⟨hb.trans (hb'.mono hBW), Nat.le_trans hBW hb'.size⟩
  have h0 := h
  cases T with
  | node k b t its ks =>
  obtain ⟨hl, hr, hbt, h9, hsm⟩ := good_parts hg
  refine ⟨fun W' hb' => rClone_any h hst W' (hbb W' hb').1 (hbb W' hb').2, fun W' hb' => rClone_any hx hsx W' (hbb W' hb').1 (hbb W' hb').2, fun W' hb' => ?_, fun W' K Y hb' hK hY => object_pair h hx hst hsx W' (hbb W' hb').1 (hbb W' hb').2 K Y hK (by simpa using hY), fun W' hb' => ?_, fun W' hb' => ?_, fun W' hb' => ?_, fun W' Y hb' hY => ?_, fun W' a hb' ha => sameAt_of h W' (hbb W' hb').1 (hbb W' hb').2 a ha, fun W' a hb' ha => sameAt_of hx W' (hbb W' hb').1 (hbb W' hb').2 a ha⟩
  · refine (vGet_any (key := key) h hl hr hsm W' (hbb W' hb').1 (hbb W' hb').2).mono ?_
    rintro e w' ⟨⟨v', T', ok, rfl, hf, -⟩, hbw⟩
    exact ⟨v', T', ok, rfl, hf, hbw⟩
  · refine (vPut_any (key := key) h hx hl hr hsm hsx h9 W' (hbb W' hb').1 (hbb W' hb').2).mono ?_
    rintro e w' ⟨⟨v', T', rfl, hf, -⟩, hbw⟩
    exact ⟨v', T', rfl, hf, hbw⟩
  · refine (vDrop_any (key := key) h hl hr hsm h9 W' (hbb W' hb').1 (hbb W' hb').2).mono ?_
    rintro e w' ⟨⟨v', T', rfl, hf, -⟩, hbw⟩
    exact ⟨v', T', rfl, hf, hbw⟩
  · refine (clone_any h hst W' (hbb W' hb').1 (hbb W' hb').2).mono ?_
    rintro e w' ⟨v', rfl, hf, hbw⟩
    exact ⟨v', _, rfl, hf, hbw⟩
  · refine (list_pair h hx hst hsx W' (hbb W' hb').1 (hbb W' hb').2 Y (by simpa using hY)).mono ?_
    rintro e w' ⟨v', rfl, hf, hbw⟩
    exact ⟨v', _, rfl, hf, hbw⟩

/-- A block that is new. -/
theorem Blk.fresh {W : World} {A : Nat} {cs : Array Value} {t : TypeId} (h : W.heap.size = A) : Blk (W.alloc (.cells cs t)) A cs t := by subst h; exact Blk.new W cs t
/-- But for two blocks all is as it was. -/
structure Ex (A A' : Nat) (w W : World) : Prop where
  size : w.heap.size ≤ W.heap.size
  block : ∀ g, g < w.heap.size → g ≠ A → g ≠ A' → W.heap[g]? = w.heap[g]?
theorem Ex.refl (A A' : Nat) (w : World) : Ex A A' w w := ⟨Nat.le_refl _, fun _ _ _ _ => rfl⟩
theorem Ex.alloc {A A' : Nat} {w W : World} {o : Obj} (h : Ex A A' w W) : Ex A A' w (W.alloc o) := ⟨by have := h.size; simp; omega, fun g h1 h2 h3 => by rw [← h.block g h1 h2 h3]; exact (below_new0 W o).block g (Nat.lt_of_lt_of_le h1 h.size)⟩
theorem Ex.below {A A' : Nat} {w W W' : World} (h : Ex A A' w W) (hb : Below W.heap.size W W') : Ex A A' w W' := ⟨Nat.le_trans h.size hb.size, fun g h1 h2 h3 => (hb.block g (Nat.lt_of_lt_of_le h1 h.size)).trans (h.block g h1 h2 h3)⟩
theorem Ex.setl {A A' : Nat} {w W : World} {i : Nat} {u : Value} (h : Ex A A' w W) : Ex A A' w (W.setCell ⟨A, i, none⟩ u) := ⟨by have := h.size; simpa using this, fun g h1 h2 h3 => by rw [Below.heap_setCell _ _ _ _ h2]; exact h.block g h1 h2 h3⟩
theorem Ex.setr {A A' : Nat} {w W : World} {i : Nat} {u : Value} (h : Ex A A' w W) : Ex A A' w (W.setCell ⟨A', i, none⟩ u) := ⟨by have := h.size; simpa using this, fun g h1 h2 h3 => by rw [Below.heap_setCell _ _ _ _ h3]; exact h.block g h1 h2 h3⟩
theorem Ex.drw {A A' : Nat} {w W : World} (h : Ex A A' w W) : Ex A A' w W.drew := ⟨h.size, h.block⟩
theorem Ex.fresh {A A' lo B : Nat} {w W : World} {v : Value} {T : VT} (h : Ex A A' w W) (hf : Fresh lo B w v T) (hB : B ≤ w.heap.size) (h1 : A < lo ∨ B ≤ A) (h2 : A' < lo ∨ B ≤ A') : Is W.heap.size W v T :=
  (hf.keep (fun g g1 g2 => h.block g (by omega) (by omega) (by omega)) (Nat.le_refl _) (Nat.le_trans hB h.size)).at
/-- What stands behind the two clones. -/
structure OwnM (W w : World) (cv cx ca cb : Array Value) (A7 A8 : Nat) (T X : VT) : Prop where
  two : Two W w cv cx
  ba : Blk w A7 ca 26
  bb : Blk w A8 cb 26
  ia : Is w.heap.size w (.agg ca) T
  ib : Is w.heap.size w (.agg cb) X
theorem OwnM.next {W w w' : World} {cv cx ca cb : Array Value} {A7 A8 : Nat} {T X : VT} (h : OwnM W w cv cx ca cb A7 A8 T X) (hb : Below w.heap.size w w') : OwnM W w' cv cx ca cb A7 A8 T X :=
  ⟨h.two.next hb, h.ba.below hb, h.bb.below hb, (h.ia.later hb).wide hb.size, (h.ib.later hb).wide hb.size⟩
theorem OwnM.of {W w3 w4 w5 w' : World} {cv cx ca cb : Array Value} {A7 A8 lo4 lo5 : Nat} {T X : VT} (hX3 : Two W w3 cv cx) (hb : Below w3.heap.size w3 w') (h1 : Blk w' A7 ca 26) (h2 : Blk w' A8 cb 26) (hfa : Fresh lo4 w4.heap.size w4 (.agg ca) T) (hfb : Fresh lo5 w5.heap.size w5 (.agg cb) X) (e4 : Ex A7 A8 w4 w') (e5 : Ex A7 A8 w5 w')
    (r : (A7 < lo4 ∨ w4.heap.size ≤ A7) ∧ (A8 < lo4 ∨ w4.heap.size ≤ A8) ∧ (A7 < lo5 ∨ w5.heap.size ≤ A7) ∧ (A8 < lo5 ∨ w5.heap.size ≤ A8)) : OwnM W w' cv cx ca cb A7 A8 T X :=
  ⟨hX3.next hb, h1, h2, e4.fresh hfa (Nat.le_refl _) r.1 r.2.1, e5.fresh hfb (Nat.le_refl _) r.2.2.1 r.2.2.2⟩
def OwnCut (W w : World) (cv cx : Array Value) (T X : VT) (s7 s8 : Value) : Prop := ∃ (A7 A8 : Nat) (k2 : Int) (b2 : Bool) (t2 : ByteArray) (ad2 : Option Addr) (n2 cap2 : Nat) (adk2 : Option Addr) (nk2 capk2 : Nat) (k3 : Int) (b3 : Bool) (t3 : ByteArray) (ad3 : Option Addr) (n3 cap3 : Nat) (adk3 : Option Addr) (nk3 capk3 : Nat), s7 = .pointer (some ⟨A7, 0, none⟩) ∧ s8 = .pointer (some ⟨A8, 0, none⟩) ∧ OwnM W w cv cx #[.int .i64 k2, .bool b2, .string t2, .slice ad2 n2 cap2, .slice adk2 nk2 capk2] #[.int .i64 k3, .bool b3, .string t3, .slice ad3 n3 cap3, .slice adk3 nk3 capk3] A7 A8 T X
theorem OwnCut.mk {W w : World} {cv cx : Array Value} {T X : VT} {A7 A8 : Nat} {k2 k3 : Int} {b2 b3 : Bool} {t2 t3 : ByteArray} {ad2 adk2 ad3 adk3 : Option Addr} {n2 cap2 nk2 capk2 n3 cap3 nk3 capk3 : Nat} (h : OwnM W w cv cx #[.int .i64 k2, .bool b2, .string t2, .slice ad2 n2 cap2, .slice adk2 nk2 capk2] #[.int .i64 k3, .bool b3, .string t3, .slice ad3 n3 cap3, .slice adk3 nk3 capk3] A7 A8 T X) : OwnCut W w cv cx T X (.pointer (some ⟨A7, 0, none⟩)) (.pointer (some ⟨A8, 0, none⟩)) :=
  ⟨A7, A8, k2, b2, t2, ad2, n2, cap2, adk2, nk2, capk2, k3, b3, t3, ad3, n3, cap3, adk3, nk3, capk3, rfl, rfl, h⟩
theorem keepH10 {w4 w1 w2 : World} {a0 a1 a2 a3 a4 a5 a6 a7 a8 a9 : Addr} {v0 v1 v2 v3 v4 v5 v6 v7 v8 v9 : Value} (h : Hid (Below w4.heap.size w4 w1) ∧ w1.cell? a0 = some v0 ∧ w1.cell? a1 = some v1 ∧ w1.cell? a2 = some v2 ∧ w1.cell? a3 = some v3 ∧ w1.cell? a4 = some v4 ∧ w1.cell? a5 = some v5 ∧ w1.cell? a6 = some v6 ∧ w1.cell? a7 = some v7 ∧ w1.cell? a8 = some v8 ∧ w1.cell? a9 = some v9) (hb : Below w1.heap.size w1 w2) :
    Hid (Below w4.heap.size w4 w2) ∧ w2.cell? a0 = some v0 ∧ w2.cell? a1 = some v1 ∧ w2.cell? a2 = some v2 ∧ w2.cell? a3 = some v3 ∧ w2.cell? a4 = some v4 ∧ w2.cell? a5 = some v5 ∧ w2.cell? a6 = some v6 ∧ w2.cell? a7 = some v7 ∧ w2.cell? a8 = some v8 ∧ w2.cell? a9 = some v9 := by
  obtain ⟨h0, q0, q1, q2, q3, q4, q5, q6, q7, q8, q9⟩ := h
  exact ⟨Lib.hid (h0.out.trans (hb.mono h0.out.size)), cells_keep hb q0, cells_keep hb q1, cells_keep hb q2, cells_keep hb q3, cells_keep hb q4, cells_keep hb q5, cells_keep hb q6, cells_keep hb q7, cells_keep hb q8, cells_keep hb q9⟩
theorem keepB {w3 w' : World} {H : Nat} {v0 v1 v2 v3 v4 v5 v6 v7 v8 v9 : Value} (h : Hid (w3.cell? ⟨H, 0, none⟩ = some v0 ∧ w3.cell? ⟨H, 1, none⟩ = some v1 ∧ w3.cell? ⟨H, 2, none⟩ = some v2 ∧ w3.cell? ⟨H, 3, none⟩ = some v3 ∧ w3.cell? ⟨H, 4, none⟩ = some v4 ∧ w3.cell? ⟨H + 1, 0, none⟩ = some v5 ∧ w3.cell? ⟨H + 1, 1, none⟩ = some v6 ∧ w3.cell? ⟨H + 1, 2, none⟩ = some v7 ∧ w3.cell? ⟨H + 1, 3, none⟩ = some v8 ∧ w3.cell? ⟨H + 1, 4, none⟩ = some v9)) (hb : Below w3.heap.size w3 w') :
    Hid (Below w3.heap.size w3 w') ∧ w'.cell? ⟨H, 0, none⟩ = some v0 ∧ w'.cell? ⟨H, 1, none⟩ = some v1 ∧ w'.cell? ⟨H, 2, none⟩ = some v2 ∧ w'.cell? ⟨H, 3, none⟩ = some v3 ∧ w'.cell? ⟨H, 4, none⟩ = some v4 ∧ w'.cell? ⟨H + 1, 0, none⟩ = some v5 ∧ w'.cell? ⟨H + 1, 1, none⟩ = some v6 ∧ w'.cell? ⟨H + 1, 2, none⟩ = some v7 ∧ w'.cell? ⟨H + 1, 3, none⟩ = some v8 ∧ w'.cell? ⟨H + 1, 4, none⟩ = some v9 := by
  obtain ⟨q0, q1, q2, q3, q4, q5, q6, q7, q8, q9⟩ := h.out
  exact ⟨Lib.hid hb, cells_keep hb q0, cells_keep hb q1, cells_keep hb q2, cells_keep hb q3, cells_keep hb q4, cells_keep hb q5, cells_keep hb q6, cells_keep hb q7, cells_keep hb q8, cells_keep hb q9⟩
theorem Blk.set5n {W : World} {B : Nat} {t : TypeId} (h : Blk W B #[.int .i64 0, .bool false, .string ⟨#[]⟩, .slice none 0 0, .slice none 0 0] t) (b0 b1 b2 b3 b4 : Value) : Blk (((((W.setCell ⟨B, 0, none⟩ b0).setCell ⟨B, 1, none⟩ b1).setCell ⟨B, 2, none⟩ b2).setCell ⟨B, 3, none⟩ b3).setCell ⟨B, 4, none⟩ b4) B #[b0, b1, b2, b3, b4] t := h.set5 b0 b1 b2 b3 b4
theorem Blk.off5 {W : World} {G B : Nat} {cs : Array Value} {t : TypeId} (h : Blk W G cs t) (hne : G ≠ B) (b0 b1 b2 b3 b4 : Value) : Blk (((((W.setCell ⟨B, 0, none⟩ b0).setCell ⟨B, 1, none⟩ b1).setCell ⟨B, 2, none⟩ b2).setCell ⟨B, 3, none⟩ b3).setCell ⟨B, 4, none⟩ b4) G cs t :=
  ((((h.other (p := ⟨B, 0, none⟩) hne b0).other (p := ⟨B, 1, none⟩) hne b1).other (p := ⟨B, 2, none⟩) hne b2).other (p := ⟨B, 3, none⟩) hne b3).other (p := ⟨B, 4, none⟩) hne b4
theorem Blk.drw {W : World} {B : Nat} {cs : Array Value} {t : TypeId} (h : Blk W B cs t) : Blk W.drew B cs t := h
theorem bA {w W : World} {o : Obj} (h : Below w.heap.size w W) : Below w.heap.size w (W.alloc o) := h.alloc h.size o
theorem bS {w W : World} {p : Addr} {u : Value} (h : Below w.heap.size w W) (hp : w.heap.size ≤ p.block) : Below w.heap.size w (W.setCell p u) := h.setCell hp u
theorem keepC {w9 w' : World} {a0 a1 a2 a3 a4 a5 a6 a7 a8 a9 a10 a11 a12 a13 a14 a15 a16 a17 a18 a19 : Addr} {v0 v1 v2 v3 v4 v5 v6 v7 v8 v9 v10 v11 v12 v13 v14 v15 v16 v17 v18 v19 : Value} (h : Hid (w9.cell? a0 = some v0 ∧ w9.cell? a1 = some v1 ∧ w9.cell? a2 = some v2 ∧ w9.cell? a3 = some v3 ∧ w9.cell? a4 = some v4 ∧ w9.cell? a5 = some v5 ∧ w9.cell? a6 = some v6 ∧ w9.cell? a7 = some v7 ∧ w9.cell? a8 = some v8 ∧ w9.cell? a9 = some v9 ∧ w9.cell? a10 = some v10 ∧ w9.cell? a11 = some v11 ∧ w9.cell? a12 = some v12 ∧ w9.cell? a13 = some v13 ∧ w9.cell? a14 = some v14 ∧ w9.cell? a15 = some v15 ∧ w9.cell? a16 = some v16 ∧ w9.cell? a17 = some v17 ∧ w9.cell? a18 = some v18 ∧ w9.cell? a19 = some v19)) (hb : Below w9.heap.size w9 w') :
    Hid (Below w9.heap.size w9 w') ∧ w'.cell? a0 = some v0 ∧ w'.cell? a1 = some v1 ∧ w'.cell? a2 = some v2 ∧ w'.cell? a3 = some v3 ∧ w'.cell? a4 = some v4 ∧ w'.cell? a5 = some v5 ∧ w'.cell? a6 = some v6 ∧ w'.cell? a7 = some v7 ∧ w'.cell? a8 = some v8 ∧ w'.cell? a9 = some v9 ∧ w'.cell? a10 = some v10 ∧ w'.cell? a11 = some v11 ∧ w'.cell? a12 = some v12 ∧ w'.cell? a13 = some v13 ∧ w'.cell? a14 = some v14 ∧ w'.cell? a15 = some v15 ∧ w'.cell? a16 = some v16 ∧ w'.cell? a17 = some v17 ∧ w'.cell? a18 = some v18 ∧ w'.cell? a19 = some v19 := by
  obtain ⟨q0, q1, q2, q3, q4, q5, q6, q7, q8, q9, q10, q11, q12, q13, q14, q15, q16, q17, q18, q19⟩ := h.out
  exact ⟨Lib.hid hb, cells_keep hb q0, cells_keep hb q1, cells_keep hb q2, cells_keep hb q3, cells_keep hb q4, cells_keep hb q5, cells_keep hb q6, cells_keep hb q7, cells_keep hb q8, cells_keep hb q9, cells_keep hb q10, cells_keep hb q11, cells_keep hb q12, cells_keep hb q13, cells_keep hb q14, cells_keep hb q15, cells_keep hb q16, cells_keep hb q17, cells_keep hb q18, cells_keep hb q19⟩
def OwnLoop (wr wx : World) (s58 s59 s60 : Value) : Prop := ∃ (Y : Nat) (ys : List It) (lo hi : Nat → Nat), s58 = .slice (some ⟨Y, 0, none⟩) 6 6 ∧ s59 = .int .i64 6 ∧ s60 = .int .i64 0 ∧ ys.length = 6 ∧ OwnSt wr wx wr.heap.size Y ys lo hi 0
theorem OwnLoop.mk {wr wx : World} {Y : Nat} {ys : List It} (hl : ys.length = 6) (h : ∃ lo hi, OwnSt wr wx wr.heap.size Y ys lo hi 0) : OwnLoop wr wx (.slice (some ⟨Y, 0, none⟩) 6 6) (.int .i64 6) (.int .i64 0) := by
  obtain ⟨lo, hi, h⟩ := h
  exact ⟨Y, ys, lo, hi, rfl, rfl, rfl, hl, h⟩
theorem bcell {W w1 : World} (hb : Below W.heap.size W w1) : (∀ b o, b < W.heap.size → w1.cell? ⟨b, o, none⟩ = W.cell? ⟨b, o, none⟩) ∧ (∀ b o, b < W.heap.size → w1.frozen? ⟨b, o, none⟩ = W.frozen? ⟨b, o, none⟩) :=
  ⟨fun b o h => hb.cell (p := ⟨b, o, none⟩) h, fun b o h => hb.frozen (p := ⟨b, o, none⟩) h⟩

set_option maxRecDepth 100000 in
set_option maxHeartbeats 16000000 in
theorem ownLaw_any {B : Nat} {w : World} {v x : Value} {T X : VT} (hv : Is B w v T) (hx : Is B w x X) (key : ByteArray) (W : World) (hb : Below B w W) (hBW : B ≤ W.heap.size) : Calls Tryz.prog 5 #[v, x, .string key] W fun e w' => e = .returned (.bool true) ∧ Below W.heap.size W w' := by
  have HAW := Lib.hid (fun W' => awake_any W')
  have G0 := Lib.hid (fun W' (hb' : Below W.heap.size W W') => rGood_any hv W' (hb.trans (hb'.mono hBW)) (Nat.le_trans hBW hb'.size))
  have G1 := Lib.hid (fun W' (hb' : Below W.heap.size W W') => rGood_any hx W' (hb.trans (hb'.mono hBW)) (Nat.le_trans hBW hb'.size))
  obtain ⟨k0, b0, t0, ad0, n0, cap0, adk0, nk0, capk0, rfl⟩ := hv.shape
  obtain ⟨k1, b1, t1, ad1, n1, cap1, adk1, nk1, capk1, rfl⟩ := hx.shape
  have HALL : Hid (goodT T = true → goodT X = true → OwnAt T X key (.agg #[.int .i64 k0, .bool b0, .string t0, .slice ad0 n0 cap0, .slice adk0 nk0 capk0]) (.agg #[.int .i64 k1, .bool b1, .string t1, .slice ad1 n1 cap1, .slice adk1 nk1 capk1]) [.int .i64 k0, .bool b0, .string t0, .slice ad0 n0 cap0, .slice adk0 nk0 capk0] [.int .i64 k1, .bool b1, .string t1, .slice ad1 n1 cap1, .slice adk1 nk1 capk1] W) := Lib.hid (fun h0 h1 => ownAt_of hv hx h0 h1 W hb hBW)
  have HX0 := Lib.hid (Two.new W #[.int .i64 k0, .bool b0, .string t0, .slice ad0 n0 cap0, .slice adk0 nk0 capk0] #[.int .i64 k1, .bool b1, .string t1, .slice ad1 n1 cap1, .slice adk1 nk1 capk1])
  clear hv hx hb hBW
  generalize goodT T = g0 at G0 HALL
  generalize goodT X = g1 at G1 HALL
  go_enter Tryz.func5, Tryz.ntmps5
  go_wp2_with fail
  go_at_call 11; refine (HAW.out _).mono ?_; rintro e w1 ⟨rfl, hb⟩
  have HX1 := Lib.hid (HX0.out.next hb)
  clear hb HX0
  have c00 := HX1.out.2.1.cell 0
  have c01 := HX1.out.2.1.cell 1
  have c02 := HX1.out.2.1.cell 2
  have c03 := HX1.out.2.1.cell 3
  have c04 := HX1.out.2.1.cell 4
  have c10 := HX1.out.2.2.cell 0
  have c11 := HX1.out.2.2.cell 1
  have c12 := HX1.out.2.2.cell 2
  have c13 := HX1.out.2.2.cell 3
  have c14 := HX1.out.2.2.cell 4
  cases g0
  · go_wp2_with fail
    go_at_call 12; refine (G0.out _ HX1.out.1).mono ?_; rintro e w2 ⟨rfl, hb⟩
    go_wp2_with fail
    go_ret
    exact ⟨by first | rfl | simp, HX1.out.1.trans (hb.mono HX1.out.1.size)⟩
  · go_wp2_with fail
    go_at_call 12; refine (G0.out _ HX1.out.1).mono ?_; rintro e w2 ⟨rfl, hb⟩
    clear c00 c01 c02 c03 c04 c10 c11 c12 c13 c14
    have HX2 := Lib.hid (HX1.out.next hb)
    clear hb HX1
    have c00 := HX2.out.2.1.cell 0
    have c01 := HX2.out.2.1.cell 1
    have c02 := HX2.out.2.1.cell 2
    have c03 := HX2.out.2.1.cell 3
    have c04 := HX2.out.2.1.cell 4
    have c10 := HX2.out.2.2.cell 0
    have c11 := HX2.out.2.2.cell 1
    have c12 := HX2.out.2.2.cell 2
    have c13 := HX2.out.2.2.cell 3
    have c14 := HX2.out.2.2.cell 4
    cases g1
    · go_wp2_with fail
      go_at_call 12; refine (G1.out _ HX2.out.1).mono ?_; rintro e w3 ⟨rfl, hb⟩
      go_wp2_with fail
      go_ret
      exact ⟨by first | rfl | simp, HX2.out.1.trans (hb.mono HX2.out.1.size)⟩
    · have HKA := Lib.hid (HALL.out (by first | rfl | trivial) (by first | rfl | trivial))
      clear HALL
      go_wp2_with fail
      go_at_call 12; refine (G1.out _ HX2.out.1).mono ?_; rintro e w3 ⟨rfl, hb⟩
      clear c00 c01 c02 c03 c04 c10 c11 c12 c13 c14
      have HX3 := Lib.hid (HX2.out.next hb)
      clear hb HX2 G0 G1 HAW
      have c00 := HX3.out.2.1.cell 0
      have c01 := HX3.out.2.1.cell 1
      have c02 := HX3.out.2.1.cell 2
      have c03 := HX3.out.2.1.cell 3
      have c04 := HX3.out.2.1.cell 4
      have c10 := HX3.out.2.2.cell 0
      have c11 := HX3.out.2.2.cell 1
      have c12 := HX3.out.2.2.cell 2
      have c13 := HX3.out.2.2.cell 3
      have c14 := HX3.out.2.2.cell 4
      go_upto_region 5 with fail
      have HC0 : Hid (w3.cell? ⟨W.heap.size, 0, none⟩ = some (.int .i64 k0) ∧ w3.cell? ⟨W.heap.size, 1, none⟩ = some (.bool b0) ∧ w3.cell? ⟨W.heap.size, 2, none⟩ = some (.string t0) ∧ w3.cell? ⟨W.heap.size, 3, none⟩ = some (.slice ad0 n0 cap0) ∧ w3.cell? ⟨W.heap.size, 4, none⟩ = some (.slice adk0 nk0 capk0) ∧ w3.cell? ⟨W.heap.size + 1, 0, none⟩ = some (.int .i64 k1) ∧ w3.cell? ⟨W.heap.size + 1, 1, none⟩ = some (.bool b1) ∧ w3.cell? ⟨W.heap.size + 1, 2, none⟩ = some (.string t1) ∧ w3.cell? ⟨W.heap.size + 1, 3, none⟩ = some (.slice ad1 n1 cap1) ∧ w3.cell? ⟨W.heap.size + 1, 4, none⟩ = some (.slice adk1 nk1 capk1)) := Lib.hid ⟨c00, c01, c02, c03, c04, c10, c11, c12, c13, c14⟩
      have HB3 : Hid (Below w3.heap.size w3 w3.drew) := Lib.hid ⟨rfl, rfl, rfl, Nat.le_refl _, fun _ _ => rfl⟩
      have HS0 : Hid (Below w3.heap.size w3 w3.drew) ∧ w3.drew.cell? ⟨W.heap.size, 0, none⟩ = some (.int .i64 k0) ∧ w3.drew.cell? ⟨W.heap.size, 1, none⟩ = some (.bool b0) ∧ w3.drew.cell? ⟨W.heap.size, 2, none⟩ = some (.string t0) ∧ w3.drew.cell? ⟨W.heap.size, 3, none⟩ = some (.slice ad0 n0 cap0) ∧ w3.drew.cell? ⟨W.heap.size, 4, none⟩ = some (.slice adk0 nk0 capk0) ∧ w3.drew.cell? ⟨W.heap.size + 1, 0, none⟩ = some (.int .i64 k1) ∧ w3.drew.cell? ⟨W.heap.size + 1, 1, none⟩ = some (.bool b1) ∧ w3.drew.cell? ⟨W.heap.size + 1, 2, none⟩ = some (.string t1) ∧ w3.drew.cell? ⟨W.heap.size + 1, 3, none⟩ = some (.slice ad1 n1 cap1) ∧ w3.drew.cell? ⟨W.heap.size + 1, 4, none⟩ = some (.slice adk1 nk1 capk1) := ⟨Lib.hid ⟨rfl, rfl, rfl, Nat.le_refl _, fun _ _ => rfl⟩, c00, c01, c02, c03, c04, c10, c11, c12, c13, c14⟩
      go_cut [7, 8] (fun s7 s8 wx => OwnCut W wx #[.int .i64 k0, .bool b0, .string t0, .slice ad0 n0 cap0, .slice adk0 nk0 capk0] #[.int .i64 k1, .bool b1, .string t1, .slice ad1 n1 cap1, .slice adk1 nk1 capk1] T X s7 s8)
      case first =>
        go_region_held3 (fun w' => Hid (Below w3.heap.size w3 w') ∧ w'.cell? ⟨W.heap.size, 0, none⟩ = some (.int .i64 k0) ∧ w'.cell? ⟨W.heap.size, 1, none⟩ = some (.bool b0) ∧ w'.cell? ⟨W.heap.size, 2, none⟩ = some (.string t0) ∧ w'.cell? ⟨W.heap.size, 3, none⟩ = some (.slice ad0 n0 cap0) ∧ w'.cell? ⟨W.heap.size, 4, none⟩ = some (.slice adk0 nk0 capk0) ∧ w'.cell? ⟨W.heap.size + 1, 0, none⟩ = some (.int .i64 k1) ∧ w'.cell? ⟨W.heap.size + 1, 1, none⟩ = some (.bool b1) ∧ w'.cell? ⟨W.heap.size + 1, 2, none⟩ = some (.string t1) ∧ w'.cell? ⟨W.heap.size + 1, 3, none⟩ = some (.slice ad1 n1 cap1) ∧ w'.cell? ⟨W.heap.size + 1, 4, none⟩ = some (.slice adk1 nk1 capk1))
          (first | with_reducible exact HS0 | (with_reducible refine keepB HC0 ?_; (repeat (first | with_reducible exact HB5.out | with_reducible exact HB4.out | with_reducible exact HB3.out | with_reducible refine bA ?_ | with_reducible exact Below.refl _ _ | with_reducible refine Below.drew ?_ | ((with_reducible refine bS ?_ ?_); rotate_left; (dsimp only; omega))))))
          (first
            | (go_at_call 23; (with_reducible refine (HKA.out.rv _ ?_).mono ?_); (have hbS := ‹Hid (Below w3.heap.size w3 _) ∧ _›.1.out; exact HX3.out.1.trans (hbS.mono HX3.out.1.size)); rintro e w4 ⟨va, rfl, hfa, hb4⟩; have HB4 := Lib.hid ((‹Hid (Below w3.heap.size w3 _) ∧ _›.1.out).trans (hb4.mono (‹Hid (Below w3.heap.size w3 _) ∧ _›.1.out).size)); have hz4 := HB4.out.size; have hy4 := hb4.size; (try simp at hy4); obtain ⟨k2, b2, t2, ad2, n2, cap2, adk2, nk2, capk2, rfl⟩ := hfa.shape)
            | (go_at_call 23; (with_reducible refine (HKA.out.rx _ ?_).mono ?_); (have hbS := ‹Hid (Below w3.heap.size w3 _) ∧ _›.1.out; exact HX3.out.1.trans (hbS.mono HX3.out.1.size)); rintro e w5 ⟨vb, rfl, hfb, hb5⟩; have HB5 := Lib.hid ((‹Hid (Below w3.heap.size w3 _) ∧ _›.1.out).trans (hb5.mono (‹Hid (Below w3.heap.size w3 _) ∧ _›.1.out).size)); have hz5 := HB5.out.size; have hy5 := hb5.size; (try simp at hy5); obtain ⟨k3, b3, t3, ad3, n3, cap3, adk3, nk3, capk3, rfl⟩ := hfb.shape; (try (refine (have ne0 : ¬ w3.heap.size = w5.heap.size := ?_; ?_); (· omega); have ne0' : ¬ w5.heap.size = w3.heap.size := Ne.symm ne0)); (try (refine (have ne1 : ¬ w3.heap.size + 1 = w5.heap.size := ?_; ?_); (· omega); have ne1' : ¬ w5.heap.size = w3.heap.size + 1 := Ne.symm ne1)); (try (refine (have ne2 : ¬ w4.heap.size = w5.heap.size := ?_; ?_); (· omega); have ne2' : ¬ w5.heap.size = w4.heap.size := Ne.symm ne2)); (try (refine (have ne3 : ¬ w4.heap.size + 1 = w5.heap.size := ?_; ?_); (· omega); have ne3' : ¬ w5.heap.size = w4.heap.size + 1 := Ne.symm ne3)); (try (refine (have ne4 : ¬ w3.heap.size = w4.heap.size := ?_; ?_); (· omega); have ne4' : ¬ w4.heap.size = w3.heap.size := Ne.symm ne4)); (try (refine (have ne5 : ¬ w3.heap.size + 1 = w4.heap.size := ?_; ?_); (· omega); have ne5' : ¬ w4.heap.size = w3.heap.size + 1 := Ne.symm ne5)); (try (refine (have bpa : Blk w5 w3.heap.size #[.int .i64 0, .bool false, .string ⟨#[]⟩, .slice none 0 0, .slice none 0 0] 26 := ?_; ?_); (· (repeat (first | with_reducible exact bpa.out | with_reducible exact bpb.out | with_reducible exact bpc.out | with_reducible exact bpd.out | ((with_reducible refine Blk.fresh ?_); (first | with_reducible rfl | (simp; done))) | with_reducible refine Blk.alloc ?_ _ | with_reducible refine Blk.drw ?_ | with_reducible refine Blk.set5n ?_ _ _ _ _ _ | ((with_reducible refine Blk.off5 ?_ ?_ _ _ _ _ _); rotate_left; omega) | with_reducible refine Blk.below ?_ hb5 | with_reducible refine Blk.below ?_ hb4))); have bpac := bpa.cell; have bpaf := bpa.frozen; have bpaca := fun o => (bpa.alloc o).cell; have bpafa := fun o => (bpa.alloc o).frozen; replace bpa := Lib.hid bpa)); (try (refine (have bpb : Blk w5 (w3.heap.size + 1) #[.int .i64 0, .bool false, .string ⟨#[]⟩, .slice none 0 0, .slice none 0 0] 26 := ?_; ?_); (· (repeat (first | with_reducible exact bpa.out | with_reducible exact bpb.out | with_reducible exact bpc.out | with_reducible exact bpd.out | ((with_reducible refine Blk.fresh ?_); (first | with_reducible rfl | (simp; done))) | with_reducible refine Blk.alloc ?_ _ | with_reducible refine Blk.drw ?_ | with_reducible refine Blk.set5n ?_ _ _ _ _ _ | ((with_reducible refine Blk.off5 ?_ ?_ _ _ _ _ _); rotate_left; omega) | with_reducible refine Blk.below ?_ hb5 | with_reducible refine Blk.below ?_ hb4))); have bpbc := bpb.cell; have bpbf := bpb.frozen; have bpbca := fun o => (bpb.alloc o).cell; have bpbfa := fun o => (bpb.alloc o).frozen; replace bpb := Lib.hid bpb)); (try (refine (have bpc : Blk w5 w4.heap.size #[.int .i64 0, .bool false, .string ⟨#[]⟩, .slice none 0 0, .slice none 0 0] 26 := ?_; ?_); (· (repeat (first | with_reducible exact bpa.out | with_reducible exact bpb.out | with_reducible exact bpc.out | with_reducible exact bpd.out | ((with_reducible refine Blk.fresh ?_); (first | with_reducible rfl | (simp; done))) | with_reducible refine Blk.alloc ?_ _ | with_reducible refine Blk.drw ?_ | with_reducible refine Blk.set5n ?_ _ _ _ _ _ | ((with_reducible refine Blk.off5 ?_ ?_ _ _ _ _ _); rotate_left; omega) | with_reducible refine Blk.below ?_ hb5 | with_reducible refine Blk.below ?_ hb4))); have bpcc := bpc.cell; have bpcf := bpc.frozen; have bpcca := fun o => (bpc.alloc o).cell; have bpcfa := fun o => (bpc.alloc o).frozen; replace bpc := Lib.hid bpc)); (try (refine (have bpd : Blk w5 (w4.heap.size + 1) #[.int .i64 0, .bool false, .string ⟨#[]⟩, .slice none 0 0, .slice none 0 0] 26 := ?_; ?_); (· (repeat (first | with_reducible exact bpa.out | with_reducible exact bpb.out | with_reducible exact bpc.out | with_reducible exact bpd.out | ((with_reducible refine Blk.fresh ?_); (first | with_reducible rfl | (simp; done))) | with_reducible refine Blk.alloc ?_ _ | with_reducible refine Blk.drw ?_ | with_reducible refine Blk.set5n ?_ _ _ _ _ _ | ((with_reducible refine Blk.off5 ?_ ?_ _ _ _ _ _); rotate_left; omega) | with_reducible refine Blk.below ?_ hb5 | with_reducible refine Blk.below ?_ hb4))); have bpdc := bpd.cell; have bpdf := bpd.frozen; have bpdca := fun o => (bpd.alloc o).cell; have bpdfa := fun o => (bpd.alloc o).frozen; replace bpd := Lib.hid bpd))))
        all_goals
          go_wp2_with fail
          go_meet
          with_reducible refine OwnCut.mk (OwnM.of HX3.out ?_ ?_ ?_ hfa hfb ?_ ?_ ?_)
          · (repeat (first | with_reducible exact HB5.out | with_reducible exact HB4.out | with_reducible exact HB3.out | with_reducible refine bA ?_ | with_reducible exact Below.refl _ _ | with_reducible refine Below.drew ?_ | ((with_reducible refine bS ?_ ?_); rotate_left; (dsimp only; omega))))
          · repeat (first | with_reducible exact bpa.out | with_reducible exact bpb.out | with_reducible exact bpc.out | with_reducible exact bpd.out | ((with_reducible refine Blk.fresh ?_); (first | with_reducible rfl | (simp; done))) | with_reducible refine Blk.alloc ?_ _ | with_reducible refine Blk.drw ?_ | with_reducible refine Blk.set5n ?_ _ _ _ _ _ | ((with_reducible refine Blk.off5 ?_ ?_ _ _ _ _ _); rotate_left; omega))
          · repeat (first | with_reducible exact bpa.out | with_reducible exact bpb.out | with_reducible exact bpc.out | with_reducible exact bpd.out | ((with_reducible refine Blk.fresh ?_); (first | with_reducible rfl | (simp; done))) | with_reducible refine Blk.alloc ?_ _ | with_reducible refine Blk.drw ?_ | with_reducible refine Blk.set5n ?_ _ _ _ _ _ | ((with_reducible refine Blk.off5 ?_ ?_ _ _ _ _ _); rotate_left; omega))
          · repeat (first | with_reducible exact Ex.refl _ _ _ | with_reducible refine Ex.drw ?_ | with_reducible refine Ex.alloc ?_ | with_reducible refine Ex.setl ?_ | with_reducible refine Ex.setr ?_ | with_reducible refine Ex.below ?_ hb5)
          · repeat (first | with_reducible exact Ex.refl _ _ _ | with_reducible refine Ex.drw ?_ | with_reducible refine Ex.alloc ?_ | with_reducible refine Ex.setl ?_ | with_reducible refine Ex.setr ?_ | with_reducible refine Ex.below ?_ hb5)
          · refine ⟨?_, ?_, ?_, ?_⟩ <;> first | omega | (simp; done) | (simp; omega)
      case rest =>
        obtain ⟨A7, A8, k2, b2, t2, ad2, n2, cap2, adk2, nk2, capk2, k3, b3, t3, ad3, n3, cap3, adk3, nk3, capk3, rfl, rfl, hM⟩ := hcut
        have HM0 := Lib.hid hM
        clear hM HX3 HC0 HS0 HB3 c00 c01 c02 c03 c04 c10 c11 c12 c13 c14
        obtain ⟨wr, hwr⟩ : ∃ wr : World, wr = wc := ⟨_, rfl⟩
        subst hwr
        have c00 := HM0.out.two.2.1.cell 0
        have c01 := HM0.out.two.2.1.cell 1
        have c02 := HM0.out.two.2.1.cell 2
        have c03 := HM0.out.two.2.1.cell 3
        have c04 := HM0.out.two.2.1.cell 4
        go_wp2_with fail
        go_at_call 17; refine (HKA.out.gv _ HM0.out.two.1).mono ?_; rintro e w6 ⟨gv, T4, ok, rfl, hfg, hb6⟩
        obtain ⟨k4, b4, t4, ad4, n4, cap4, adk4, nk4, capk4, rfl⟩ := hfg.shape
        have hB7 : Below w6.heap.size w6 (((w6.alloc (.cells #[.int .i64 k4, .bool b4, .string t4, .slice ad4 n4 cap4, .slice adk4 nk4 capk4] 26)).alloc (.cells #[.string ⟨#[112]⟩, .string ⟨#[113]⟩] 9)).alloc (.cells #[.int .i64 k0, .bool b0, .string t0, .slice ad0 n0 cap0, .slice adk0 nk0 capk0, .int .i64 k1, .bool b1, .string t1, .slice ad1 n1 cap1, .slice adk1 nk1 capk1] 26)) := bA (bA (bA (Below.refl _ _)))
        have HMP := Lib.hid ((HM0.out.next hb6).next hB7)
        have HTW := Lib.hid HMP.out.two.1
        have HPK : Hid (Blk (((w6.alloc (.cells #[.int .i64 k4, .bool b4, .string t4, .slice ad4 n4 cap4, .slice adk4 nk4 capk4] 26)).alloc (.cells #[.string ⟨#[112]⟩, .string ⟨#[113]⟩] 9)).alloc (.cells #[.int .i64 k0, .bool b0, .string t0, .slice ad0 n0 cap0, .slice adk0 nk0 capk0, .int .i64 k1, .bool b1, .string t1, .slice ad1 n1 cap1, .slice adk1 nk1 capk1] 26)) (w6.heap.size + 1) #[.string ⟨#[112]⟩, .string ⟨#[113]⟩] 9) := Lib.hid ((Blk.fresh (by simp)).alloc _)
        have HPY : Hid (Blk (((w6.alloc (.cells #[.int .i64 k4, .bool b4, .string t4, .slice ad4 n4 cap4, .slice adk4 nk4 capk4] 26)).alloc (.cells #[.string ⟨#[112]⟩, .string ⟨#[113]⟩] 9)).alloc (.cells #[.int .i64 k0, .bool b0, .string t0, .slice ad0 n0 cap0, .slice adk0 nk0 capk0, .int .i64 k1, .bool b1, .string t1, .slice ad1 n1 cap1, .slice adk1 nk1 capk1] 26)) (w6.heap.size + 2) #[.int .i64 k0, .bool b0, .string t0, .slice ad0 n0 cap0, .slice adk0 nk0 capk0, .int .i64 k1, .bool b1, .string t1, .slice ad1 n1 cap1, .slice adk1 nk1 capk1] 26) := Lib.hid (Blk.fresh (by simp))
        have HPG : Hid (Blk (((w6.alloc (.cells #[.int .i64 k4, .bool b4, .string t4, .slice ad4 n4 cap4, .slice adk4 nk4 capk4] 26)).alloc (.cells #[.string ⟨#[112]⟩, .string ⟨#[113]⟩] 9)).alloc (.cells #[.int .i64 k0, .bool b0, .string t0, .slice ad0 n0 cap0, .slice adk0 nk0 capk0, .int .i64 k1, .bool b1, .string t1, .slice ad1 n1 cap1, .slice adk1 nk1 capk1] 26)) w6.heap.size #[.int .i64 k4, .bool b4, .string t4, .slice ad4 n4 cap4, .slice adk4 nk4 capk4] 26) := Lib.hid (((Blk.new w6 _ _).alloc _).alloc _)
        have HFG : Hid (Fresh wr.heap.size w6.heap.size (((w6.alloc (.cells #[.int .i64 k4, .bool b4, .string t4, .slice ad4 n4 cap4, .slice adk4 nk4 capk4] 26)).alloc (.cells #[.string ⟨#[112]⟩, .string ⟨#[113]⟩] 9)).alloc (.cells #[.int .i64 k0, .bool b0, .string t0, .slice ad0 n0 cap0, .slice adk0 nk0 capk0, .int .i64 k1, .bool b1, .string t1, .slice ad1 n1 cap1, .slice adk1 nk1 capk1] 26)) (.agg #[.int .i64 k4, .bool b4, .string t4, .slice ad4 n4 cap4, .slice adk4 nk4 capk4]) T4) := Lib.hid (hfg.keep (fun g _ hg => hB7.block g hg) (Nat.le_refl _) (Nat.le_refl _))
        have HBP : Hid (Below wr.heap.size wr (((w6.alloc (.cells #[.int .i64 k4, .bool b4, .string t4, .slice ad4 n4 cap4, .slice adk4 nk4 capk4] 26)).alloc (.cells #[.string ⟨#[112]⟩, .string ⟨#[113]⟩] 9)).alloc (.cells #[.int .i64 k0, .bool b0, .string t0, .slice ad0 n0 cap0, .slice adk0 nk0 capk0, .int .i64 k1, .bool b1, .string t1, .slice ad1 n1 cap1, .slice adk1 nk1 capk1] 26))) := Lib.hid (hb6.trans (hB7.mono hb6.size))
        have HSZ : Hid ((((w6.alloc (.cells #[.int .i64 k4, .bool b4, .string t4, .slice ad4 n4 cap4, .slice adk4 nk4 capk4] 26)).alloc (.cells #[.string ⟨#[112]⟩, .string ⟨#[113]⟩] 9)).alloc (.cells #[.int .i64 k0, .bool b0, .string t0, .slice ad0 n0 cap0, .slice adk0 nk0 capk0, .int .i64 k1, .bool b1, .string t1, .slice ad1 n1 cap1, .slice adk1 nk1 capk1] 26)).heap.size = w6.heap.size + 3) := Lib.hid (by simp)
        have hz6 := hb6.size
        clear c00 c01 c02 c03 c04
        have hx1 := (HM0.out.next hb6)
        have c00 := (hx1.two.2.1.alloc (.cells #[.int .i64 k4, .bool b4, .string t4, .slice ad4 n4 cap4, .slice adk4 nk4 capk4] 26)).cell 0
        have c01 := (hx1.two.2.1.alloc (.cells #[.int .i64 k4, .bool b4, .string t4, .slice ad4 n4 cap4, .slice adk4 nk4 capk4] 26)).cell 1
        have c02 := (hx1.two.2.1.alloc (.cells #[.int .i64 k4, .bool b4, .string t4, .slice ad4 n4 cap4, .slice adk4 nk4 capk4] 26)).cell 2
        have c03 := (hx1.two.2.1.alloc (.cells #[.int .i64 k4, .bool b4, .string t4, .slice ad4 n4 cap4, .slice adk4 nk4 capk4] 26)).cell 3
        have c04 := (hx1.two.2.1.alloc (.cells #[.int .i64 k4, .bool b4, .string t4, .slice ad4 n4 cap4, .slice adk4 nk4 capk4] 26)).cell 4
        have c10 := (hx1.two.2.2.alloc (.cells #[.int .i64 k4, .bool b4, .string t4, .slice ad4 n4 cap4, .slice adk4 nk4 capk4] 26)).cell 0
        have c11 := (hx1.two.2.2.alloc (.cells #[.int .i64 k4, .bool b4, .string t4, .slice ad4 n4 cap4, .slice adk4 nk4 capk4] 26)).cell 1
        have c12 := (hx1.two.2.2.alloc (.cells #[.int .i64 k4, .bool b4, .string t4, .slice ad4 n4 cap4, .slice adk4 nk4 capk4] 26)).cell 2
        have c13 := (hx1.two.2.2.alloc (.cells #[.int .i64 k4, .bool b4, .string t4, .slice ad4 n4 cap4, .slice adk4 nk4 capk4] 26)).cell 3
        have c14 := (hx1.two.2.2.alloc (.cells #[.int .i64 k4, .bool b4, .string t4, .slice ad4 n4 cap4, .slice adk4 nk4 capk4] 26)).cell 4
        have d00 := ((hx1.two.2.1.alloc (.cells #[.int .i64 k4, .bool b4, .string t4, .slice ad4 n4 cap4, .slice adk4 nk4 capk4] 26)).alloc (.cells #[.string ⟨#[112]⟩, .string ⟨#[113]⟩] 9)).cell 0
        have d01 := ((hx1.two.2.1.alloc (.cells #[.int .i64 k4, .bool b4, .string t4, .slice ad4 n4 cap4, .slice adk4 nk4 capk4] 26)).alloc (.cells #[.string ⟨#[112]⟩, .string ⟨#[113]⟩] 9)).cell 1
        have d02 := ((hx1.two.2.1.alloc (.cells #[.int .i64 k4, .bool b4, .string t4, .slice ad4 n4 cap4, .slice adk4 nk4 capk4] 26)).alloc (.cells #[.string ⟨#[112]⟩, .string ⟨#[113]⟩] 9)).cell 2
        have d03 := ((hx1.two.2.1.alloc (.cells #[.int .i64 k4, .bool b4, .string t4, .slice ad4 n4 cap4, .slice adk4 nk4 capk4] 26)).alloc (.cells #[.string ⟨#[112]⟩, .string ⟨#[113]⟩] 9)).cell 3
        have d04 := ((hx1.two.2.1.alloc (.cells #[.int .i64 k4, .bool b4, .string t4, .slice ad4 n4 cap4, .slice adk4 nk4 capk4] 26)).alloc (.cells #[.string ⟨#[112]⟩, .string ⟨#[113]⟩] 9)).cell 4
        have d10 := ((hx1.two.2.2.alloc (.cells #[.int .i64 k4, .bool b4, .string t4, .slice ad4 n4 cap4, .slice adk4 nk4 capk4] 26)).alloc (.cells #[.string ⟨#[112]⟩, .string ⟨#[113]⟩] 9)).cell 0
        have d11 := ((hx1.two.2.2.alloc (.cells #[.int .i64 k4, .bool b4, .string t4, .slice ad4 n4 cap4, .slice adk4 nk4 capk4] 26)).alloc (.cells #[.string ⟨#[112]⟩, .string ⟨#[113]⟩] 9)).cell 1
        have d12 := ((hx1.two.2.2.alloc (.cells #[.int .i64 k4, .bool b4, .string t4, .slice ad4 n4 cap4, .slice adk4 nk4 capk4] 26)).alloc (.cells #[.string ⟨#[112]⟩, .string ⟨#[113]⟩] 9)).cell 2
        have d13 := ((hx1.two.2.2.alloc (.cells #[.int .i64 k4, .bool b4, .string t4, .slice ad4 n4 cap4, .slice adk4 nk4 capk4] 26)).alloc (.cells #[.string ⟨#[112]⟩, .string ⟨#[113]⟩] 9)).cell 3
        have d14 := ((hx1.two.2.2.alloc (.cells #[.int .i64 k4, .bool b4, .string t4, .slice ad4 n4 cap4, .slice adk4 nk4 capk4] 26)).alloc (.cells #[.string ⟨#[112]⟩, .string ⟨#[113]⟩] 9)).cell 4
        clear hx1 hfg hb6 hB7
        go_wp2_with fail
        go_at_call 24; (with_reducible refine (HKA.out.ov _ (w6.heap.size + 1) (w6.heap.size + 2) HTW.out HPK.out ?_).mono ?_); (exact HPY.out); rintro e w8 ⟨ov, T5, rfl, hfo, hb8⟩
        obtain ⟨k5, b5, t5, ad5, n5, cap5, adk5, nk5, capk5, rfl⟩ := hfo.shape
        clear c00 c01 c02 c03 c04 c10 c11 c12 c13 c14 d00 d01 d02 d03 d04 d10 d11 d12 d13 d14
        have hbn := below_new w8 (.cells #[.int .i64 k5, .bool b5, .string t5, .slice ad5 n5 cap5, .slice adk5 nk5 capk5] 26)
        have H89 : Hid (Below w8.heap.size w8 (w8.alloc (.cells #[.int .i64 k5, .bool b5, .string t5, .slice ad5 n5 cap5, .slice adk5 nk5 capk5] 26))) := Lib.hid hbn
        have HM9 := Lib.hid ((HMP.out.next hb8).next hbn)
        have HG9 := Lib.hid ((HPG.out.below hb8).below hbn)
        have HO9 := Lib.hid (Blk.new w8 #[.int .i64 k5, .bool b5, .string t5, .slice ad5 n5 cap5, .slice adk5 nk5 capk5] 26)
        have HFG9 := Lib.hid (HFG.out.keep (W' := w8.alloc (.cells #[.int .i64 k5, .bool b5, .string t5, .slice ad5 n5 cap5, .slice adk5 nk5 capk5] 26)) (fun g _ hg => (hbn.block g (by have := hb8.size; have := HSZ.out; omega)).trans (hb8.block g (by have := HSZ.out; omega))) (Nat.le_refl _) (Nat.le_refl _))
        have HFO9 := Lib.hid (hfo.keep (W' := w8.alloc (.cells #[.int .i64 k5, .bool b5, .string t5, .slice ad5 n5 cap5, .slice adk5 nk5 capk5] 26)) (fun g _ hg => hbn.block g hg) (Nat.le_refl _) (Nat.le_refl _))
        have HBP9 := Lib.hid ((HBP.out.trans (hb8.mono HBP.out.size)).trans (hbn.mono (Nat.le_trans HBP.out.size hb8.size)))
        have HZ9 : Hid (w6.heap.size ≤ (((w6.alloc (.cells #[.int .i64 k4, .bool b4, .string t4, .slice ad4 n4 cap4, .slice adk4 nk4 capk4] 26)).alloc (.cells #[.string ⟨#[112]⟩, .string ⟨#[113]⟩] 9)).alloc (.cells #[.int .i64 k0, .bool b0, .string t0, .slice ad0 n0 cap0, .slice adk0 nk0 capk0, .int .i64 k1, .bool b1, .string t1, .slice ad1 n1 cap1, .slice adk1 nk1 capk1] 26)).heap.size ∧ (((w6.alloc (.cells #[.int .i64 k4, .bool b4, .string t4, .slice ad4 n4 cap4, .slice adk4 nk4 capk4] 26)).alloc (.cells #[.string ⟨#[112]⟩, .string ⟨#[113]⟩] 9)).alloc (.cells #[.int .i64 k0, .bool b0, .string t0, .slice ad0 n0 cap0, .slice adk0 nk0 capk0, .int .i64 k1, .bool b1, .string t1, .slice ad1 n1 cap1, .slice adk1 nk1 capk1] 26)).heap.size ≤ w8.heap.size ∧ (w8.alloc (.cells #[.int .i64 k5, .bool b5, .string t5, .slice ad5 n5 cap5, .slice adk5 nk5 capk5] 26)).heap.size = w8.heap.size + 1) := Lib.hid ⟨by have := HSZ.out; omega, hb8.size, by simp⟩
        clear hfo hb8 hbn HMP HPK HPY HPG HFG HBP HSZ H89
        generalize (((w6.alloc (.cells #[.int .i64 k4, .bool b4, .string t4, .slice ad4 n4 cap4, .slice adk4 nk4 capk4] 26)).alloc (.cells #[.string ⟨#[112]⟩, .string ⟨#[113]⟩] 9)).alloc (.cells #[.int .i64 k0, .bool b0, .string t0, .slice ad0 n0 cap0, .slice adk0 nk0 capk0, .int .i64 k1, .bool b1, .string t1, .slice ad1 n1 cap1, .slice adk1 nk1 capk1] 26)).heap.size = L5 at HFO9 HZ9
        go_upto_region 8 with fail
        generalize w8.alloc (.cells #[.int .i64 k5, .bool b5, .string t5, .slice ad5 n5 cap5, .slice adk5 nk5 capk5] 26) = w9 at *
        generalize hA11 : w8.heap.size = A11 at *
        generalize hA9 : w6.heap.size = A9 at *
        clear hA11 hA9
        have g0 := HG9.out.cell 0
        have g1 := HG9.out.cell 1
        have g2 := HG9.out.cell 2
        have g3 := HG9.out.cell 3
        have g4 := HG9.out.cell 4
        have o0 := HO9.out.cell 0
        have o1 := HO9.out.cell 1
        have o2 := HO9.out.cell 2
        have o3 := HO9.out.cell 3
        have o4 := HO9.out.cell 4
        have c00 := HM9.out.two.2.1.cell 0
        have c01 := HM9.out.two.2.1.cell 1
        have c02 := HM9.out.two.2.1.cell 2
        have c03 := HM9.out.two.2.1.cell 3
        have c04 := HM9.out.two.2.1.cell 4
        have c10 := HM9.out.two.2.2.cell 0
        have c11 := HM9.out.two.2.2.cell 1
        have c12 := HM9.out.two.2.2.cell 2
        have c13 := HM9.out.two.2.2.cell 3
        have c14 := HM9.out.two.2.2.cell 4
        have HC9 : Hid (w9.cell? ⟨W.heap.size, 0, none⟩ = some (.int .i64 k0) ∧ w9.cell? ⟨W.heap.size, 1, none⟩ = some (.bool b0) ∧ w9.cell? ⟨W.heap.size, 2, none⟩ = some (.string t0) ∧ w9.cell? ⟨W.heap.size, 3, none⟩ = some (.slice ad0 n0 cap0) ∧ w9.cell? ⟨W.heap.size, 4, none⟩ = some (.slice adk0 nk0 capk0) ∧ w9.cell? ⟨W.heap.size + 1, 0, none⟩ = some (.int .i64 k1) ∧ w9.cell? ⟨W.heap.size + 1, 1, none⟩ = some (.bool b1) ∧ w9.cell? ⟨W.heap.size + 1, 2, none⟩ = some (.string t1) ∧ w9.cell? ⟨W.heap.size + 1, 3, none⟩ = some (.slice ad1 n1 cap1) ∧ w9.cell? ⟨W.heap.size + 1, 4, none⟩ = some (.slice adk1 nk1 capk1) ∧ w9.cell? ⟨A9, 0, none⟩ = some (.int .i64 k4) ∧ w9.cell? ⟨A9, 1, none⟩ = some (.bool b4) ∧ w9.cell? ⟨A9, 2, none⟩ = some (.string t4) ∧ w9.cell? ⟨A9, 3, none⟩ = some (.slice ad4 n4 cap4) ∧ w9.cell? ⟨A9, 4, none⟩ = some (.slice adk4 nk4 capk4) ∧ w9.cell? ⟨A11, 0, none⟩ = some (.int .i64 k5) ∧ w9.cell? ⟨A11, 1, none⟩ = some (.bool b5) ∧ w9.cell? ⟨A11, 2, none⟩ = some (.string t5) ∧ w9.cell? ⟨A11, 3, none⟩ = some (.slice ad5 n5 cap5) ∧ w9.cell? ⟨A11, 4, none⟩ = some (.slice adk5 nk5 capk5)) := Lib.hid ⟨c00, c01, c02, c03, c04, c10, c11, c12, c13, c14, g0, g1, g2, g3, g4, o0, o1, o2, o3, o4⟩
        have HB9 : Hid (Below w9.heap.size w9 w9.drew) := Lib.hid ⟨rfl, rfl, rfl, Nat.le_refl _, fun _ _ => rfl⟩
        have HS9 : Hid (Below w9.heap.size w9 w9.drew) ∧ w9.drew.cell? ⟨W.heap.size, 0, none⟩ = some (.int .i64 k0) ∧ w9.drew.cell? ⟨W.heap.size, 1, none⟩ = some (.bool b0) ∧ w9.drew.cell? ⟨W.heap.size, 2, none⟩ = some (.string t0) ∧ w9.drew.cell? ⟨W.heap.size, 3, none⟩ = some (.slice ad0 n0 cap0) ∧ w9.drew.cell? ⟨W.heap.size, 4, none⟩ = some (.slice adk0 nk0 capk0) ∧ w9.drew.cell? ⟨W.heap.size + 1, 0, none⟩ = some (.int .i64 k1) ∧ w9.drew.cell? ⟨W.heap.size + 1, 1, none⟩ = some (.bool b1) ∧ w9.drew.cell? ⟨W.heap.size + 1, 2, none⟩ = some (.string t1) ∧ w9.drew.cell? ⟨W.heap.size + 1, 3, none⟩ = some (.slice ad1 n1 cap1) ∧ w9.drew.cell? ⟨W.heap.size + 1, 4, none⟩ = some (.slice adk1 nk1 capk1) ∧ w9.drew.cell? ⟨A9, 0, none⟩ = some (.int .i64 k4) ∧ w9.drew.cell? ⟨A9, 1, none⟩ = some (.bool b4) ∧ w9.drew.cell? ⟨A9, 2, none⟩ = some (.string t4) ∧ w9.drew.cell? ⟨A9, 3, none⟩ = some (.slice ad4 n4 cap4) ∧ w9.drew.cell? ⟨A9, 4, none⟩ = some (.slice adk4 nk4 capk4) ∧ w9.drew.cell? ⟨A11, 0, none⟩ = some (.int .i64 k5) ∧ w9.drew.cell? ⟨A11, 1, none⟩ = some (.bool b5) ∧ w9.drew.cell? ⟨A11, 2, none⟩ = some (.string t5) ∧ w9.drew.cell? ⟨A11, 3, none⟩ = some (.slice ad5 n5 cap5) ∧ w9.drew.cell? ⟨A11, 4, none⟩ = some (.slice adk5 nk5 capk5) := ⟨Lib.hid ⟨rfl, rfl, rfl, Nat.le_refl _, fun _ _ => rfl⟩, c00, c01, c02, c03, c04, c10, c11, c12, c13, c14, g0, g1, g2, g3, g4, o0, o1, o2, o3, o4⟩
        go_cut [58, 59, 60] (fun s58 s59 s60 wx => OwnLoop wr wx s58 s59 s60)
        case first =>
          go_region_held3 (fun w' => Hid (Below w9.heap.size w9 w') ∧ w'.cell? ⟨W.heap.size, 0, none⟩ = some (.int .i64 k0) ∧ w'.cell? ⟨W.heap.size, 1, none⟩ = some (.bool b0) ∧ w'.cell? ⟨W.heap.size, 2, none⟩ = some (.string t0) ∧ w'.cell? ⟨W.heap.size, 3, none⟩ = some (.slice ad0 n0 cap0) ∧ w'.cell? ⟨W.heap.size, 4, none⟩ = some (.slice adk0 nk0 capk0) ∧ w'.cell? ⟨W.heap.size + 1, 0, none⟩ = some (.int .i64 k1) ∧ w'.cell? ⟨W.heap.size + 1, 1, none⟩ = some (.bool b1) ∧ w'.cell? ⟨W.heap.size + 1, 2, none⟩ = some (.string t1) ∧ w'.cell? ⟨W.heap.size + 1, 3, none⟩ = some (.slice ad1 n1 cap1) ∧ w'.cell? ⟨W.heap.size + 1, 4, none⟩ = some (.slice adk1 nk1 capk1) ∧ w'.cell? ⟨A9, 0, none⟩ = some (.int .i64 k4) ∧ w'.cell? ⟨A9, 1, none⟩ = some (.bool b4) ∧ w'.cell? ⟨A9, 2, none⟩ = some (.string t4) ∧ w'.cell? ⟨A9, 3, none⟩ = some (.slice ad4 n4 cap4) ∧ w'.cell? ⟨A9, 4, none⟩ = some (.slice adk4 nk4 capk4) ∧ w'.cell? ⟨A11, 0, none⟩ = some (.int .i64 k5) ∧ w'.cell? ⟨A11, 1, none⟩ = some (.bool b5) ∧ w'.cell? ⟨A11, 2, none⟩ = some (.string t5) ∧ w'.cell? ⟨A11, 3, none⟩ = some (.slice ad5 n5 cap5) ∧ w'.cell? ⟨A11, 4, none⟩ = some (.slice adk5 nk5 capk5))
            (first | with_reducible exact HS9 | (with_reducible refine keepC HC9 ?_; (repeat (first | with_reducible exact HBd.out | with_reducible exact HBc.out | with_reducible exact HBb.out | with_reducible exact HBa.out | with_reducible exact HB9.out | with_reducible refine bA ?_ | with_reducible exact Below.refl _ _ | with_reducible refine Below.drew ?_))))
            (first
              | (go_at_call 19; (with_reducible refine (HKA.out.pv _ ?_).mono ?_); (have hbS := ‹Hid (Below w9.heap.size w9 _) ∧ _›.1.out; exact HM9.out.two.1.trans (hbS.mono HM9.out.two.1.size)); rintro e wa ⟨va, T6, rfl, hfa, hba⟩; have HBa := Lib.hid ((‹Hid (Below w9.heap.size w9 _) ∧ _›.1.out).trans (hba.mono (‹Hid (Below w9.heap.size w9 _) ∧ _›.1.out).size)); have hza := HBa.out.size; have hya := hba.size; (try simp at hya); obtain ⟨k6, b6, t6, ad6, n6, cap6, adk6, nk6, capk6, rfl⟩ := hfa.shape)
              | (go_at_call 21; (with_reducible refine (HKA.out.dv _ ?_).mono ?_); (have hbS := ‹Hid (Below w9.heap.size w9 _) ∧ _›.1.out; exact HM9.out.two.1.trans (hbS.mono HM9.out.two.1.size)); rintro e wb ⟨vb, T7, rfl, hfb, hbb⟩; have HBb := Lib.hid ((‹Hid (Below w9.heap.size w9 _) ∧ _›.1.out).trans (hbb.mono (‹Hid (Below w9.heap.size w9 _) ∧ _›.1.out).size)); have hzb := HBb.out.size; have hyb := hbb.size; (try simp at hyb); obtain ⟨k7, b7, t7, ad7, n7, cap7, adk7, nk7, capk7, rfl⟩ := hfb.shape)
              | (go_at_call 25; (with_reducible refine (HKA.out.cl _ ?_).mono ?_); (have hbS := ‹Hid (Below w9.heap.size w9 _) ∧ _›.1.out; exact HM9.out.two.1.trans (hbS.mono HM9.out.two.1.size)); rintro e wc ⟨vc, T8, rfl, hfc, hbc⟩; have HBc := Lib.hid ((‹Hid (Below w9.heap.size w9 _) ∧ _›.1.out).trans (hbc.mono (‹Hid (Below w9.heap.size w9 _) ∧ _›.1.out).size)); have hzc := HBc.out.size; have hyc := hbc.size; (try simp at hyc); obtain ⟨k8, b8, t8, ad8, n8, cap8, adk8, nk8, capk8, rfl⟩ := hfc.shape)
              | (go_at_call 26; (with_reducible refine (HKA.out.lv _ _ ?_ ?_).mono ?_); (have hbS := ‹Hid (Below w9.heap.size w9 _) ∧ _›.1.out; exact HM9.out.two.1.trans (hbS.mono HM9.out.two.1.size)); (show Blk _ _ #[.int .i64 k0, .bool b0, .string t0, .slice ad0 n0 cap0, .slice adk0 nk0 capk0, .int .i64 k1, .bool b1, .string t1, .slice ad1 n1 cap1, .slice adk1 nk1 capk1] 26; (repeat (first | ((with_reducible refine Blk.fresh ?_); (first | with_reducible rfl | (simp; done))) | with_reducible refine Blk.alloc ?_ _ | with_reducible refine Blk.below ?_ hbc | with_reducible refine Blk.below ?_ hbb | with_reducible refine Blk.below ?_ hba | with_reducible refine Blk.drw ?_))); rintro e wd ⟨vd, T9, rfl, hfd, hbd⟩; have HBd := Lib.hid ((‹Hid (Below w9.heap.size w9 _) ∧ _›.1.out).trans (hbd.mono (‹Hid (Below w9.heap.size w9 _) ∧ _›.1.out).size)); have hzd := HBd.out.size; have hyd := hbd.size; (try simp at hyd); obtain ⟨k9, b9, t9, ad9, n9, cap9, adk9, nk9, capk9, rfl⟩ := hfd.shape))
          all_goals
            go_wp2_with fail
            go_meet
            with_reducible refine OwnLoop.mk (ys := [⟨k6, b6, t6, .slice ad6 n6 cap6, .slice adk6 nk6 capk6, T6⟩, ⟨k7, b7, t7, .slice ad7 n7 cap7, .slice adk7 nk7 capk7, T7⟩, ⟨k8, b8, t8, .slice ad8 n8 cap8, .slice adk8 nk8 capk8, T8⟩, ⟨k9, b9, t9, .slice ad9 n9 cap9, .slice adk9 nk9 capk9, T9⟩, ⟨k4, b4, t4, .slice ad4 n4 cap4, .slice adk4 nk4 capk4, T4⟩, ⟨k5, b5, t5, .slice ad5 n5 cap5, .slice adk5 nk5 capk5, T5⟩]) rfl ?_
            refine OwnSt.of (w0 := wr) (lim := wr.heap.size) (HBP9.out.trans ((bA HBd.out).mono HBP9.out.size)) (Nat.le_trans HBP9.out.size (bA HBd.out).size) (Blk.new wd _ _) (Kp.fresh ?k0 hfa (Nat.le_refl _)) (Kp.fresh ?k1 hfb (Nat.le_refl _)) (Kp.fresh ?k2 hfc (Nat.le_refl _)) (Kp.fresh ?k3 hfd (Nat.le_refl _)) (Kp.fresh (w := w9) ?k4 HFG9.out ?k6) (Kp.fresh (w := w9) ?k5 HFO9.out ?k7) ?k8
            case k0 => (repeat (first | with_reducible exact Kp.refl _ | with_reducible refine Kp.alloc ?_ | with_reducible refine Kp.drw ?_ | with_reducible refine Kp.below ?_ hbd | with_reducible refine Kp.below ?_ hbc | with_reducible refine Kp.below ?_ hbb | with_reducible refine Kp.below ?_ hba | with_reducible refine Kp.below ?_ H89.out | with_reducible refine Kp.below ?_ HP8.out))
            case k1 => (repeat (first | with_reducible exact Kp.refl _ | with_reducible refine Kp.alloc ?_ | with_reducible refine Kp.drw ?_ | with_reducible refine Kp.below ?_ hbd | with_reducible refine Kp.below ?_ hbc | with_reducible refine Kp.below ?_ hbb | with_reducible refine Kp.below ?_ hba | with_reducible refine Kp.below ?_ H89.out | with_reducible refine Kp.below ?_ HP8.out))
            case k2 => (repeat (first | with_reducible exact Kp.refl _ | with_reducible refine Kp.alloc ?_ | with_reducible refine Kp.drw ?_ | with_reducible refine Kp.below ?_ hbd | with_reducible refine Kp.below ?_ hbc | with_reducible refine Kp.below ?_ hbb | with_reducible refine Kp.below ?_ hba | with_reducible refine Kp.below ?_ H89.out | with_reducible refine Kp.below ?_ HP8.out))
            case k3 => (repeat (first | with_reducible exact Kp.refl _ | with_reducible refine Kp.alloc ?_ | with_reducible refine Kp.drw ?_ | with_reducible refine Kp.below ?_ hbd | with_reducible refine Kp.below ?_ hbc | with_reducible refine Kp.below ?_ hbb | with_reducible refine Kp.below ?_ hba | with_reducible refine Kp.below ?_ H89.out | with_reducible refine Kp.below ?_ HP8.out))
            case k4 => (repeat (first | with_reducible exact Kp.refl _ | with_reducible refine Kp.alloc ?_ | with_reducible refine Kp.drw ?_ | with_reducible refine Kp.below ?_ hbd | with_reducible refine Kp.below ?_ hbc | with_reducible refine Kp.below ?_ hbb | with_reducible refine Kp.below ?_ hba | with_reducible refine Kp.below ?_ H89.out | with_reducible refine Kp.below ?_ HP8.out))
            case k5 => (repeat (first | with_reducible exact Kp.refl _ | with_reducible refine Kp.alloc ?_ | with_reducible refine Kp.drw ?_ | with_reducible refine Kp.below ?_ hbd | with_reducible refine Kp.below ?_ hbc | with_reducible refine Kp.below ?_ hbb | with_reducible refine Kp.below ?_ hba | with_reducible refine Kp.below ?_ H89.out | with_reducible refine Kp.below ?_ HP8.out))
            case k6 => have := HZ9.out; omega
            case k7 => have := HZ9.out; omega
            case k8 => (have hq := HZ9.out; refine ⟨?_, ?_, ?_, ?_, ?_, ?_, ?_, ?_, ?_, ?_, ?_, ?_, ?_⟩ <;> first | omega | (simp; done) | (simp; omega))
        case rest =>
          obtain ⟨Y, ys, lo, hi, rfl, rfl, rfl, hyl, hst⟩ := hcut
          have HYL := Lib.hid hyl
          have HST := Lib.hid hst
          clear hst hyl HM9 HG9 HO9 HFG9 HFO9 HBP9 HZ9 HC9 HB9 HS9 c00 c01 c02 c03 c04 c10 c11 c12 c13 c14 g0 g1 g2 g3 g4 o0 o1 o2 o3 o4
          go_wp2_with fail
          go_loopw [14, 60] (fun _ jv wl => ∃ i : Nat, jv = .int .i64 i ∧ i ≤ 6 ∧ Hid (OwnSt wr wl wr.heap.size Y ys lo hi i)) (fun _ jv _ => 6 - (intOf jv).toNat)
          case atStart => exact ⟨0, rfl, by omega, HST⟩
          case round =>
            obtain ⟨i, rfl, hi6, HO⟩ := hrel
            clear HST
            by_cases hlt : i < 6
            · have hil : i < ys.length := by have := HYL.out; omega
              obtain ⟨k, b, t, ai, ni, ci, ak, nk, ck, hF, hSp⟩ := HO.out.at hil
              have HSp := Lib.hid hSp
              obtain ⟨e0, e1, e2, e3, e4⟩ := hF
              have i1 : (0 : Int) ≤ (i : Int) := by omega
              have i2 : (i : Int) < 6 := by omega
              clear hSp
              go_wp2_with fail
              go_at_call 27; refine (HSp.out _ (below_new _ _)).mono ?_; rintro e w' ⟨rfl, hO'⟩
              have HO' := Lib.hid hO'
              clear e0 e1 e2 e3 e4 hO'
              go_wp2_with fail
              go_roundw
              case rel => exact ⟨i + 1, by go_num, by omega, HO'⟩
              case measure => simp [intOf]; omega
            · obtain rfl : i = 6 := by omega
              have HME := Lib.hid (HM0.out.next HO.out.below)
              clear HO
              have c00 := HME.out.two.2.1.cell 0
              have c01 := HME.out.two.2.1.cell 1
              have c02 := HME.out.two.2.1.cell 2
              have c03 := HME.out.two.2.1.cell 3
              have c04 := HME.out.two.2.1.cell 4
              have a0 := HME.out.ba.cell 0
              have a1 := HME.out.ba.cell 1
              have a2 := HME.out.ba.cell 2
              have a3 := HME.out.ba.cell 3
              have a4 := HME.out.ba.cell 4
              go_wp2_with fail
              go_at_call 16; refine (HKA.out.sv _ _ HME.out.two.1 HME.out.ia).mono ?_; rintro e wy ⟨rfl, hby⟩
              have HMF := Lib.hid (HME.out.next hby)
              clear HME hby c00 c01 c02 c03 c04 a0 a1 a2 a3 a4
              have c10 := HMF.out.two.2.2.cell 0
              have c11 := HMF.out.two.2.2.cell 1
              have c12 := HMF.out.two.2.2.cell 2
              have c13 := HMF.out.two.2.2.cell 3
              have c14 := HMF.out.two.2.2.cell 4
              have a0 := HMF.out.bb.cell 0
              have a1 := HMF.out.bb.cell 1
              have a2 := HMF.out.bb.cell 2
              have a3 := HMF.out.bb.cell 3
              have a4 := HMF.out.bb.cell 4
              go_wp2_with fail
              go_at_call 16; refine (HKA.out.sx _ _ HMF.out.two.1 HMF.out.ib).mono ?_; rintro e wz ⟨rfl, hbz⟩
              have HBZ := Lib.hid (HMF.out.two.1.trans (hbz.mono HMF.out.two.1.size))
              clear HMF hbz c10 c11 c12 c13 c14 a0 a1 a2 a3 a4
              go_wp2_with fail
              go_ret
              exact ⟨by first | rfl | simp, HBZ.out⟩
end Go.Proofs.YtjgbhnbfojkhoaaGreatDoor
