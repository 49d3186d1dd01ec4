/- value.Object of scalars with keys that differ · value.Get of an object of scalars · Rows of items, whatever they are; an object that grows in new memory · Keys dropped and put, as lists -/
import Derived.Deep.AppendLies
import Derived.Deep.RegionHeld3
import Derived.Deep.QuietTactic
import Derived.BigQuiet
import Derived.Deep.RegionLaw
import Derived.Test.YtnmfoedfllmclaaGreatDoorJr04
import Derived.Test.YtnmfoedfllmclaaGreatDoorJr05
namespace Go.Proofs.YtnmfoedfllmclaaGreatDoor
open Go.RowKit Go.Sort Go.Shelf
set_option linter.unusedVariables false

/-- A scalar's cells. -/
def cells5 (x : Int × Bool × ByteArray) : List Value := [.int .i64 x.1, .bool x.2.1, .string x.2.2, .slice none 0 0, .slice none 0 0]
def noScal : Int × Bool × ByteArray := (0, false, ⟨#[]⟩)
theorem Tryz.infoStr : (Tryz.prog.info? 9).map (fun i => (i.zero, i.size, i.bytes)) = some (some (.string ⟨#[]⟩), 1, 16) := by kernel_rfl
theorem Tryz.infoVal : (Tryz.prog.info? 26).map (fun i => (i.zero.map (·.cells), i.size, i.bytes)) = some (some nil5, 5, 80) := by kernel_rfl

theorem info_val : ∃ (i : TypeInfo) (z : Value), Tryz.prog.info? 26 = some i ∧ i.zero = some z ∧ z.cells = nil5 ∧ i.size = 5 ∧ i.bytes = 80 := by
  have h := Tryz.infoVal
  cases hi : Tryz.prog.info? 26 with
  | none => rw [hi] at h; cases h
  | some i =>
    rw [hi] at h
    simp only [Option.map_some, Option.some.injEq, Prod.mk.injEq] at h
    obtain ⟨h1, h2, h3⟩ := h
    cases hz : i.zero with
    | none => rw [hz] at h1; cases h1
    | some z => rw [hz] at h1; exact ⟨i, z, rfl, hz, by simpa using h1, h2, h3⟩
/-- The keys of the first k places. -/
def keysOf (ks : List ByteArray) (ps : List Nat) (k : Nat) : List Value := (ps.take k).map fun p => Value.string (ks.getD p ⟨#[]⟩)
/-- The items of the first k places. -/
def itemsOf (xs : List (Int × Bool × ByteArray)) (ps : List Nat) (k : Nat) : List Value := (ps.take k).flatMap fun p => cells5 (xs.getD p noScal)
theorem take_more {ps : List Nat} {k : Nat} (h : k < ps.length) : ps.take (k + 1) = ps.take k ++ [ps.getD k 0] := by
  rw [List.take_succ_eq_append_getElem h]; simp [List.getD, h]
theorem keysOf_succ {ks : List ByteArray} {ps : List Nat} {k : Nat} (h : k < ps.length) : keysOf ks ps (k + 1) = keysOf ks ps k ++ [.string (ks.getD (ps.getD k 0) ⟨#[]⟩)] := by unfold keysOf; rw [take_more h, List.map_append]; rfl
theorem itemsOf_succ {xs : List (Int × Bool × ByteArray)} {ps : List Nat} {k : Nat} (h : k < ps.length) : itemsOf xs ps (k + 1) = itemsOf xs ps k ++ cells5 (xs.getD (ps.getD k 0) noScal) := by unfold itemsOf; rw [take_more h, List.flatMap_append]; simp

/-- What Object has made: nk keys, ni items. R, O, D: the result's block, the object's, the places'. -/
structure ObjAt (w wr : World) (R O D : Nat) (ks : List ByteArray) (xs : List (Int × Bool × ByteArray)) (ps : List Nat) (nk ni : Nat) (kv iv : Value) : Prop where
  res : Blk wr R nil5 26
  box : Blk wr O #[.int .i64 6, .bool false, .string ⟨#[]⟩, iv, kv] 26
  keys : wr.ownsRow w.heap.size 9 1 kv nk (keysOf ks ps nk)
  items : wr.ownsRow w.heap.size 26 5 iv ni (itemsOf xs ps ni)
  places : ∀ j, j < ps.length → wr.cell? ⟨D, j, none⟩ = some (.int .i64 ((ps.getD j 0 : Nat) : Int))
  below : Below w.heap.size w wr
  kfar : ∀ g, kv.ownBlock = some g → D < g
  ifar : ∀ g, iv.ownBlock = some g → D < g
  apart : ∀ g, kv.ownBlock = some g → iv.ownBlock ≠ some g
  size : D < wr.heap.size
  ranks : w.heap.size ≤ R ∧ R < O ∧ O < D

section
variable {w wr : World} {R O D : Nat} {ks : List ByteArray} {xs : List (Int × Bool × ByteArray)} {ps : List Nat} {nk ni : Nat} {kv iv : Value}
theorem ObjAt.drewN (h : ObjAt w wr R O D ks xs ps nk ni kv iv) (n : Nat) : ObjAt w (wr.drewN n) R O D ks xs ps nk ni kv iv :=
  ⟨h.res, h.box, h.keys, h.items, h.places, ⟨h.below.os, h.below.tape, h.below.output, h.below.size, h.below.block⟩, h.kfar, h.ifar, h.apart, h.size, h.ranks⟩
theorem ObjAt.drew (h : ObjAt w wr R O D ks xs ps nk ni kv iv) : ObjAt w wr.drew R O D ks xs ps nk ni kv iv :=
  ⟨h.res, h.box, h.keys, h.items, h.places, h.below.drew, h.kfar, h.ifar, h.apart, h.size, h.ranks⟩
/-- Whatever keeps what was there. -/
theorem ObjAt.later {W : World} (h : ObjAt w wr R O D ks xs ps nk ni kv iv) (hb : Below wr.heap.size wr W) : ObjAt w W R O D ks xs ps nk ni kv iv :=
  ⟨h.res.below hb, h.box.below hb, row_below h.keys hb, row_below h.items hb, fun j hj => (hb.cell (p := ⟨D, j, none⟩) h.size).trans (h.places j hj), h.below.trans (hb.mono h.below.size), h.kfar, h.ifar, h.apart, Nat.lt_of_lt_of_le h.size hb.size, h.ranks⟩
theorem Blk.grows {W W' : World} {B : Nat} {cs : Array Value} {t : TypeId} {row : Option Nat} (h : Blk W B cs t) (hg : W.grownBy W' row) (hne : some B ≠ row) : Blk W' B cs t := (hg.block B h.lt hne).trans h
theorem ne_row {D B : Nat} {v : Value} (h : ∀ g, v.ownBlock = some g → D < g) (hB : B ≤ D) : some B ≠ v.ownBlock := fun e => by have := h B e.symm; omega
/-- A row that is another's block stays where one row has grown. -/
theorem row_grows {W W' : World} {B : Nat} {e : TypeId} {k n : Nat} {v : Value} {us : List Value} {row : Option Nat} (h : W.ownsRow B e k v n us) (hg : W.grownBy W' row) (hne : ∀ g, v.ownBlock = some g → some g ≠ row) : W'.ownsRow B e k v n us := by
  obtain ⟨h1, h2⟩ := h
  refine ⟨h1, ?_⟩
  rcases h2 with h2 | ⟨g, cap, cur, rfl, h3, h4, h5⟩
  · exact .inl h2
  · refine .inr ⟨g, cap, cur, rfl, h3, ?_, h5⟩
    rw [hg.block g (Array.getElem?_eq_some_iff.1 h4).1 (hne g rfl)]; exact h4
/-- A row stays where another block is stored into. -/
theorem row_set {W : World} {B : Nat} {e : TypeId} {k n : Nat} {v : Value} {us : List Value} (h : W.ownsRow B e k v n us) (p : Addr) (u : Value) (hne : v.ownBlock ≠ some p.block) : (W.setCell p u).ownsRow B e k v n us := by
  obtain ⟨h1, h2⟩ := h
  refine ⟨h1, ?_⟩
  rcases h2 with h2 | ⟨g, cap, cur, rfl, h3, h4, h5⟩
  · exact .inl h2
  · refine .inr ⟨g, cap, cur, rfl, h3, ?_, h5⟩
    rw [Below.heap_setCell W p u g (fun e => hne (by rw [← e]; rfl))]; exact h4
theorem below_grows {B : Nat} {a W W' : World} {row : Option Nat} (h : Below B a W) (hg : W.grownBy W' row) (hB : B ≤ W.heap.size) (hr : ∀ g, row = some g → B ≤ g) : Below B a W' := h.grown hg hB (fun k hk => hr k hk)

/-- Behind the key's append and store. -/
theorem ObjAt.key {w3 : World} {g2 cap2 : Nat} {t : ByteArray} {t' : TypeId} (h : ObjAt w wr R O D ks xs ps nk ni kv iv) (hn : nk < ps.length) (ht : ks.getD (ps.getD nk 0) ⟨#[]⟩ = t)
    (hown : w3.ownsRow w.heap.size 9 1 (.slice (some ⟨g2, 0, none⟩) (nk + 1) cap2) (nk + 1) (keysOf ks ps nk ++ [.string t])) (hg : (wr.alloc (.cells #[.string t] t')).grownBy w3 kv.ownBlock) (hat : kv.ownBlock = some g2 ∨ g2 = (wr.alloc (.cells #[.string t] t')).heap.size) (hlt : g2 < w3.heap.size) :
    ObjAt w (w3.setCell ⟨O, 4, none⟩ (.slice (some ⟨g2, 0, none⟩) (nk + 1) cap2)) R O D ks xs ps (nk + 1) ni (.slice (some ⟨g2, 0, none⟩) (nk + 1) cap2) iv := by
  have hr := h.ranks
  have hs := h.size
  have hsz : (wr.alloc (.cells #[.string t] t')).heap.size = wr.heap.size + 1 := by simp
  have hbl := h.below.size
  have hal : Below wr.heap.size wr (wr.alloc (.cells #[.string t] t')) := below_new _ _
  have hD2 : D < g2 := by
    rcases hat with h1 | h1
    · exact h.kfar _ h1
    · omega
  have hi2 : iv.ownBlock ≠ some g2 := by
    rcases hat with h1 | h1
    · exact h.apart _ h1
    · intro e
      have := World.ownsRow.lt h.items g2 e
      omega
  have hnk : ∀ g, iv.ownBlock = some g → some g ≠ kv.ownBlock := fun g e e2 => h.apart g e2.symm e
  have hO : Blk w3 O #[.int .i64 6, .bool false, .string ⟨#[]⟩, iv, kv] 26 := (h.box.below hal).grows hg (ne_row h.kfar (by omega))
  have hR : Blk w3 R nil5 26 := (h.res.below hal).grows hg (ne_row h.kfar (by omega))
  have hp : ∀ j, j < ps.length → w3.cell? ⟨D, j, none⟩ = some (.int .i64 ((ps.getD j 0 : Nat) : Int)) := fun j hj => (hg.cell_far ⟨D, j, none⟩ (by rw [hsz]; show D < _; omega) (ne_row h.kfar (Nat.le_refl _))).trans ((hal.cell (p := ⟨D, j, none⟩) hs).trans (h.places j hj))
  have hb3 : Below w.heap.size w w3 := below_grows (h.below.alloc hbl _) hg (by rw [hsz]; omega) (fun g e => by have := h.kfar g e; omega)
  have hbx := hO.set 4 (.slice (some ⟨g2, 0, none⟩) (nk + 1) cap2)
  refine ⟨hR.other (p := ⟨O, 4, none⟩) (by show R ≠ O; omega) _, by simpa using hbx, ?_, ?_, fun j hj => ?_, hb3.setCell (p := ⟨O, 4, none⟩) (by show _ ≤ O; omega) _, fun g e => ?_, h.ifar, fun g e => ?_, ?_, hr⟩
  · rw [keysOf_succ hn, ht]
    exact row_set hown _ _ (by intro e; cases e; omega)
  · exact row_set (row_grows (row_below h.items hal) hg hnk) _ _ (by intro e; have := h.ifar _ e; simp at this; omega)
  · rw [World.cell?_setCell_other _ _ _ _ (by intro e; cases e; omega)]
    exact hp j hj
  · cases e; exact hD2
  · cases e; exact hi2
  · simp; omega
/-- Behind the item's append and store. -/
theorem ObjAt.item {w3 : World} {g2 cap2 : Nat} {x : Int × Bool × ByteArray} {a' : Array Value} {t' : TypeId} (h : ObjAt w wr R O D ks xs ps nk ni kv iv) (hn : ni < ps.length) (ht : xs.getD (ps.getD ni 0) noScal = x)
    (hown : w3.ownsRow w.heap.size 26 5 (.slice (some ⟨g2, 0, none⟩) (ni + 1) cap2) (ni + 1) (itemsOf xs ps ni ++ cells5 x)) (hg : (wr.alloc (.cells a' t')).grownBy w3 iv.ownBlock) (hat : iv.ownBlock = some g2 ∨ g2 = (wr.alloc (.cells a' t')).heap.size) (hlt : g2 < w3.heap.size) :
    ObjAt w (w3.setCell ⟨O, 3, none⟩ (.slice (some ⟨g2, 0, none⟩) (ni + 1) cap2)) R O D ks xs ps nk (ni + 1) kv (.slice (some ⟨g2, 0, none⟩) (ni + 1) cap2) := by
  have hr := h.ranks
  have hs := h.size
  have hsz : (wr.alloc (.cells a' t')).heap.size = wr.heap.size + 1 := by simp
  have hbl := h.below.size
  have hal : Below wr.heap.size wr (wr.alloc (.cells a' t')) := below_new _ _
  have hD2 : D < g2 := by
    rcases hat with h1 | h1
    · exact h.ifar _ h1
    · omega
  have hi2 : kv.ownBlock ≠ some g2 := by
    rcases hat with h1 | h1
    · exact fun e => h.apart _ e h1
    · intro e
      have := World.ownsRow.lt h.keys g2 e
      omega
  have hnk : ∀ g, kv.ownBlock = some g → some g ≠ iv.ownBlock := fun g e e2 => h.apart g e e2.symm
  have hO : Blk w3 O #[.int .i64 6, .bool false, .string ⟨#[]⟩, iv, kv] 26 := (h.box.below hal).grows hg (ne_row h.ifar (by omega))
  have hR : Blk w3 R nil5 26 := (h.res.below hal).grows hg (ne_row h.ifar (by omega))
  have hp : ∀ j, j < ps.length → w3.cell? ⟨D, j, none⟩ = some (.int .i64 ((ps.getD j 0 : Nat) : Int)) := fun j hj => (hg.cell_far ⟨D, j, none⟩ (by rw [hsz]; show D < _; omega) (ne_row h.ifar (Nat.le_refl _))).trans ((hal.cell (p := ⟨D, j, none⟩) hs).trans (h.places j hj))
  have hb3 : Below w.heap.size w w3 := below_grows (h.below.alloc hbl _) hg (by rw [hsz]; omega) (fun g e => by have := h.ifar g e; omega)
  have hbx := hO.set 3 (.slice (some ⟨g2, 0, none⟩) (ni + 1) cap2)
  refine ⟨hR.other (p := ⟨O, 3, none⟩) (by show R ≠ O; omega) _, by simpa using hbx, ?_, ?_, fun j hj => ?_, hb3.setCell (p := ⟨O, 3, none⟩) (by show _ ≤ O; omega) _, h.kfar, fun g e => ?_, fun g e e2 => ?_, ?_, hr⟩
  · exact row_set (row_grows (row_below h.keys hal) hg hnk) _ _ (by intro e; have := h.kfar _ e; simp at this; omega)
  · rw [itemsOf_succ hn, ht]
    exact row_set hown _ _ (by intro e; cases e; omega)
  · rw [World.cell?_setCell_other _ _ _ _ (by intro e; cases e; omega)]
    exact hp j hj
  · cases e; exact hD2
  · cases e2; exact hi2 e
  · simp; omega
theorem keysOf_at {k j : Nat} (hj : j < k) (hk : k ≤ ps.length) : (keysOf ks ps k)[j]? = some (.string (ks.getD (ps.getD j 0) ⟨#[]⟩)) := by
  have hl : j < ps.length := by omega
  unfold keysOf
  rw [List.getElem?_map, List.getElem?_take, if_pos hj, List.getElem?_eq_getElem hl]
  simp [List.getD, hl]
/-- The rows stay where the result is stored. -/
theorem row_set5 {W : World} {B : Nat} {e : TypeId} {k n : Nat} {v : Value} {us : List Value} (h : W.ownsRow B e k v n us) (R : Nat) (b0 b1 b2 b3 b4 : Value) (hne : v.ownBlock ≠ some R) : (((((W.setCell ⟨R, 0, none⟩ b0).setCell ⟨R, 1, none⟩ b1).setCell ⟨R, 2, none⟩ b2).setCell ⟨R, 3, none⟩ b3).setCell ⟨R, 4, none⟩ b4).ownsRow B e k v n us :=
  row_set (row_set (row_set (row_set (row_set h ⟨R, 0, none⟩ b0 hne) ⟨R, 1, none⟩ b1 hne) ⟨R, 2, none⟩ b2 hne) ⟨R, 3, none⟩ b3 hne) ⟨R, 4, none⟩ b4 hne
end
end Go.Proofs.YtnmfoedfllmclaaGreatDoor
namespace Go.Proofs.YtnmfoedfllmclaaGreatDoor
open Go.RowKit Go.Sort Go.Shelf
set_option linter.unusedVariables false

/-- What owns texts holds them. -/
theorem strs_of_row {B : Nat} {W : World} {v : Value} {ks : List ByteArray} (h : W.ownsRow B 9 1 v ks.length (ks.map Value.string)) (hn : ks.length ≤ 140737488355328) : StrsAt W.heap.size W v ks := by
  have h0 := h
  rcases h.2 with ⟨rfl, h2⟩ | ⟨g, cap, cur, rfl, h3, h4, h5, h6, -⟩
  · exact ⟨none, 0, by rw [h2], by omega, hn, fun hp => by omega⟩
  · refine ⟨_, cap, rfl, h5, hn, fun hp => ⟨g, 0, rfl, (Array.getElem?_eq_some_iff.1 h4).1, fun j hj => ?_⟩⟩
    have := World.ownsRow.cells h0 (g := g) rfl j (.string ks[j]) (by simp [hj])
    rw [Lib.add_plain] at this
    exact this
end Go.Proofs.YtnmfoedfllmclaaGreatDoor
namespace Go.Proofs.YtnmfoedfllmclaaGreatDoor
open Go.RowKit Go.Sort Go.Shelf
set_option linter.unusedVariables false

/-- An item: its cells, and the tree that it is. -/
structure It where
  k : Int
  b : Bool
  t : ByteArray
  x : Value
  y : Value
  T : VT
def It.cells (e : It) : List Value := [.int .i64 e.k, .bool e.b, .string e.t, e.x, e.y]
def It.val (e : It) : Value := .agg #[.int .i64 e.k, .bool e.b, .string e.t, e.x, e.y]
theorem It.cells_length (e : It) : e.cells.length = 5 := rfl
def It.Ok (B : Nat) (W : World) (e : It) : Prop := Is B W e.val e.T
/-- A list of items that stand there. -/
def ItemsAt (B : Nat) (W : World) (v : Value) (ys : List It) : Prop := ∃ ad cap, v = .slice ad ys.length cap ∧ ys.length ≤ cap ∧ ys.length ≤ 140737488355328 ∧ (0 < ys.length → ∃ g o, ad = some ⟨g, o, none⟩ ∧ g < B ∧ ∀ j (h : j < ys.length), Five W g (o + j * 5) (.int .i64 ys[j].k) (.bool ys[j].b) (.string ys[j].t) ys[j].x ys[j].y) ∧ ∀ e ∈ ys, e.Ok B W
theorem ItemsAt.below {B : Nat} {W W' : World} {v : Value} {ys : List It} (h : ItemsAt B W v ys) (hb : Below B W W') : ItemsAt B W' v ys := by
  obtain ⟨ad, cap, h1, h2, h3, h4, h5⟩ := h
  refine ⟨ad, cap, h1, h2, h3, fun hp => ?_, fun e he => (h5 e he).later hb⟩
  obtain ⟨g, o, h6, h7, h8⟩ := h4 hp
  exact ⟨g, o, h6, h7, fun j hj => (h8 j hj).below h7 hb⟩
theorem ItemsAt.mono {B B' : Nat} {W : World} {v : Value} {ys : List It} (h : ItemsAt B W v ys) (hB : B ≤ B') : ItemsAt B' W v ys := by
  obtain ⟨ad, cap, h1, h2, h3, h4, h5⟩ := h
  refine ⟨ad, cap, h1, h2, h3, fun hp => ?_, fun e he => (h5 e he).wide hB⟩
  obtain ⟨g, o, h6, h7, h8⟩ := h4 hp
  exact ⟨g, o, h6, by omega, h8⟩
theorem Is.parts {B : Nat} {W : World} {v : Value} {k : Int} {b : Bool} {t : ByteArray} {its : List VT} {ks : List ByteArray} (h : Is B W v (.node k b t its ks)) :
    ∃ kv iv ys, v = .agg #[.int .i64 k, .bool b, .string t, iv, kv] ∧ StrsAt B W kv ks ∧ ItemsAt B W iv ys ∧ ys.map It.T = its := by
  cases h with
  | mk k b t its ks ad cap kv g o ik ib it ii iv hk hc hn ha hcell hrec =>
    have hl : ((List.finRange its.length).map fun (j : Fin its.length) => It.mk (ik j) (ib j) (it j) (ii j) (iv j) its[j]).length = its.length := by simp
    refine ⟨kv, _, (List.finRange its.length).map fun (j : Fin its.length) => It.mk (ik j) (ib j) (it j) (ii j) (iv j) its[j], rfl, hk, ⟨ad, cap, by rw [hl], by rw [hl]; exact hc, by rw [hl]; exact hn, fun hp => ?_, fun e he => ?_⟩, ?_⟩
    · rw [hl] at hp
      refine ⟨g, o, (ha hp).1, (ha hp).2, fun j hj => ?_⟩
      rw [hl] at hj
      have := hcell j hj
      simpa using this
    · obtain ⟨j, -, rfl⟩ := List.mem_map.1 he
      exact hrec j j.2
    · rw [List.map_map]
      apply List.ext_getElem
      · simp
      · intro i h1 h2
        simp
theorem Is.of_parts {B : Nat} {W : World} {k : Int} {b : Bool} {t : ByteArray} {ys : List It} {ks : List ByteArray} {kv iv : Value} (hk : StrsAt B W kv ks) (hi : ItemsAt B W iv ys) : Is B W (.agg #[.int .i64 k, .bool b, .string t, iv, kv]) (.node k b t (ys.map It.T) ks) := by
  obtain ⟨ad, cap, rfl, h2, h3, h4, h5⟩ := hi
  have hl : (ys.map It.T).length = ys.length := by simp
  rcases Nat.eq_zero_or_pos ys.length with h0 | h0
  · obtain rfl : ys = [] := List.length_eq_zero_iff.1 h0
    exact Is.mk k b t [] ks ad cap kv 0 0 (fun _ => 0) (fun _ => false) (fun _ => ⟨#[]⟩) (fun _ => undef) (fun _ => undef) hk (by simp) (by simp) (fun h => absurd h (by simp)) (fun j h => absurd h (by simp)) (fun j h => absurd h (by simp))
  · obtain ⟨g, o, rfl, h7, h8⟩ := h4 h0
    have e0 : It := ys[0]
    have hm := Is.mk (B := B) (W := W) k b t (ys.map It.T) ks (some ⟨g, o, none⟩) cap kv g o (fun j => (ys.getD j e0).k) (fun j => (ys.getD j e0).b) (fun j => (ys.getD j e0).t) (fun j => (ys.getD j e0).x) (fun j => (ys.getD j e0).y) hk (by rw [hl]; exact h2) (by rw [hl]; exact h3) (fun _ => ⟨rfl, h7⟩)
      (fun j hj => by
        rw [hl] at hj
        have := h8 j hj
        rw [show ys.getD j e0 = ys[j] by simp [List.getD, hj]]
        exact this)
      (fun j hj => by
        have hj' := hj
        rw [hl] at hj'
        rw [show ys.getD j e0 = ys[j] by simp [List.getD, hj'], List.getElem_map]
        exact h5 _ (List.getElem_mem hj'))
    rw [hl] at hm
    exact hm
theorem It.Ok.shape {B : Nat} {W : World} {e : It} (h : e.Ok B W) : ∃ ai ni ci ak nk ck, e.x = .slice ai ni ci ∧ e.y = .slice ak nk ck := by
  obtain ⟨k1, b1, t1, ai, ni, ci, ak, nk2, ck2, esh⟩ := Is.shape h
  unfold It.val at esh
  simp only [Value.agg.injEq, Array.mk.injEq, List.cons.injEq, and_true] at esh
  exact ⟨_, _, _, _, _, _, esh.2.2.2.1, esh.2.2.2.2⟩
theorem flat5_at {xs : List It} {j i : Nat} (hj : j < xs.length) (hi : i < 5) : (xs.flatMap It.cells)[j * 5 + i]? = (xs[j].cells)[i]? := by
  induction xs generalizing j with
  | nil => simp at hj
  | cons x l ih =>
    cases j with
    | zero =>
      rw [List.flatMap_cons, Nat.zero_mul, Nat.zero_add, List.getElem?_append_left (by rw [It.cells_length]; exact hi)]
      rfl
    | succ j =>
      have hjl : j < l.length := by simpa using hj
      rw [List.flatMap_cons, show (j + 1) * 5 + i = 5 + (j * 5 + i) by omega, List.getElem?_append_right (by rw [It.cells_length]; omega), It.cells_length, Nat.add_sub_cancel_left, ih hjl]
      rfl
theorem flat5_length (xs : List It) : (xs.flatMap It.cells).length = xs.length * 5 := by
  induction xs with
  | nil => rfl
  | cons x l ih => rw [List.flatMap_cons, List.length_append, ih, It.cells_length, List.length_cons]; omega
/-- A row in new memory is a list of items. -/
theorem items_of_row {B : Nat} {W : World} {v : Value} {xs : List It} (h : W.ownsRow B 26 5 v xs.length (xs.flatMap It.cells)) (hn : xs.length ≤ 140737488355328) (hok : ∀ e ∈ xs, e.Ok W.heap.size W) : ItemsAt W.heap.size W v xs := by
  obtain ⟨hx, ⟨rfl, h0⟩ | ⟨g, cap, cur, rfl, hg, hblk, hnc, hcm, hcs, htk⟩⟩ := h
  · have : xs = [] := List.length_eq_zero_iff.1 h0
    subst this
    exact ⟨none, 0, rfl, by simp, by simp, fun h => absurd h (by simp), fun e he => by cases he⟩
  · refine ⟨_, cap, rfl, hnc, hn, fun _ => ⟨g, 0, rfl, (Array.getElem?_eq_some_iff.1 hblk).1, fun j hj => ?_⟩, hok⟩
    have hc : ∀ i, i < 5 → W.cell? ⟨g, 0 + j * 5 + i, none⟩ = (xs[j].cells)[i]? := fun i hi => by
      have h4 : (cur.toList.take (xs.length * 5))[j * 5 + i]? = (xs.flatMap It.cells)[j * 5 + i]? := by rw [htk]
      rw [List.getElem?_take_of_lt (by omega), flat5_at hj hi, Array.getElem?_toList] at h4
      rw [Nat.zero_add]
      simp only [World.cell?, hblk]
      first | exact h4 | simpa using h4
    exact ⟨hc 0 (by omega), hc 1 (by omega), hc 2 (by omega), hc 3 (by omega), hc 4 (by omega)⟩

/-- Two rows in new memory. -/
def Grown (lo : Nat) (W : World) (kv iv : Value) (kk : List ByteArray) (xx : List It) : Prop := W.ownsRow lo 9 1 kv kk.length (kk.map Value.string) ∧ W.ownsRow lo 26 5 iv xx.length (xx.flatMap It.cells)
/-- An object that grows: R the result's block, O the object's, L the last block that stands fast; F what stands fast. -/
structure GrowAt (w wr : World) (R O L : Nat) (F : Addr → Value → Prop) (kk : List ByteArray) (xx : List It) (kv iv : Value) : Prop where
  res : Blk wr R nil5 26
  box : Blk wr O #[.int .i64 6, .bool false, .string ⟨#[]⟩, iv, kv] 26
  keys : wr.ownsRow w.heap.size 9 1 kv kk.length (kk.map Value.string)
  items : wr.ownsRow w.heap.size 26 5 iv xx.length (xx.flatMap It.cells)
  fix : ∀ a u, F a u → wr.cell? a = some u
  far : ∀ a u, F a u → a.block ≤ L ∧ a.block ≠ O
  below : Below w.heap.size w wr
  kfar : ∀ g, kv.ownBlock = some g → L < g
  ifar : ∀ g, iv.ownBlock = some g → L < g
  apart : ∀ g, kv.ownBlock = some g → iv.ownBlock ≠ some g
  size : L < wr.heap.size
  ranks : w.heap.size ≤ R ∧ R ≤ L ∧ w.heap.size ≤ O ∧ O ≤ L ∧ R ≠ O

section
variable {w wr : World} {R O L : Nat} {F : Addr → Value → Prop} {kk : List ByteArray} {xx : List It} {kv iv : Value}
theorem GrowAt.drew (h : GrowAt w wr R O L F kk xx kv iv) : GrowAt w wr.drew R O L F kk xx kv iv :=
  ⟨h.res, h.box, h.keys, h.items, h.fix, h.far, h.below.drew, h.kfar, h.ifar, h.apart, h.size, h.ranks⟩
theorem GrowAt.drewN (h : GrowAt w wr R O L F kk xx kv iv) (n : Nat) : GrowAt w (wr.drewN n) R O L F kk xx kv iv :=
  ⟨h.res, h.box, h.keys, h.items, h.fix, h.far, ⟨h.below.os, h.below.tape, h.below.output, h.below.size, h.below.block⟩, h.kfar, h.ifar, h.apart, h.size, h.ranks⟩
theorem GrowAt.later {W : World} (h : GrowAt w wr R O L F kk xx kv iv) (hb : Below wr.heap.size wr W) : GrowAt w W R O L F kk xx kv iv :=
  ⟨h.res.below hb, h.box.below hb, row_below h.keys hb, row_below h.items hb, fun a u hf => (hb.cell (Nat.lt_of_le_of_lt (h.far a u hf).1 h.size)).trans (h.fix a u hf), h.far, h.below.trans (hb.mono h.below.size), h.kfar, h.ifar, h.apart, Nat.lt_of_lt_of_le h.size hb.size, h.ranks⟩
/-- Behind a key's append and store. -/
theorem GrowAt.key {w3 : World} {g2 cap2 : Nat} {t : ByteArray} {t' : TypeId} (h : GrowAt w wr R O L F kk xx kv iv)
    (hown : w3.ownsRow w.heap.size 9 1 (.slice (some ⟨g2, 0, none⟩) (kk.length + 1) cap2) (kk.length + 1) (kk.map Value.string ++ [.string t])) (hg : (wr.alloc (.cells #[.string t] t')).grownBy w3 kv.ownBlock) (hat : kv.ownBlock = some g2 ∨ g2 = (wr.alloc (.cells #[.string t] t')).heap.size) (hlt : g2 < w3.heap.size) :
    GrowAt w (w3.setCell ⟨O, 4, none⟩ (.slice (some ⟨g2, 0, none⟩) (kk.length + 1) cap2)) R O L F (kk ++ [t]) xx (.slice (some ⟨g2, 0, none⟩) (kk.length + 1) cap2) iv := by
  have hr := h.ranks
  have hs := h.size
  have hsz : (wr.alloc (.cells #[.string t] t')).heap.size = wr.heap.size + 1 := by simp
  have hbl := h.below.size
  have hal : Below wr.heap.size wr (wr.alloc (.cells #[.string t] t')) := below_new _ _
  have hD2 : L < g2 := by
    rcases hat with h1 | h1
    · exact h.kfar _ h1
    · omega
  have hi2 : iv.ownBlock ≠ some g2 := by
    rcases hat with h1 | h1
    · exact h.apart _ h1
    · intro e
      have := World.ownsRow.lt h.items g2 e
      omega
  have hnk : ∀ g, iv.ownBlock = some g → some g ≠ kv.ownBlock := fun g e e2 => h.apart g e2.symm e
  have hO : Blk w3 O #[.int .i64 6, .bool false, .string ⟨#[]⟩, iv, kv] 26 := (h.box.below hal).grows hg (ne_row h.kfar (by omega))
  have hR : Blk w3 R nil5 26 := (h.res.below hal).grows hg (ne_row h.kfar (by omega))
  have hp : ∀ a u, F a u → w3.cell? a = some u := fun a u hf => by
    have hfa := h.far a u hf
    exact (hg.cell_far a (by rw [hsz]; omega) (ne_row h.kfar hfa.1)).trans ((hal.cell (by omega)).trans (h.fix a u hf))
  have hb3 : Below w.heap.size w w3 := below_grows (h.below.alloc hbl _) hg (by rw [hsz]; omega) (fun g e => by have := h.kfar g e; omega)
  have hbx := hO.set 4 (.slice (some ⟨g2, 0, none⟩) (kk.length + 1) cap2)
  refine ⟨hR.other (p := ⟨O, 4, none⟩) (by show R ≠ O; omega) _, by simpa using hbx, ?_, ?_, fun a u hf => ?_, h.far, hb3.setCell (p := ⟨O, 4, none⟩) (by show _ ≤ O; omega) _, fun g e => ?_, h.ifar, fun g e => ?_, ?_, hr⟩
  · rw [List.length_append, List.map_append]
    exact row_set hown _ _ (by intro e; cases e; omega)
  · exact row_set (row_grows (row_below h.items hal) hg hnk) _ _ (by intro e; have := h.ifar _ e; simp at this; omega)
  · rw [World.cell?_setCell_other _ _ _ _ (by intro e; subst e; exact (h.far _ u hf).2 rfl)]
    exact hp a u hf
  · cases e; exact hD2
  · cases e; exact hi2
  · simp; omega
/-- Behind an item's append and store. -/
theorem GrowAt.item {w3 : World} {g2 cap2 : Nat} {e : It} {a' : Array Value} {t' : TypeId} (h : GrowAt w wr R O L F kk xx kv iv)
    (hown : w3.ownsRow w.heap.size 26 5 (.slice (some ⟨g2, 0, none⟩) (xx.length + 1) cap2) (xx.length + 1) (xx.flatMap It.cells ++ e.cells)) (hg : (wr.alloc (.cells a' t')).grownBy w3 iv.ownBlock) (hat : iv.ownBlock = some g2 ∨ g2 = (wr.alloc (.cells a' t')).heap.size) (hlt : g2 < w3.heap.size) :
    GrowAt w (w3.setCell ⟨O, 3, none⟩ (.slice (some ⟨g2, 0, none⟩) (xx.length + 1) cap2)) R O L F kk (xx ++ [e]) kv (.slice (some ⟨g2, 0, none⟩) (xx.length + 1) cap2) := by
  have hr := h.ranks
  have hs := h.size
  have hsz : (wr.alloc (.cells a' t')).heap.size = wr.heap.size + 1 := by simp
  have hbl := h.below.size
  have hal : Below wr.heap.size wr (wr.alloc (.cells a' t')) := below_new _ _
  have hD2 : L < g2 := by
    rcases hat with h1 | h1
    · exact h.ifar _ h1
    · omega
  have hi2 : kv.ownBlock ≠ some g2 := by
    rcases hat with h1 | h1
    · exact fun e => h.apart _ e h1
    · intro e
      have := World.ownsRow.lt h.keys g2 e
      omega
  have hnk : ∀ g, kv.ownBlock = some g → some g ≠ iv.ownBlock := fun g e e2 => h.apart g e e2.symm
  have hO : Blk w3 O #[.int .i64 6, .bool false, .string ⟨#[]⟩, iv, kv] 26 := (h.box.below hal).grows hg (ne_row h.ifar (by omega))
  have hR : Blk w3 R nil5 26 := (h.res.below hal).grows hg (ne_row h.ifar (by omega))
  have hp : ∀ a u, F a u → w3.cell? a = some u := fun a u hf => by
    have hfa := h.far a u hf
    exact (hg.cell_far a (by rw [hsz]; omega) (ne_row h.ifar hfa.1)).trans ((hal.cell (by omega)).trans (h.fix a u hf))
  have hb3 : Below w.heap.size w w3 := below_grows (h.below.alloc hbl _) hg (by rw [hsz]; omega) (fun g e => by have := h.ifar g e; omega)
  have hbx := hO.set 3 (.slice (some ⟨g2, 0, none⟩) (xx.length + 1) cap2)
  refine ⟨hR.other (p := ⟨O, 3, none⟩) (by show R ≠ O; omega) _, by simpa using hbx, ?_, ?_, fun a u hf => ?_, h.far, hb3.setCell (p := ⟨O, 3, none⟩) (by show _ ≤ O; omega) _, h.kfar, fun g e => ?_, fun g e e2 => ?_, ?_, hr⟩
  · exact row_set (row_grows (row_below h.keys hal) hg hnk) _ _ (by intro e; have := h.kfar _ e; simp at this; omega)
  · rw [List.length_append, List.flatMap_append]
    simp only [List.flatMap_cons, List.flatMap_nil, List.append_nil]
    exact row_set hown _ _ (by intro e; cases e; omega)
  · rw [World.cell?_setCell_other _ _ _ _ (by intro e; subst e; exact (h.far _ u hf).2 rfl)]
    exact hp a u hf
  · cases e; exact hD2
  · cases e2; exact hi2 e
  · simp; omega
end
end Go.Proofs.YtnmfoedfllmclaaGreatDoor
namespace Go.Proofs.YtnmfoedfllmclaaGreatDoor
open Go.RowKit
set_option linter.unusedVariables false

def dropK (key : ByteArray) : List ByteArray → List ByteArray
  | [] => []
  | a :: l => if (a.toList == key.toList) = true then dropK key l else a :: dropK key l
def dropI {α : Type} (key : ByteArray) : List ByteArray → List α → List α
  | a :: l, y :: m => if (a.toList == key.toList) = true then dropI key l m else y :: dropI key l m
  | _, _ => []
def insK (key : ByteArray) : List ByteArray → List ByteArray
  | [] => [key]
  | a :: l => if bLt key a = true then key :: a :: l else a :: insK key l
def insI {α : Type} (key : ByteArray) (x : α) : List ByteArray → List α → List α
  | a :: l, y :: m => if bLt key a = true then x :: y :: m else y :: insI key x l m
  | _, _ => [x]
theorem dropK_step {key : ByteArray} {ks : List ByteArray} {j : Nat} (h : j < ks.length) : dropK key (ks.drop j) = if (ks[j].toList == key.toList) = true then dropK key (ks.drop (j + 1)) else ks[j] :: dropK key (ks.drop (j + 1)) := by
  rw [List.drop_eq_getElem_cons h]
  conv => lhs; unfold dropK
theorem dropI_step {α : Type} {key : ByteArray} {ks : List ByteArray} {ys : List α} {j : Nat} (h : j < ks.length) (h' : j < ys.length) : dropI key (ks.drop j) (ys.drop j) = if (ks[j].toList == key.toList) = true then dropI key (ks.drop (j + 1)) (ys.drop (j + 1)) else ys[j] :: dropI key (ks.drop (j + 1)) (ys.drop (j + 1)) := by
  rw [List.drop_eq_getElem_cons h, List.drop_eq_getElem_cons h']
  conv => lhs; unfold dropI
theorem insK_step {key : ByteArray} {ks : List ByteArray} {j : Nat} (h : j < ks.length) : insK key (ks.drop j) = if bLt key ks[j] = true then key :: ks.drop j else ks[j] :: insK key (ks.drop (j + 1)) := by
  conv => lhs; rw [List.drop_eq_getElem_cons h]; unfold insK
  rw [← List.drop_eq_getElem_cons h]
theorem insI_step {α : Type} {key : ByteArray} {x : α} {ks : List ByteArray} {ys : List α} {j : Nat} (h : j < ks.length) (h' : j < ys.length) : insI key x (ks.drop j) (ys.drop j) = if bLt key ks[j] = true then x :: ys.drop j else ys[j] :: insI key x (ks.drop (j + 1)) (ys.drop (j + 1)) := by
  conv => lhs; rw [List.drop_eq_getElem_cons h, List.drop_eq_getElem_cons h']; unfold insI
  rw [← List.drop_eq_getElem_cons h']
theorem dropK_le (key : ByteArray) : ∀ ks : List ByteArray, (dropK key ks).length ≤ ks.length
  | [] => by simp [dropK]
  | a :: l => by have := dropK_le key l; unfold dropK; split <;> simp <;> omega
theorem dropI_length {α : Type} (key : ByteArray) : ∀ (ks : List ByteArray) (ys : List α), ks.length = ys.length → (dropI key ks ys).length = (dropK key ks).length
  | [], [], _ => by simp [dropI, dropK]
  | [], _ :: _, h => by simp at h
  | _ :: _, [], h => by simp at h
  | a :: l, y :: m, h => by
    have := dropI_length key l m (by simpa using h)
    unfold dropI dropK
    split <;> simp [this]
theorem insK_length (key : ByteArray) : ∀ ks : List ByteArray, (insK key ks).length = ks.length + 1
  | [] => by simp [insK]
  | a :: l => by have := insK_length key l; unfold insK; split <;> simp [this]
theorem insI_length {α : Type} (key : ByteArray) (x : α) : ∀ (ks : List ByteArray) (ys : List α), ks.length = ys.length → (insI key x ks ys).length = (insK key ks).length
  | [], [], _ => by simp [insI, insK]
  | [], _ :: _, h => by simp at h
  | _ :: _, [], h => by simp at h
  | a :: l, y :: m, h => by
    have h' : l.length = m.length := by simpa using h
    have := insI_length key x l m h'
    unfold insI insK
    split <;> simp [this, h']
theorem dropI_map {α β : Type} (f : α → β) (key : ByteArray) : ∀ (ks : List ByteArray) (ys : List α), (dropI key ks ys).map f = dropI key ks (ys.map f)
  | [], _ => by simp [dropI]
  | _ :: _, [] => by simp [dropI]
  | a :: l, y :: m => by
    have := dropI_map f key l m
    simp only [List.map_cons]
    unfold dropI
    split <;> simp [this]
theorem insI_map {α β : Type} (f : α → β) (key : ByteArray) (x : α) : ∀ (ks : List ByteArray) (ys : List α), (insI key x ks ys).map f = insI key (f x) ks (ys.map f)
  | [], _ => by simp [insI]
  | _ :: _, [] => by simp [insI]
  | a :: l, y :: m => by
    have := insI_map f key x l m
    simp only [List.map_cons]
    unfold insI
    split <;> simp [this]
theorem dropI_sub {α : Type} (key : ByteArray) : ∀ (ks : List ByteArray) (ys : List α) (e : α), e ∈ dropI key ks ys → e ∈ ys
  | [], _, _, h => by simp [dropI] at h
  | _ :: _, [], _, h => by simp [dropI] at h
  | a :: l, y :: m, e, h => by
    unfold dropI at h
    split at h
    · exact List.mem_cons_of_mem _ (dropI_sub key l m e h)
    · rcases List.mem_cons.1 h with rfl | h
      · exact List.mem_cons_self
      · exact List.mem_cons_of_mem _ (dropI_sub key l m e h)
theorem insI_sub {α : Type} (key : ByteArray) (x : α) : ∀ (ks : List ByteArray) (ys : List α) (e : α), e ∈ insI key x ks ys → e = x ∨ e ∈ ys
  | [], _, _, h => by simp [insI] at h; exact .inl h
  | _ :: _, [], _, h => by simp [insI] at h; exact .inl h
  | a :: l, y :: m, e, h => by
    unfold insI at h
    split at h
    · exact List.mem_cons.1 h
    · rcases List.mem_cons.1 h with rfl | h
      · exact .inr List.mem_cons_self
      · rcases insI_sub key x l m e h with h | h
        · exact .inl h
        · exact .inr (List.mem_cons_of_mem _ h)
end Go.Proofs.YtnmfoedfllmclaaGreatDoor
