/- Places of at most 12 keys, sorted · value.Object of scalars with keys that differ · value.Get of an object of scalars -/
import Derived.Lib.OwnBridge
import Derived.Deep.AppendLies
import Derived.Deep.RegionHeld3
import Derived.Deep.QuietTactic
import Derived.BigQuiet
import Derived.Deep.RegionLaw
import Derived.Test.YtcbcjeabpjjhbaaGreatDoorJb06
import Derived.Test.YtcbcjeabpjjhbaaGreatDoorJb07
namespace Go.Proofs.YtcbcjeabpjjhbaaGreatDoor
open Go.RowKit Go.Sort Go.Shelf
set_option linter.unusedVariables false

def encFin (n : Nat) (i : Fin n) : Value := .int .i64 (i.val : Int)
theorem counted_fin (n : Nat) : counted n n = (List.finRange n).map (encFin n) := by
  rw [counted_full]
  apply List.ext_getElem
  · simp
  · intro i h1 h2
    simp [encFin]

/-- In a world that the sort passes through, other blocks are as they were. -/
theorem sortWorld_other {α : Type} [Inhabited α] (enc : α → Value) (W : World) (blk off m : Nat) (dk : Array α) (os : Array Obj) (a : Addr) (h1 : a.block ≠ blk) (h2 : a.block < W.heap.size) : (sortWorld enc W blk off m dk os).cell? a = W.cell? a := by
  unfold sortWorld
  rw [cell?_grow _ _ _ (by rw [size_putRow]; exact h2), cell?_putRow_other enc _ blk off dk a (Or.inl h1)]
  rfl
theorem StrsAt.sorts {α : Type} [Inhabited α] {B : Nat} {W : World} {v : Value} {ks : List ByteArray} (h : StrsAt B W v ks) (enc : α → Value) (blk off m : Nat) (dk : Array α) (os : Array Obj) (hb : B ≤ blk) (hW : B ≤ W.heap.size) : StrsAt B (sortWorld enc W blk off m dk os) v ks := by
  obtain ⟨ad, cap, h1, h2, h3, h4⟩ := h
  refine ⟨ad, cap, h1, h2, h3, fun hp => ?_⟩
  obtain ⟨g, o, h5, h6, h7⟩ := h4 hp
  exact ⟨g, o, h5, h6, fun j hj => (sortWorld_other enc W blk off m dk os ⟨g, o + j, none⟩ (by show g ≠ blk; omega) (by show g < W.heap.size; omega)).trans (h7 j hj)⟩

theorem compareBytes_neg : ∀ a b : List UInt8, Lib.compareBytes a b < 0 ↔ a < b
  | [], [] => by simp [Lib.compareBytes]
  | [], _ :: _ => by simp [Lib.compareBytes]
  | _ :: _, [] => by simp [Lib.compareBytes]
  | x :: a, y :: b => by
    unfold Lib.compareBytes
    rw [List.cons_lt_cons_iff]
    have ih := compareBytes_neg a b
    by_cases h : x < y
    · rw [if_pos h]; simp [h]
    · rw [if_neg h]
      by_cases h' : y < x
      · rw [if_pos h']
        have hne : x ≠ y := fun e => by subst e; exact absurd h' h
        simp [h, hne]
      · rw [if_neg h']
        have he : x = y := by
          have h1 : ¬ x.toNat < y.toNat := h
          have h2 : ¬ y.toNat < x.toNat := h'
          exact UInt8.toNat_inj.1 (by omega)
        subst he
        rw [ih]
        simp
theorem byKey_lt (ks : List ByteArray) (x y : Fin ks.length) : ltOf (byKey ks) x y = bLt ks[x] ks[y] := by
  unfold ltOf byKey bLt
  rw [Bool.eq_iff_iff, decide_eq_true_iff, decide_eq_true_iff]
  exact compareBytes_neg _ _
theorem bLt_irrefl (a : ByteArray) : bLt a a = false := by
  unfold bLt
  rw [decide_eq_false_iff_not]
  exact List.lt_irrefl _
theorem byKey_swo (ks : List ByteArray) : SWO (ltOf (byKey ks)) where
  irrefl x := by rw [byKey_lt]; exact bLt_irrefl _
  trans x y z h1 h2 := by rw [byKey_lt] at *; exact bLt_trans h1 h2
  ntrans x y z h1 h2 := by
    rw [byKey_lt] at *
    unfold bLt at *
    simp only [decide_eq_false_iff_not, List.not_lt] at *
    exact List.le_trans h2 h1

/-- What a sort leaves: a row of places, sorted by their keys. -/
def SortedAt (w0 : World) (ks : List ByteArray) (w' : World) : Prop := ∃ (hI : Inhabited (Fin ks.length)) (d' : Array (Fin ks.length)), PermIn 0 ks.length (List.finRange ks.length).toArray d' ∧ SortedIn (ltOf (byKey ks)) 0 ks.length d' ∧ Below w0.heap.size w0 w' ∧ w'.ownsRow w0.heap.size 3 1 (.slice (some ⟨w0.heap.size + 1, 0, none⟩) ks.length ks.length) ks.length (d'.toList.map (encFin ks.length))

set_option maxHeartbeats 1000000 in
theorem sort_small {w W : World} {kv : Value} {ks : List ByteArray} (h0 : 0 < ks.length) (h12 : ks.length ≤ 12) (hk : StrsAt w.heap.size w kv ks) (hb : Below w.heap.size w W)
    (hr : W.ownsRow w.heap.size 3 1 (.slice (some ⟨w.heap.size + 1, 0, none⟩) ks.length ks.length) ks.length (counted ks.length ks.length)) (hc : W.cell? ⟨w.heap.size, 0, none⟩ = some kv) :
    Calls Tryz.prog 109 #[.slice (some ⟨w.heap.size + 1, 0, none⟩) ks.length ks.length, .func (.func 110) #[] #[.pointer (some ⟨w.heap.size, 0, none⟩)] ] W fun e w' => e = .returned (.tuple #[]) ∧ SortedAt w ks w' := by
  letI hI : Inhabited (Fin ks.length) := ⟨⟨0, h0⟩⟩
  have eg : ∀ args w, (callFunc 110 args).run Tryz.prog w = .ok (.enter 110 args) w := enters_of Tryz.func110 (by kernel_rfl) rfl
  rw [counted_fin] at hr
  obtain ⟨g, cap, e1, -, hg, -, -, -, hH⟩ := Lib.holds_of_ownsRow hr (by intro h; cases h)
  cases e1
  have hcm : CmpReads Tryz.prog 110 #[.pointer (some ⟨w.heap.size, 0, none⟩)] (encFin ks.length) (byKey ks) (w.heap.size + 1) 0 (List.finRange ks.length).toArray.size W := fun m os dk hs x y =>
    closure_any (B := w.heap.size) (C := w.heap.size) x y ((hk.below hb).sorts _ _ _ _ _ _ (by omega) hb.size) ((sortWorld_other _ W _ _ _ _ _ ⟨w.heap.size, 0, none⟩ (by show w.heap.size ≠ w.heap.size + 1; omega) (by show w.heap.size < W.heap.size; omega)).trans hc)
  have hsz : (List.finRange ks.length).toArray.size = ks.length := by simp
  have hcon := Tryz.slices_SortFunc_small_sorted (encFin ks.length) (fun _ => rfl) (byKey ks) (byKey_swo ks) 110 #[.pointer (some ⟨w.heap.size, 0, none⟩)] (w.heap.size + 1) 0 ks.length (List.finRange ks.length).toArray W eg hcm hH (by rw [hsz]; exact h12) (fun n W' hn => (Tryz.bits_Len n W' (by omega) (by omega)).mono fun _ _ ⟨he, hw⟩ => ⟨⟨_, he⟩, hw⟩)
  rw [hsz] at hcon
  refine Calls.mono hcon ?_
  rintro e w' ⟨rfl, d', n, hp, hso, rfl⟩
  have hq := Lib.below_putRow (enc := encFin ks.length) (g := w.heap.size + 1) (q := 0) (d := d') hb (by omega)
  have hl : d'.toList.length = ks.length := by rw [Array.length_toList, hp.1, hsz]
  have ho := Lib.ownsRow_putRow (q := 0) (ys := d'.toList) hr hl (Nat.le_refl _)
  rw [List.take_of_length_le (by omega)] at ho
  exact ⟨rfl, hI, d', hp, hso, ⟨hq.os, hq.tape, hq.output, hq.size, hq.block⟩, ho⟩
end Go.Proofs.YtcbcjeabpjjhbaaGreatDoor
namespace Go.Proofs.YtcbcjeabpjjhbaaGreatDoor
open Go.RowKit Go.Sort Go.Shelf
set_option linter.unusedVariables false

/-- A scalar's cells. -/
def cells5 (x : Int × Bool × ByteArray) : List Value := [.int .i64 x.1, .bool x.2.1, .string x.2.2, .slice none 0 0, .slice none 0 0]
def noScal : Int × Bool × ByteArray := (0, false, ⟨#[]⟩)
/-- A slice of scalars, below block B. -/
def ScalsAt (B : Nat) (W : World) (v : Value) (xs : List (Int × Bool × ByteArray)) : Prop := ∃ ad cap, v = .slice ad xs.length cap ∧ xs.length ≤ cap ∧ xs.length ≤ 140737488355328 ∧ (0 < xs.length → ∃ g o, ad = some ⟨g, o, none⟩ ∧ g < B ∧ ∀ j, j < xs.length → W.cell? ⟨g, o + j * 5, none⟩ = some (.int .i64 (xs.getD j noScal).1) ∧ W.cell? ⟨g, o + j * 5 + 1, none⟩ = some (.bool (xs.getD j noScal).2.1) ∧ W.cell? ⟨g, o + j * 5 + 2, none⟩ = some (.string (xs.getD j noScal).2.2) ∧ W.cell? ⟨g, o + j * 5 + 3, none⟩ = some (.slice none 0 0) ∧ W.cell? ⟨g, o + j * 5 + 4, none⟩ = some (.slice none 0 0))

theorem Tryz.infoStr : (Tryz.prog.info? 9).map (fun i => (i.zero, i.size, i.bytes)) = some (some (.string ⟨#[]⟩), 1, 16) := by kernel_rfl
theorem Tryz.infoVal : (Tryz.prog.info? 26).map (fun i => (i.zero.map (·.cells), i.size, i.bytes)) = some (some nil5, 5, 80) := by kernel_rfl

theorem info_val : ∃ (i : TypeInfo) (z : Value), Tryz.prog.info? 26 = some i ∧ i.zero = some z ∧ z.cells = nil5 ∧ i.size = 5 ∧ i.bytes = 80 := by
  have h := Tryz.infoVal
  cases hi : Tryz.prog.info? 26 with
  | none => rw [hi] at h; cases h
  | some i =>
    rw [hi] at h
    simp only [Option.map_some, Option.some.injEq, Prod.mk.injEq] at h
    obtain ⟨h1, h2, h3⟩ := h
    cases hz : i.zero with
    | none => rw [hz] at h1; cases h1
    | some z => rw [hz] at h1; exact ⟨i, z, rfl, hz, by simpa using h1, h2, h3⟩
/-- The keys of the first k places. -/
def keysOf (ks : List ByteArray) (ps : List Nat) (k : Nat) : List Value := (ps.take k).map fun p => Value.string (ks.getD p ⟨#[]⟩)
/-- The items of the first k places. -/
def itemsOf (xs : List (Int × Bool × ByteArray)) (ps : List Nat) (k : Nat) : List Value := (ps.take k).flatMap fun p => cells5 (xs.getD p noScal)
theorem take_more {ps : List Nat} {k : Nat} (h : k < ps.length) : ps.take (k + 1) = ps.take k ++ [ps.getD k 0] := by
  rw [List.take_succ_eq_append_getElem h]; simp [List.getD, h]
theorem keysOf_succ {ks : List ByteArray} {ps : List Nat} {k : Nat} (h : k < ps.length) : keysOf ks ps (k + 1) = keysOf ks ps k ++ [.string (ks.getD (ps.getD k 0) ⟨#[]⟩)] := by unfold keysOf; rw [take_more h, List.map_append]; rfl
theorem itemsOf_succ {xs : List (Int × Bool × ByteArray)} {ps : List Nat} {k : Nat} (h : k < ps.length) : itemsOf xs ps (k + 1) = itemsOf xs ps k ++ cells5 (xs.getD (ps.getD k 0) noScal) := by unfold itemsOf; rw [take_more h, List.flatMap_append]; simp

/-- What Object has made: nk keys, ni items. R, O, D: the result's block, the object's, the places'. -/
structure ObjAt (w wr : World) (R O D : Nat) (ks : List ByteArray) (xs : List (Int × Bool × ByteArray)) (ps : List Nat) (nk ni : Nat) (kv iv : Value) : Prop where
  res : Blk wr R nil5 26
  box : Blk wr O #[.int .i64 6, .bool false, .string ⟨#[]⟩, iv, kv] 26
  keys : wr.ownsRow w.heap.size 9 1 kv nk (keysOf ks ps nk)
  items : wr.ownsRow w.heap.size 26 5 iv ni (itemsOf xs ps ni)
  places : ∀ j, j < ps.length → wr.cell? ⟨D, j, none⟩ = some (.int .i64 ((ps.getD j 0 : Nat) : Int))
  below : Below w.heap.size w wr
  kfar : ∀ g, kv.ownBlock = some g → D < g
  ifar : ∀ g, iv.ownBlock = some g → D < g
  apart : ∀ g, kv.ownBlock = some g → iv.ownBlock ≠ some g
  size : D < wr.heap.size
  ranks : w.heap.size ≤ R ∧ R < O ∧ O < D

section
variable {w wr : World} {R O D : Nat} {ks : List ByteArray} {xs : List (Int × Bool × ByteArray)} {ps : List Nat} {nk ni : Nat} {kv iv : Value}
theorem Below.draws {B : Nat} {a b : World} (h : Below B a b) (n : Nat) : Below B a (b.drewN n) := ⟨h.os, h.tape, h.output, h.size, h.block⟩
theorem ObjAt.drewN (h : ObjAt w wr R O D ks xs ps nk ni kv iv) (n : Nat) : ObjAt w (wr.drewN n) R O D ks xs ps nk ni kv iv :=
  ⟨h.res, h.box, h.keys, h.items, h.places, ⟨h.below.os, h.below.tape, h.below.output, h.below.size, h.below.block⟩, h.kfar, h.ifar, h.apart, h.size, h.ranks⟩
theorem ObjAt.drew (h : ObjAt w wr R O D ks xs ps nk ni kv iv) : ObjAt w wr.drew R O D ks xs ps nk ni kv iv :=
  ⟨h.res, h.box, h.keys, h.items, h.places, h.below.drew, h.kfar, h.ifar, h.apart, h.size, h.ranks⟩
/-- Whatever keeps what was there. -/
theorem ObjAt.later {W : World} (h : ObjAt w wr R O D ks xs ps nk ni kv iv) (hb : Below wr.heap.size wr W) : ObjAt w W R O D ks xs ps nk ni kv iv :=
  ⟨h.res.below hb, h.box.below hb, row_below h.keys hb, row_below h.items hb, fun j hj => (hb.cell (p := ⟨D, j, none⟩) h.size).trans (h.places j hj), h.below.trans (hb.mono h.below.size), h.kfar, h.ifar, h.apart, Nat.lt_of_lt_of_le h.size hb.size, h.ranks⟩
theorem Blk.grows {W W' : World} {B : Nat} {cs : Array Value} {t : TypeId} {row : Option Nat} (h : Blk W B cs t) (hg : W.grownBy W' row) (hne : some B ≠ row) : Blk W' B cs t := (hg.block B h.lt hne).trans h
theorem ne_row {D B : Nat} {v : Value} (h : ∀ g, v.ownBlock = some g → D < g) (hB : B ≤ D) : some B ≠ v.ownBlock := fun e => by have := h B e.symm; omega
/-- A row that is another's block stays where one row has grown. -/
theorem row_grows {W W' : World} {B : Nat} {e : TypeId} {k n : Nat} {v : Value} {us : List Value} {row : Option Nat} (h : W.ownsRow B e k v n us) (hg : W.grownBy W' row) (hne : ∀ g, v.ownBlock = some g → some g ≠ row) : W'.ownsRow B e k v n us := by
  obtain ⟨h1, h2⟩ := h
  refine ⟨h1, ?_⟩
  rcases h2 with h2 | ⟨g, cap, cur, rfl, h3, h4, h5⟩
  · exact .inl h2
  · refine .inr ⟨g, cap, cur, rfl, h3, ?_, h5⟩
    rw [hg.block g (Array.getElem?_eq_some_iff.1 h4).1 (hne g rfl)]; exact h4
/-- A row stays where another block is stored into. -/
theorem row_set {W : World} {B : Nat} {e : TypeId} {k n : Nat} {v : Value} {us : List Value} (h : W.ownsRow B e k v n us) (p : Addr) (u : Value) (hne : v.ownBlock ≠ some p.block) : (W.setCell p u).ownsRow B e k v n us := by
  obtain ⟨h1, h2⟩ := h
  refine ⟨h1, ?_⟩
  rcases h2 with h2 | ⟨g, cap, cur, rfl, h3, h4, h5⟩
  · exact .inl h2
  · refine .inr ⟨g, cap, cur, rfl, h3, ?_, h5⟩
    rw [Below.heap_setCell W p u g (fun e => hne (by rw [← e]; rfl))]; exact h4
theorem below_grows {B : Nat} {a W W' : World} {row : Option Nat} (h : Below B a W) (hg : W.grownBy W' row) (hB : B ≤ W.heap.size) (hr : ∀ g, row = some g → B ≤ g) : Below B a W' := h.grown hg hB (fun k hk => hr k hk)

/-- Behind the key's append and store. -/
theorem ObjAt.key {w3 : World} {g2 cap2 : Nat} {t : ByteArray} {t' : TypeId} (h : ObjAt w wr R O D ks xs ps nk ni kv iv) (hn : nk < ps.length) (ht : ks.getD (ps.getD nk 0) ⟨#[]⟩ = t)
    (hown : w3.ownsRow w.heap.size 9 1 (.slice (some ⟨g2, 0, none⟩) (nk + 1) cap2) (nk + 1) (keysOf ks ps nk ++ [.string t])) (hg : (wr.alloc (.cells #[.string t] t')).grownBy w3 kv.ownBlock) (hat : kv.ownBlock = some g2 ∨ g2 = (wr.alloc (.cells #[.string t] t')).heap.size) (hlt : g2 < w3.heap.size) :
    ObjAt w (w3.setCell ⟨O, 4, none⟩ (.slice (some ⟨g2, 0, none⟩) (nk + 1) cap2)) R O D ks xs ps (nk + 1) ni (.slice (some ⟨g2, 0, none⟩) (nk + 1) cap2) iv := by
  have hr := h.ranks
  have hs := h.size
  have hsz : (wr.alloc (.cells #[.string t] t')).heap.size = wr.heap.size + 1 := by simp
  have hbl := h.below.size
  have hal : Below wr.heap.size wr (wr.alloc (.cells #[.string t] t')) := below_new _ _
  have hD2 : D < g2 := by
    rcases hat with h1 | h1
    · exact h.kfar _ h1
    · omega
  have hi2 : iv.ownBlock ≠ some g2 := by
    rcases hat with h1 | h1
    · exact h.apart _ h1
    · intro e
      have := World.ownsRow.lt h.items g2 e
      omega
  have hnk : ∀ g, iv.ownBlock = some g → some g ≠ kv.ownBlock := fun g e e2 => h.apart g e2.symm e
  have hO : Blk w3 O #[.int .i64 6, .bool false, .string ⟨#[]⟩, iv, kv] 26 := (h.box.below hal).grows hg (ne_row h.kfar (by omega))
  have hR : Blk w3 R nil5 26 := (h.res.below hal).grows hg (ne_row h.kfar (by omega))
  have hp : ∀ j, j < ps.length → w3.cell? ⟨D, j, none⟩ = some (.int .i64 ((ps.getD j 0 : Nat) : Int)) := fun j hj => (hg.cell_far ⟨D, j, none⟩ (by rw [hsz]; show D < _; omega) (ne_row h.kfar (Nat.le_refl _))).trans ((hal.cell (p := ⟨D, j, none⟩) hs).trans (h.places j hj))
  have hb3 : Below w.heap.size w w3 := below_grows (h.below.alloc hbl _) hg (by rw [hsz]; omega) (fun g e => by have := h.kfar g e; omega)
  have hbx := hO.set 4 (.slice (some ⟨g2, 0, none⟩) (nk + 1) cap2)
  refine ⟨hR.other (p := ⟨O, 4, none⟩) (by show R ≠ O; omega) _, by simpa using hbx, ?_, ?_, fun j hj => ?_, hb3.setCell (p := ⟨O, 4, none⟩) (by show _ ≤ O; omega) _, fun g e => ?_, h.ifar, fun g e => ?_, ?_, hr⟩
  · rw [keysOf_succ hn, ht]
    exact row_set hown _ _ (by intro e; cases e; omega)
  · exact row_set (row_grows (row_below h.items hal) hg hnk) _ _ (by intro e; have := h.ifar _ e; simp at this; omega)
  · rw [World.cell?_setCell_other _ _ _ _ (by intro e; cases e; omega)]
    exact hp j hj
  · cases e; exact hD2
  · cases e; exact hi2
  · simp; omega
/-- Behind the item's append and store. -/
theorem ObjAt.item {w3 : World} {g2 cap2 : Nat} {x : Int × Bool × ByteArray} {a' : Array Value} {t' : TypeId} (h : ObjAt w wr R O D ks xs ps nk ni kv iv) (hn : ni < ps.length) (ht : xs.getD (ps.getD ni 0) noScal = x)
    (hown : w3.ownsRow w.heap.size 26 5 (.slice (some ⟨g2, 0, none⟩) (ni + 1) cap2) (ni + 1) (itemsOf xs ps ni ++ cells5 x)) (hg : (wr.alloc (.cells a' t')).grownBy w3 iv.ownBlock) (hat : iv.ownBlock = some g2 ∨ g2 = (wr.alloc (.cells a' t')).heap.size) (hlt : g2 < w3.heap.size) :
    ObjAt w (w3.setCell ⟨O, 3, none⟩ (.slice (some ⟨g2, 0, none⟩) (ni + 1) cap2)) R O D ks xs ps nk (ni + 1) kv (.slice (some ⟨g2, 0, none⟩) (ni + 1) cap2) := by
  have hr := h.ranks
  have hs := h.size
  have hsz : (wr.alloc (.cells a' t')).heap.size = wr.heap.size + 1 := by simp
  have hbl := h.below.size
  have hal : Below wr.heap.size wr (wr.alloc (.cells a' t')) := below_new _ _
  have hD2 : D < g2 := by
    rcases hat with h1 | h1
    · exact h.ifar _ h1
    · omega
  have hi2 : kv.ownBlock ≠ some g2 := by
    rcases hat with h1 | h1
    · exact fun e => h.apart _ e h1
    · intro e
      have := World.ownsRow.lt h.keys g2 e
      omega
  have hnk : ∀ g, kv.ownBlock = some g → some g ≠ iv.ownBlock := fun g e e2 => h.apart g e e2.symm
  have hO : Blk w3 O #[.int .i64 6, .bool false, .string ⟨#[]⟩, iv, kv] 26 := (h.box.below hal).grows hg (ne_row h.ifar (by omega))
  have hR : Blk w3 R nil5 26 := (h.res.below hal).grows hg (ne_row h.ifar (by omega))
  have hp : ∀ j, j < ps.length → w3.cell? ⟨D, j, none⟩ = some (.int .i64 ((ps.getD j 0 : Nat) : Int)) := fun j hj => (hg.cell_far ⟨D, j, none⟩ (by rw [hsz]; show D < _; omega) (ne_row h.ifar (Nat.le_refl _))).trans ((hal.cell (p := ⟨D, j, none⟩) hs).trans (h.places j hj))
  have hb3 : Below w.heap.size w w3 := below_grows (h.below.alloc hbl _) hg (by rw [hsz]; omega) (fun g e => by have := h.ifar g e; omega)
  have hbx := hO.set 3 (.slice (some ⟨g2, 0, none⟩) (ni + 1) cap2)
  refine ⟨hR.other (p := ⟨O, 3, none⟩) (by show R ≠ O; omega) _, by simpa using hbx, ?_, ?_, fun j hj => ?_, hb3.setCell (p := ⟨O, 3, none⟩) (by show _ ≤ O; omega) _, h.kfar, fun g e => ?_, fun g e e2 => ?_, ?_, hr⟩
  · exact row_set (row_grows (row_below h.keys hal) hg hnk) _ _ (by intro e; have := h.kfar _ e; simp at this; omega)
  · rw [itemsOf_succ hn, ht]
    exact row_set hown _ _ (by intro e; cases e; omega)
  · rw [World.cell?_setCell_other _ _ _ _ (by intro e; cases e; omega)]
    exact hp j hj
  · cases e; exact hD2
  · cases e2; exact hi2 e
  · simp; omega
theorem keysOf_at {k j : Nat} (hj : j < k) (hk : k ≤ ps.length) : (keysOf ks ps k)[j]? = some (.string (ks.getD (ps.getD j 0) ⟨#[]⟩)) := by
  have hl : j < ps.length := by omega
  unfold keysOf
  rw [List.getElem?_map, List.getElem?_take, if_pos hj, List.getElem?_eq_getElem hl]
  simp [List.getD, hl]
/-- The rows stay where the result is stored. -/
theorem row_set5 {W : World} {B : Nat} {e : TypeId} {k n : Nat} {v : Value} {us : List Value} (h : W.ownsRow B e k v n us) (R : Nat) (b0 b1 b2 b3 b4 : Value) (hne : v.ownBlock ≠ some R) : (((((W.setCell ⟨R, 0, none⟩ b0).setCell ⟨R, 1, none⟩ b1).setCell ⟨R, 2, none⟩ b2).setCell ⟨R, 3, none⟩ b3).setCell ⟨R, 4, none⟩ b4).ownsRow B e k v n us :=
  row_set (row_set (row_set (row_set (row_set h ⟨R, 0, none⟩ b0 hne) ⟨R, 1, none⟩ b1 hne) ⟨R, 2, none⟩ b2 hne) ⟨R, 3, none⟩ b3 hne) ⟨R, 4, none⟩ b4 hne
end
end Go.Proofs.YtcbcjeabpjjhbaaGreatDoor
namespace Go.Proofs.YtcbcjeabpjjhbaaGreatDoor
open Go.RowKit Go.Sort Go.Shelf
set_option linter.unusedVariables false

/-- What owns texts holds them. -/
theorem strs_of_row {B : Nat} {W : World} {v : Value} {ks : List ByteArray} (h : W.ownsRow B 9 1 v ks.length (ks.map Value.string)) (hn : ks.length ≤ 140737488355328) : StrsAt W.heap.size W v ks := by
  have h0 := h
  rcases h.2 with ⟨rfl, h2⟩ | ⟨g, cap, cur, rfl, h3, h4, h5, h6, -⟩
  · exact ⟨none, 0, by rw [h2], by omega, hn, fun hp => by omega⟩
  · refine ⟨_, cap, rfl, h5, hn, fun hp => ⟨g, 0, rfl, (Array.getElem?_eq_some_iff.1 h4).1, fun j hj => ?_⟩⟩
    have := World.ownsRow.cells h0 (g := g) rfl j (.string ks[j]) (by simp [hj])
    rw [Lib.add_plain] at this
    exact this
/-- What owns scalars holds them. -/
theorem cells5_at {xs : List (Int × Bool × ByteArray)} {j i : Nat} (hj : j < xs.length) (hi : i < 5) : (xs.flatMap cells5)[j * 5 + i]? = (cells5 (xs.getD j noScal))[i]? := by
  induction xs generalizing j with
  | nil => simp at hj
  | cons x xs ih =>
    rw [List.flatMap_cons]
    cases j with
    | zero => rw [List.getElem?_append_left (by simp [cells5]; omega)]; simp
    | succ j =>
      have hl : (cells5 x).length = 5 := rfl
      rw [List.getElem?_append_right (by rw [hl]; omega), hl, show (j + 1) * 5 + i - 5 = j * 5 + i by omega, ih (by simpa using hj)]
      simp
theorem scals_of_row {B : Nat} {W : World} {v : Value} {xs : List (Int × Bool × ByteArray)} (h : W.ownsRow B 26 5 v xs.length (xs.flatMap cells5)) (hn : xs.length ≤ 140737488355328) : ScalsAt W.heap.size W v xs := by
  have h0 := h
  rcases h.2 with ⟨rfl, h2⟩ | ⟨g, cap, cur, rfl, h3, h4, h5, h6, -⟩
  · exact ⟨none, 0, by rw [h2], by omega, hn, fun hp => by omega⟩
  · have key : ∀ j i u, j < xs.length → i < 5 → (cells5 (xs.getD j noScal))[i]? = some u → W.cell? ⟨g, 0 + j * 5 + i, none⟩ = some u := fun j i u hj hi hu => by
      have := World.ownsRow.cells h0 (g := g) rfl (j * 5 + i) u (by rw [cells5_at hj hi]; exact hu)
      rw [Lib.add_plain, ← Nat.add_assoc] at this
      exact this
    refine ⟨_, cap, rfl, h5, hn, fun hp => ⟨g, 0, rfl, (Array.getElem?_eq_some_iff.1 h4).1, fun j hj => ⟨?_, ?_, ?_, ?_, ?_⟩⟩⟩
    · exact key j 0 _ hj (by omega) rfl
    · exact key j 1 _ hj (by omega) rfl
    · exact key j 2 _ hj (by omega) rfl
    · exact key j 3 _ hj (by omega) rfl
    · exact key j 4 _ hj (by omega) rfl

/-- What Get answers of an object of scalars. -/
def Gets (w : World) (ks : List ByteArray) (xs : List (Int × Bool × ByteArray)) (key : ByteArray) (e : Ending) (w' : World) : Prop := ∃ p, KeyPlace ks key p ∧ e = .returned (.tuple #[if hasAt ks key p then scal (xs.getD p noScal).1 (xs.getD p noScal).2.1 (xs.getD p noScal).2.2 else scal 0 false ⟨#[]⟩, .bool (hasAt ks key p)]) ∧ Below w.heap.size w w'

end Go.Proofs.YtcbcjeabpjjhbaaGreatDoor
