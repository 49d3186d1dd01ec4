/- Places of at most 12 keys, sorted. -/
import Derived.Test.YthmojhfakmdlfaaDoorVPlaces
import Derived.Lib.OwnBridge
namespace Go.Proofs.YthmojhfakmdlfaaDoor
open Go.RowKit Go.Sort Go.Shelf
set_option linter.unusedVariables false

def encFin (n : Nat) (i : Fin n) : Value := .int .i64 (i.val : Int)
theorem counted_fin (n : Nat) : counted n n = (List.finRange n).map (encFin n) := by
  rw [counted_full]
  apply List.ext_getElem
  · simp
  · intro i h1 h2
    simp [encFin]

/-- In a world that the sort passes through, other blocks are as they were. -/
theorem sortWorld_other {α : Type} [Inhabited α] (enc : α → Value) (W : World) (blk off m : Nat) (dk : Array α) (os : Array Obj) (a : Addr) (h1 : a.block ≠ blk) (h2 : a.block < W.heap.size) : (sortWorld enc W blk off m dk os).cell? a = W.cell? a := by
  unfold sortWorld
  rw [cell?_grow _ _ _ (by rw [size_putRow]; exact h2), cell?_putRow_other enc _ blk off dk a (Or.inl h1)]
  rfl
theorem StrsAt.sorts {α : Type} [Inhabited α] {B : Nat} {W : World} {v : Value} {ks : List ByteArray} (h : StrsAt B W v ks) (enc : α → Value) (blk off m : Nat) (dk : Array α) (os : Array Obj) (hb : B ≤ blk) (hW : B ≤ W.heap.size) : StrsAt B (sortWorld enc W blk off m dk os) v ks := by
  obtain ⟨ad, cap, h1, h2, h3, h4⟩ := h
  refine ⟨ad, cap, h1, h2, h3, fun hp => ?_⟩
  obtain ⟨g, o, h5, h6, h7⟩ := h4 hp
  exact ⟨g, o, h5, h6, fun j hj => (sortWorld_other enc W blk off m dk os ⟨g, o + j, none⟩ (by show g ≠ blk; omega) (by show g < W.heap.size; omega)).trans (h7 j hj)⟩

theorem compareBytes_neg : ∀ a b : List UInt8, Lib.compareBytes a b < 0 ↔ a < b
  | [], [] => by simp [Lib.compareBytes]
  | [], _ :: _ => by simp [Lib.compareBytes]
  | _ :: _, [] => by simp [Lib.compareBytes]
  | x :: a, y :: b => by
    unfold Lib.compareBytes
    rw [List.cons_lt_cons_iff]
    have ih := compareBytes_neg a b
    by_cases h : x < y
    · rw [if_pos h]; simp [h]
    · rw [if_neg h]
      by_cases h' : y < x
      · rw [if_pos h']
        have hne : x ≠ y := fun e => by subst e; exact absurd h' h
        simp [h, hne]
      · rw [if_neg h']
        have he : x = y := by
          have h1 : ¬ x.toNat < y.toNat := h
          have h2 : ¬ y.toNat < x.toNat := h'
          exact UInt8.toNat_inj.1 (by omega)
        subst he
        rw [ih]
        simp
theorem byKey_lt (ks : List ByteArray) (x y : Fin ks.length) : ltOf (byKey ks) x y = bLt ks[x] ks[y] := by
  unfold ltOf byKey bLt
  rw [Bool.eq_iff_iff, decide_eq_true_iff, decide_eq_true_iff]
  exact compareBytes_neg _ _
theorem bLt_irrefl (a : ByteArray) : bLt a a = false := by
  unfold bLt
  rw [decide_eq_false_iff_not]
  exact List.lt_irrefl _
theorem byKey_swo (ks : List ByteArray) : SWO (ltOf (byKey ks)) where
  irrefl x := by rw [byKey_lt]; exact bLt_irrefl _
  trans x y z h1 h2 := by rw [byKey_lt] at *; exact bLt_trans h1 h2
  ntrans x y z h1 h2 := by
    rw [byKey_lt] at *
    unfold bLt at *
    simp only [decide_eq_false_iff_not, List.not_lt] at *
    exact List.le_trans h2 h1

/-- What a sort leaves: a row of places, sorted by their keys. -/
def SortedAt (w0 : World) (ks : List ByteArray) (w' : World) : Prop := ∃ (hI : Inhabited (Fin ks.length)) (d' : Array (Fin ks.length)), PermIn 0 ks.length (List.finRange ks.length).toArray d' ∧ SortedIn (ltOf (byKey ks)) 0 ks.length d' ∧ Below w0.heap.size w0 w' ∧ w'.ownsRow w0.heap.size 3 1 (.slice (some ⟨w0.heap.size + 1, 0, none⟩) ks.length ks.length) ks.length (d'.toList.map (encFin ks.length))

set_option maxHeartbeats 1000000 in
theorem sort_small {w W : World} {kv : Value} {ks : List ByteArray} (h0 : 0 < ks.length) (h12 : ks.length ≤ 12) (hk : StrsAt w.heap.size w kv ks) (hb : Below w.heap.size w W)
    (hr : W.ownsRow w.heap.size 3 1 (.slice (some ⟨w.heap.size + 1, 0, none⟩) ks.length ks.length) ks.length (counted ks.length ks.length)) (hc : W.cell? ⟨w.heap.size, 0, none⟩ = some kv) :
    Calls Tryd.prog 47 #[.slice (some ⟨w.heap.size + 1, 0, none⟩) ks.length ks.length, .func (.func 48) #[] #[.pointer (some ⟨w.heap.size, 0, none⟩)] ] W fun e w' => e = .returned (.tuple #[]) ∧ SortedAt w ks w' := by
  letI hI : Inhabited (Fin ks.length) := ⟨⟨0, h0⟩⟩
  have eg : ∀ args w, (callFunc 48 args).run Tryd.prog w = .ok (.enter 48 args) w := enters_of Tryd.func48 (by kernel_rfl) rfl
  rw [counted_fin] at hr
  obtain ⟨g, cap, e1, -, hg, -, -, -, hH⟩ := Lib.holds_of_ownsRow hr (by intro h; cases h)
  cases e1
  have hcm : CmpReads Tryd.prog 48 #[.pointer (some ⟨w.heap.size, 0, none⟩)] (encFin ks.length) (byKey ks) (w.heap.size + 1) 0 (List.finRange ks.length).toArray.size W := fun m os dk hs x y =>
    closure_any (B := w.heap.size) (C := w.heap.size) x y ((hk.below hb).sorts _ _ _ _ _ _ (by omega) hb.size) ((sortWorld_other _ W _ _ _ _ _ ⟨w.heap.size, 0, none⟩ (by show w.heap.size ≠ w.heap.size + 1; omega) (by show w.heap.size < W.heap.size; omega)).trans hc)
  have hsz : (List.finRange ks.length).toArray.size = ks.length := by simp
  have hcon := Tryd.slices_SortFunc_small_sorted (encFin ks.length) (fun _ => rfl) (byKey ks) (byKey_swo ks) 48 #[.pointer (some ⟨w.heap.size, 0, none⟩)] (w.heap.size + 1) 0 ks.length (List.finRange ks.length).toArray W eg hcm hH (by rw [hsz]; exact h12) (fun n W' hn => (Tryd.bits_Len n W' (by omega) (by omega)).mono fun _ _ ⟨he, hw⟩ => ⟨⟨_, he⟩, hw⟩)
  rw [hsz] at hcon
  refine Calls.mono hcon ?_
  rintro e w' ⟨rfl, d', n, hp, hso, rfl⟩
  have hq := Lib.below_putRow (enc := encFin ks.length) (g := w.heap.size + 1) (q := 0) (d := d') hb (by omega)
  have hl : d'.toList.length = ks.length := by rw [Array.length_toList, hp.1, hsz]
  have ho := Lib.ownsRow_putRow (q := 0) (ys := d'.toList) hr hl (Nat.le_refl _)
  rw [List.take_of_length_le (by omega)] at ho
  exact ⟨rfl, hI, d', hp, hso, ⟨hq.os, hq.tape, hq.output, hq.size, hq.block⟩, ho⟩
end Go.Proofs.YthmojhfakmdlfaaDoor
