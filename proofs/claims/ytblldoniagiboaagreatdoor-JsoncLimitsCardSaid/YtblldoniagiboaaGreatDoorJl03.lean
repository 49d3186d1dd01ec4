/- fromLast: the iterator over a size's limbs, the highest first · What a call of num makes -/
import Derived.RangeFuncNested
import Derived.RangeFuncBound
import Derived.RangeFuncCalls
import Derived.RangeFuncLeaves
import Derived.RangeFuncBox
import Derived.Shelf.Abstract
import Derived.Shelf.RegionOpen
import Derived.WalkKit
import Derived.OwnWalkIn
import Derived.TacticsInMore
import Derived.LoopNIn
import Derived.LoopIn
import Derived.Test.YtblldoniagiboaaGreatDoorJl01
import Derived.Test.YtblldoniagiboaaGreatDoorJl02
namespace Go.Proofs.YtblldoniagiboaaGreatDoor
open Go.RowKit Go.Shelf

attribute [local go_sem] Oper.semAt_some

/-- The blocks bs lie as they lay. -/
def KeepB (bs : List Nat) (W W' : World) : Prop := ∀ b ∈ bs, ∀ o, W.heap[b]? = some o → W'.heap[b]? = some o
theorem KeepB.refl (bs : List Nat) (W : World) : KeepB bs W W := fun _ _ _ h => h
theorem KeepB.trans {bs : List Nat} {A B C : World} (h : KeepB bs A B) (k : KeepB bs B C) : KeepB bs A C := fun b hb o ho => k b hb o (h b hb o ho)
theorem KeepB.putObj {bs : List Nat} {w : World} (hs : ∀ b ∈ bs, b < w.heap.size) (W : World) (l : Nat) (o o' : Obj) (hl : w.heap.size ≤ l) (_ : W.heap[l]? = some o) (_ : o.isCells = false) (_ : o.isWalk = false) : KeepB bs W (W.putObj l o') :=
  fun b hb p hp => by have := hs b hb; rw [World.putObj_heap_other (by omega)]; exact hp
theorem KeepB.of_below {bs : List Nat} {W W' : World} (h : Below W.heap.size W W') : KeepB bs W W' := fun b _ o ho => by rw [h.block b (Array.getElem?_eq_some_iff.1 ho).1]; exact ho
theorem KeepB.setCell {bs : List Nat} (W : World) (p : Addr) (v : Value) (h : p.block ∉ bs) : KeepB bs W (W.setCell p v) := fun b hb o ho => by
  rw [Below.heap_setCell _ _ _ _ (fun e => h (by rw [← e]; exact hb))]; exact ho
theorem KeepB.grown {bs : List Nat} {W W' : World} {row : Option Nat} (hg : W.grownBy W' row) (h : ∀ k, row = some k → k ∉ bs) : KeepB bs W W' := fun b hb o ho => by
  rw [hg.block b (Array.getElem?_eq_some_iff.1 ho).1 (fun e => h b e.symm hb)]; exact ho
theorem KeepsFrom.of_below {B : Nat} {W W' : World} (h : Below W.heap.size W W') : KeepsFrom B W W' := ⟨h.size, fun k o _ ho _ => by rw [h.block k (Array.getElem?_eq_some_iff.1 ho).1]; exact ho⟩

theorem Own.keepB {lo : Nat} {w w' : World} {v : Value} {l : List Nat} {bs : List Nat} (h : Own lo w v l) (hb : KeepB bs w w') (hv : ∀ g, v.ownBlock = some g → g ∈ bs) : Own lo w' v l := by
  obtain ⟨h1, h2⟩ := h
  refine ⟨h1, ?_⟩
  rcases h2 with h2 | ⟨g, cap, cur, h2, h3, h4, h5⟩
  · exact .inl h2
  · refine .inr ⟨g, cap, cur, h2, h3, hb g (hv g (by rw [h2]; rfl)) _ h4, h5⟩

/-- What has come when k rounds are over. -/
def upto {α : Type} (f : Nat → α) (k : Nat) : List α := (List.range k).map f
theorem upto_succ {α : Type} (f : Nat → α) (k : Nat) : upto f (k + 1) = upto f k ++ [f k] := by simp [upto, List.range_succ]
theorem upto_length {α : Type} (f : Nat → α) (k : Nat) : (upto f k).length = k := by simp [upto]

/-- A place of n. -/
def Place (n : Nat) : Type := { k : Nat // k < n }
/-- The places, the highest first: the first k of them. -/
def downs (n k : Nat) : List Nat := upto (fun j => n - 1 - j) k
/-- What a round of fromLast is handed: the place, and its limb. -/
def encL {n : Nat} (L : List Nat) (k : Place n) : Array Value := #[.int .i64 (k.1 : Int), .int .u64 ((L.getD k.1 0 : Nat) : Int)]
/-- The places that have come. -/
def places {n : Nat} (l : List (Place n)) : List Nat := l.map fun k => k.1

end Go.Proofs.YtblldoniagiboaaGreatDoor
namespace Go.Proofs.YtblldoniagiboaaGreatDoor
open Go.RowKit
def Makes (lo : Nat) (w : World) (n : Nat) (e : Ending) (w' : World) : Prop := ∃ v, e = .returned v ∧ Sz lo w' v n ∧ Below lo w w'

end Go.Proofs.YtblldoniagiboaaGreatDoor
