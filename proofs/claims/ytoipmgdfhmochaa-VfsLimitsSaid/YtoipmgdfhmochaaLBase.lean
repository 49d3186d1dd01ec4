/- A block of cells; a scanner in memory. -/
import Derived.Test.YtoipmgdfhmochaaProg
import Derived.WalkKit
import Derived.WalkSpells
import Derived.WalkLawsBesides
import Derived.Lib.Hide
import Derived.OneCell
import Derived.RangeFuncBox
namespace Go.Proofs.Ytoipmgdfhmochaa
open Go.RowKit
set_option linter.unusedVariables false

/-- Block B holds the cells cs, of type t, none of them frozen. -/
def Blk (W : World) (B : Nat) (cs : Array Value) (t : TypeId) : Prop := W.heap[B]? = some (.cells cs t (0, 0))
theorem Blk.lt {W : World} {B : Nat} {cs : Array Value} {t : TypeId} (h : Blk W B cs t) : B < W.heap.size := (Array.getElem?_eq_some_iff.1 h).1
theorem Blk.cell {W : World} {B : Nat} {cs : Array Value} {t : TypeId} (h : Blk W B cs t) (i : Nat) : W.cell? ⟨B, i, none⟩ = cs[i]? := by simp [World.cell?, show W.heap[B]? = _ from h]
theorem Blk.frozen {W : World} {B : Nat} {cs : Array Value} {t : TypeId} (h : Blk W B cs t) (i : Nat) : W.frozen? ⟨B, i, none⟩ = false := by simp [World.frozen?, show W.heap[B]? = _ from h]
theorem Blk.new (W : World) (cs : Array Value) (t : TypeId) : Blk (W.alloc (.cells cs t)) W.heap.size cs t := World.alloc_heap_new W _
theorem Blk.below {W W' : World} {B : Nat} {cs : Array Value} {t : TypeId} (h : Blk W B cs t) (hb : Below W.heap.size W W') : Blk W' B cs t := (hb.block B h.lt).trans h
theorem Blk.alloc {W : World} {B : Nat} {cs : Array Value} {t : TypeId} (h : Blk W B cs t) (o : Obj) : Blk (W.alloc o) B cs t := h.below ((Below.refl _ W).alloc (Nat.le_refl _) o)

theorem Blk.set {W : World} {B : Nat} {cs : Array Value} {t : TypeId} (h : Blk W B cs t) (i : Nat) (u : Value) : Blk (W.setCell ⟨B, i, none⟩ u) B (cs.setIfInBounds i u) t := heap_setCell_same W B i cs t u h
theorem Blk.other {W : World} {B : Nat} {cs : Array Value} {t : TypeId} (h : Blk W B cs t) {p : Addr} (hp : B ≠ p.block) (u : Value) : Blk (W.setCell p u) B cs t := by
  unfold Blk
  rw [Below.heap_setCell _ _ _ _ hp]
  exact h
/-- A block of two cells, both written. -/
theorem Blk.set2 {W : World} {B : Nat} {a b : Value} {t : TypeId} (h : Blk W B #[a, b] t) (x y : Value) : Blk ((W.setCell ⟨B, 0, none⟩ x).setCell ⟨B, 1, none⟩ y) B #[x, y] t := (h.set 0 x).set 1 y

theorem below_new (w : World) (o : Obj) : Below w.heap.size w (w.alloc o) := (Below.refl _ _).alloc (Nat.le_refl _) _
theorem cells_keep {w1 w2 : World} (hb : Below w1.heap.size w1 w2) {p : Addr} {v : Value} (h : w1.cell? p = some v) : w2.cell? p = some v := (hb.cell (World.block_lt_of_cell? w1 _ h)).trans h
/-- All blocks that were there but R are as they were. -/
structure Aside (R : Nat) (W w' : World) : Prop where
  os : w'.os = W.os
  tape : w'.tape = W.tape
  output : w'.output = W.output
  size : W.heap.size ≤ w'.heap.size
  block : ∀ k, k < W.heap.size → k ≠ R → w'.heap[k]? = W.heap[k]?
theorem Aside.refl (R : Nat) (W : World) : Aside R W W := ⟨rfl, rfl, rfl, Nat.le_refl _, fun _ _ _ => rfl⟩
theorem Aside.trans {R : Nat} {a b c : World} (h : Aside R a b) (k : Aside R b c) : Aside R a c :=
  ⟨k.os.trans h.os, k.tape.trans h.tape, k.output.trans h.output, Nat.le_trans h.size k.size, fun i hi hr => (k.block i (Nat.lt_of_lt_of_le hi h.size) hr).trans (h.block i hi hr)⟩
theorem Aside.below {R B : Nat} {W w' : World} (h : Aside R W w') (hB : B ≤ W.heap.size) (hR : B ≤ R) : Below B W w' := ⟨h.os, h.tape, h.output, h.size, fun k hk => h.block k (by omega) (by omega)⟩
theorem Aside.of {R : Nat} {W w' : World} (h : Below W.heap.size W w') : Aside R W w' := ⟨h.os, h.tape, h.output, h.size, fun k hk _ => h.block k hk⟩
theorem Aside.set {R : Nat} {W w' : World} (h : Aside R W w') (j : Nat) (u : Value) : Aside R W (w'.setCell ⟨R, j, none⟩ u) :=
  ⟨h.os, h.tape, h.output, by simpa using h.size, fun k hk hr => by rw [Below.heap_setCell w' ⟨R, j, none⟩ u k hr]; exact h.block k hk hr⟩
theorem Aside.draw {R : Nat} {W w' : World} (h : Aside R W w') (n : Nat) : Aside R W (w'.drewN n) := ⟨h.os, h.tape, h.output, h.size, h.block⟩
theorem Blk.aside {R Q : Nat} {W w' : World} {cs : Array Value} {t : TypeId} (h : Blk W Q cs t) (ha : Aside R W w') (hne : Q ≠ R) : Blk w' Q cs t := (ha.block Q h.lt hne).trans h


end Go.Proofs.Ytoipmgdfhmochaa
