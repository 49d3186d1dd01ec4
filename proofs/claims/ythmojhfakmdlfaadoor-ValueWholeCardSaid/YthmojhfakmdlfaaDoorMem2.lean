/- A block of cells. -/
import Derived.Test.YthmojhfakmdlfaaDoorIter
namespace Go.Proofs.YthmojhfakmdlfaaDoor
open Go.RowKit

/-- Block B holds the cells cs, of type t, none of them frozen. -/
def Blk (W : World) (B : Nat) (cs : Array Value) (t : TypeId) : Prop := W.heap[B]? = some (.cells cs t (0, 0))
theorem Blk.lt {W : World} {B : Nat} {cs : Array Value} {t : TypeId} (h : Blk W B cs t) : B < W.heap.size := (Array.getElem?_eq_some_iff.1 h).1
theorem Blk.cell {W : World} {B : Nat} {cs : Array Value} {t : TypeId} (h : Blk W B cs t) (i : Nat) : W.cell? ⟨B, i, none⟩ = cs[i]? := by simp [World.cell?, show W.heap[B]? = _ from h]
theorem Blk.frozen {W : World} {B : Nat} {cs : Array Value} {t : TypeId} (h : Blk W B cs t) (i : Nat) : W.frozen? ⟨B, i, none⟩ = false := by simp [World.frozen?, show W.heap[B]? = _ from h]
theorem Blk.new (W : World) (cs : Array Value) (t : TypeId) : Blk (W.alloc (.cells cs t)) W.heap.size cs t := World.alloc_heap_new W _
theorem Blk.below {W W' : World} {B : Nat} {cs : Array Value} {t : TypeId} (h : Blk W B cs t) (hb : Below W.heap.size W W') : Blk W' B cs t := (hb.block B h.lt).trans h
theorem Blk.alloc {W : World} {B : Nat} {cs : Array Value} {t : TypeId} (h : Blk W B cs t) (o : Obj) : Blk (W.alloc o) B cs t := h.below ((Below.refl _ W).alloc (Nat.le_refl _) o)

theorem Blk.set {W : World} {B : Nat} {cs : Array Value} {t : TypeId} (h : Blk W B cs t) (i : Nat) (u : Value) : Blk (W.setCell ⟨B, i, none⟩ u) B (cs.setIfInBounds i u) t := heap_setCell_same W B i cs t u h
theorem Blk.other {W : World} {B : Nat} {cs : Array Value} {t : TypeId} (h : Blk W B cs t) {p : Addr} (hp : B ≠ p.block) (u : Value) : Blk (W.setCell p u) B cs t := by
  unfold Blk
  rw [Below.heap_setCell _ _ _ _ hp]
  exact h
/-- A block of two cells, both written. -/
theorem Blk.set2 {W : World} {B : Nat} {a b : Value} {t : TypeId} (h : Blk W B #[a, b] t) (x y : Value) : Blk ((W.setCell ⟨B, 0, none⟩ x).setCell ⟨B, 1, none⟩ y) B #[x, y] t := (h.set 0 x).set 1 y

/-- A size stands where a block of another type is written. -/
theorem Own.far {lo : Nat} {w : World} {v : Value} {l : List Nat} {B : Nat} {cs : Array Value} {t : TypeId} (h : Own lo w v l) (hk : Blk w B cs t) (ht : t ≠ 100) (i : Nat) (u : Value) : Own lo (w.setCell ⟨B, i, none⟩ u) v l := by
  obtain ⟨h1, h2⟩ := h
  refine ⟨h1, ?_⟩
  rcases h2 with h2 | ⟨g, cap, cur, h2, h3, h4, h5⟩
  · exact .inl h2
  · refine .inr ⟨g, cap, cur, h2, h3, ?_, h5⟩
    rw [Below.heap_setCell _ _ _ _ (fun e => ?_)]
    · exact h4
    · have e : g = B := e
      subst e
      have := (show w.heap[g]? = _ from hk).symm.trans h4
      simp at this
      exact ht this.2
theorem Sz.far2 {lo : Nat} {w : World} {v : Value} {n : Nat} {B : Nat} {a b : Value} {t : TypeId} (h : Sz lo w v n) (hk : Blk w B #[a, b] t) (ht : t ≠ 100) (x y : Value) : Sz lo ((w.setCell ⟨B, 0, none⟩ x).setCell ⟨B, 1, none⟩ y) v n := Own.far (Own.far h hk ht 0 x) (hk.set 0 x) ht 1 y

end Go.Proofs.YthmojhfakmdlfaaDoor
