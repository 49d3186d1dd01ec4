/- A size of package num in memory: a slice value that owns the cells of its limbs. -/
import Derived.Test.YthmojhfakmdlfaaDoorProg
import Derived.Test.YthmojhfakmdlfaaDoorMath
import Derived.WalkKit
import Derived.WalkSpells
import Derived.WalkLawsBesides
import Derived.Lib.Hide
import Derived.OneCell
namespace Go.Proofs.YthmojhfakmdlfaaDoor
open Go.RowKit

/-- The cells of limbs. -/
def u64s (l : List Nat) : List Value := l.map fun x : Nat => Value.int .u64 (x : Int)
theorem u64s_length (l : List Nat) : (u64s l).length = l.length := by simp [u64s]
theorem u64s_append (a b : List Nat) : u64s (a ++ b) = u64s a ++ u64s b := by simp [u64s]
theorem u64s_take (l : List Nat) (k : Nat) : (u64s l).take k = u64s (l.take k) := by simp [u64s, List.map_take]
theorem u64s_at {l : List Nat} {j : Nat} (h : j < l.length) : (u64s l)[j]? = some (.int .u64 ((l.getD j 0 : Nat) : Int)) := by
  simp [u64s, h]

/-- The slice value v owns the limbs l, in a block from lo on (or it is nil, and there are none). -/
def Own (lo : Nat) (w : World) (v : Value) (l : List Nat) : Prop := w.ownsRow lo 100 1 v l.length (u64s l)
/-- The slice value v is the size n. -/
def Sz (lo : Nat) (w : World) (v : Value) (n : Nat) : Prop := Own lo w v (limbs n)

theorem Own.lt {lo : Nat} {w : World} {v : Value} {l : List Nat} (h : Own lo w v l) {k : Nat} (hk : v.ownBlock = some k) : lo ≤ k ∧ k < w.heap.size := World.ownsRow.lt h k hk
theorem Own.below {lo : Nat} {w w' : World} {v : Value} {l : List Nat} (h : Own lo w v l) (hb : Below w.heap.size w w') : Own lo w' v l := by
  obtain ⟨h1, h2⟩ := h
  refine ⟨h1, ?_⟩
  rcases h2 with h2 | ⟨g, cap, cur, h2, h3, h4, h5⟩
  · exact .inl h2
  · refine .inr ⟨g, cap, cur, h2, h3, ?_, h5⟩
    rw [hb.block g (Array.getElem?_eq_some_iff.1 h4).1]; exact h4
theorem Own.mono {lo lo' : Nat} {w : World} {v : Value} {l : List Nat} (h : Own lo w v l) (hl : lo' ≤ lo) : Own lo' w v l := by
  obtain ⟨h1, h2⟩ := h
  refine ⟨h1, ?_⟩
  rcases h2 with h2 | ⟨g, cap, cur, h2, h3, h4, h5⟩
  · exact .inl h2
  · exact .inr ⟨g, cap, cur, h2, by omega, h4, h5⟩
theorem Sz.below {lo : Nat} {w w' : World} {v : Value} {n : Nat} (h : Sz lo w v n) (hb : Below w.heap.size w w') : Sz lo w' v n := Own.below h hb
theorem Sz.mono {lo lo' : Nat} {w : World} {v : Value} {n : Nat} (h : Sz lo w v n) (hl : lo' ≤ lo) : Sz lo' w v n := Own.mono h hl

/-- What a walk reads of an owned slice: its length, and its cells where there are some. -/
theorem Own.view {lo : Nat} {w : World} {v : Value} {l : List Nat} (h : Own lo w v l) :
    ∃ ad cap, v = .slice ad l.length cap ∧ l.length ≤ cap ∧ cap ≤ maxLen ∧ (0 < l.length → ∃ g, ad = some ⟨g, 0, none⟩ ∧ lo ≤ g ∧ g < w.heap.size ∧ ∀ j, j < l.length → w.cell? ⟨g, j, none⟩ = some (.int .u64 ((l.getD j 0 : Nat) : Int))) := by
  have h0 := h
  obtain ⟨h1, h2⟩ := h
  rcases h2 with ⟨rfl, h2⟩ | ⟨g, cap, cur, rfl, h3, h4, h5, h6, h7⟩
  · exact ⟨none, 0, by rw [h2], by omega, by unfold maxLen; omega, fun h => by omega⟩
  · refine ⟨_, cap, rfl, h5, h6, fun _ => ⟨g, rfl, h3, (Array.getElem?_eq_some_iff.1 h4).1, fun j hj => ?_⟩⟩
    have := World.ownsRow.cells h0 (g := g) rfl j _ (u64s_at hj)
    rwa [Lib.add_plain, Nat.zero_add] at this

/-- Fewer limbs of the same slice. -/
theorem Own.cut {lo : Nat} {w : World} {ad : Option Addr} {n cap : Nat} {l : List Nat} (h : Own lo w (.slice ad n cap) l) {k : Nat} (hk : k ≤ l.length) : Own lo w (.slice ad k cap) (l.take k) := by
  obtain ⟨h1, h2⟩ := h
  refine ⟨by rw [u64s_length, Nat.mul_one], ?_⟩
  have e : (l.take k).length = k := by rw [List.length_take]; omega
  rcases h2 with ⟨h2, h3⟩ | ⟨g, cap', cur, h2, h3, h4, h5, h6, h7, h8⟩
  · left
    cases h2
    rw [e]
    have : k = 0 := by omega
    subst this
    exact ⟨rfl, rfl⟩
  · right
    cases h2
    refine ⟨g, _, cur, ?_, h3, h4, by rw [e]; omega, h6, h7, ?_⟩
    · rw [e]
    · rw [e, ← u64s_take, ← h8, List.take_take, Nat.mul_one, Nat.mul_one, Nat.min_eq_left hk]

/-- An owned row is some slice. -/
theorem row_shape {lo : Nat} {w : World} {e : TypeId} {k : Nat} {v : Value} {n : Nat} {xs : List Value} (h : w.ownsRow lo e k v n xs) : ∃ ad cap, v = .slice ad n cap := by
  rcases h.2 with ⟨rfl, h2⟩ | ⟨g, cap, cur, rfl, _⟩
  · exact ⟨none, 0, by rw [h2]⟩
  · exact ⟨_, _, rfl⟩

theorem Own.nil {lo : Nat} {w : World} : Own lo w (.slice none 0 0) [] := ⟨rfl, .inl ⟨rfl, rfl⟩⟩

theorem Own.row {lo : Nat} {w : World} {v : Value} {l : List Nat} (h : Own lo w v l) : w.ownsRow lo 100 1 v l.length (u64s l) := h
theorem Own.snoc {lo : Nat} {w : World} {v : Value} {l : List Nat} {x : Nat} (h : w.ownsRow lo 100 1 v (l.length + 1) (u64s l ++ [.int .u64 (x : Int)])) : Own lo w v (l ++ [x]) := by
  unfold Own
  rw [u64s_append, List.length_append, List.length_singleton]
  exact h

/-- A store into one of the cells. -/
theorem Own.set {lo : Nat} {w : World} {g cap : Nat} {n : Nat} {l : List Nat} (h : Own lo w (.slice (some ⟨g, 0, none⟩) n cap) l) (hn : n = l.length) (j x : Nat) : Own lo (w.setCell ⟨g, j, none⟩ (.int .u64 (x : Int))) (.slice (some ⟨g, 0, none⟩) n cap) (l.set j x) := by
  subst hn
  have h1 := (World.ownsRow.stored h j (.int .u64 (x : Int))).1
  unfold Own
  rw [List.length_set]
  have e : u64s (l.set j x) = (u64s l).set j (.int .u64 (x : Int)) := by unfold u64s; rw [List.map_set]
  rw [e]
  exact h1
theorem Own.frozen {lo : Nat} {w : World} {g cap : Nat} {n : Nat} {l : List Nat} (h : Own lo w (.slice (some ⟨g, 0, none⟩) n cap) l) (hn : n = l.length) (j : Nat) : w.frozen? ⟨g, j, none⟩ = false := by
  subst hn
  exact World.ownsRow.frozenAt h j
theorem Own.made {lo : Nat} {w : World} {v : Value} {n : Nat} (h : w.ownsRow lo 100 1 v n (madeCells #[.int .u64 0] (n * 1)).toList) : Own lo w v (List.replicate n 0) := by
  unfold Own
  rw [List.length_replicate]
  have e : u64s (List.replicate n 0) = List.replicate n (.int .u64 0) := by unfold u64s; rw [List.map_replicate]; rfl
  rw [e]
  rw [toList_madeCells_one, Nat.mul_one] at h
  exact h

theorem Tryd.infoU64 : (Tryd.prog.info? 100).map (fun i => (i.zero, i.size, i.bytes)) = some (some (.int .u64 0), 1, 8) := by kernel_rfl

theorem Tryd.infoU8 : (Tryd.prog.info? 5).map (fun i => (i.zero, i.size, i.bytes)) = some (some (.int .u8 0), 1, 1) := by kernel_rfl
/-- What is owned stays owned where what was there stays. -/
theorem row_below {lo : Nat} {e : TypeId} {k n : Nat} {w w' : World} {v : Value} {xs : List Value} (h : w.ownsRow lo e k v n xs) (hb : Below w.heap.size w w') : w'.ownsRow lo e k v n xs := by
  obtain ⟨h1, h2⟩ := h
  refine ⟨h1, ?_⟩
  rcases h2 with h2 | ⟨g, cap, cur, h2, h3, h4, h5⟩
  · exact .inl h2
  · refine .inr ⟨g, cap, cur, h2, h3, ?_, h5⟩
    rw [hb.block g (Array.getElem?_eq_some_iff.1 h4).1]; exact h4

theorem cell_box (w : World) (x : Value) (t : TypeId) : ∀ (j : Nat) (u : Value), [x][j]? = some u → (w.alloc (.cells #[x] t)).cell? ((⟨w.heap.size, 0, none⟩ : Addr).add j) = some u := by
  intro j u hj
  match j, hj with
  | 0, hj => simp at hj; subst hj; simp [Addr.add]

end Go.Proofs.YthmojhfakmdlfaaDoor
