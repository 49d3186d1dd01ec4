/- . -/
import Derived.Deep.RegionWith
import Derived.Deep.RegionHeld
import Derived.Test.YtljgggohjigaoaaGreatDoorSk43
namespace Go.Proofs.YtljgggohjigaoaaGreatDoor
open Go.RowKit Go.Shelf
set_option linter.unusedVariables false
set_option linter.unusedSimpArgs false

end Go.Proofs.YtljgggohjigaoaaGreatDoor
namespace Go.Proofs.YtljgggohjigaoaaGreatDoor
open Go.RowKit Go.Shelf
set_option linter.unusedVariables false

theorem short_of : ∀ (n : Nat) (l : List Nat), (∀ x ∈ l, x < n) → (∀ x, l.count x ≤ 1) → l.length ≤ n := by
 intro n
 induction n with
 | zero =>
  intro l h _
  cases l with
  | nil => exact Nat.le_refl _
  | cons a b => exact absurd (h a List.mem_cons_self) (Nat.not_lt_zero _)
 | succ n ih =>
  intro l h hc
  have h1 := ih (l.filter fun x => x != n) (fun x hx => by
   obtain ⟨h2, h3⟩ := List.mem_filter.1 hx
   have := h x h2
   have h4 : x ≠ n := by simpa using h3
   omega) (fun x => Nat.le_trans (List.Sublist.count_le _ List.filter_sublist) (hc x))
  have h2 := List.length_eq_countP_add_countP (fun x => x != n) (l := l)
  rw [← List.countP_eq_length_filter] at h1
  have h3 : l.countP (fun a => decide ¬ ((a != n) = true)) = l.count n := by
   unfold List.count
   refine List.countP_congr fun x _ => ?_
   simp
  have := hc n
  omega
theorem parse_len {t : ByteArray} {f : Fi} (h : parseF t = .ok f) : f.exprs.length + f.blocks.length ≤ t.size ∧ t.size ≤ 16384 := by
 unfold parseF at h
 cases hs : scanL t with
 | error e => rw [hs] at h; cases h
 | ok l =>
  rw [hs] at h
  simp only at h
  cases hw : wholeM (⟨l ++ [endT t.size], false, ⟨[], [], []⟩⟩ : Ps) with
  | error e => rw [hw] at h; cases h
  | ok y =>
   obtain ⟨u, s⟩ := y
   rw [hw] at h
   cases h
   have h1 := scan_snd 24 t.size 0 hs
   rw [shift0] at h1
   have h2 := (whole_dec _ h1 u s hw).2
   have h3 := (scan_wt hs).1
   have h5 : wts (l ++ [endT t.size]) = wts l := by
    rw [wts_append]
    have : wts [endT t.size] = 0 := rfl
    omega
   unfold Go.Proofs.YtljgggohjigaoaaGreatDoor.pot at h2
   simp only [List.length_nil] at h2
   exact ⟨by omega, (scan_pos hs).1⟩
section
variable {N : Nat} {f : Fi}
theorem FOk.onceB {E : List Nat} (h : FOk N f [] []) (x : Nat) (hE : E.Sublist (useB f)) : E.count x ≤ 1 := by
 refine Nat.le_trans (hE.count_le x) ?_
 by_cases hx : x < f.blocks.length
 ·have := h.oneB x hx; simp at this; omega
 ·rw [count_none h.usedB (by omega)]; omega
theorem subK (j : Nat) : (f.blocks.flatMap Bl.blocks ++ f.top.take j).Sublist (useB f) := (List.Sublist.refl _).append (List.take_sublist j _)
theorem FOk.lenK (h : FOk N f [] []) : f.top.length ≤ f.blocks.length := short_of _ _ h.top fun x => h.onceB x ((List.sublist_append_right (f.blocks.flatMap Bl.blocks) f.top).trans (by have := subK (f := f) f.top.length; rw [List.take_length] at this; exact this))
end
end Go.Proofs.YtljgggohjigaoaaGreatDoor
