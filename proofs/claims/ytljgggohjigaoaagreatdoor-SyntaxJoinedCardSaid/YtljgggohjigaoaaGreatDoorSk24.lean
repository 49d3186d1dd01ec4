/- A block under way -/
import Derived.Test.YtljgggohjigaoaaGreatDoorSk23
namespace Go.Proofs.YtljgggohjigaoaaGreatDoor
open Go.RowKit Go.Shelf
set_option linter.unusedVariables false

/-- A block of its own. -/
structure UnB (w : World) (P F T lo N : Nat) (m1 : FileM) (B : Nat) (x : BlM) : Prop where
 loc : Loc w P F T m1 B #[.string x.b.t, x.lv, x.av, x.bv, .int .i64 (x.b.at_ : Int)] 41
 ok : x.Ok lo w
 foot : ∀ g ∈ x.foot, g ∉ m1.foot F ∧ g ≠ P ∧ g ≠ T ∧ g ≠ B ∧ N ≤ g
 nodup : x.foot.Nodup
section
variable {w w' : World} {P F T lo dp N B : Nat} {m1 m2 : FileM} {s : Ps} {x : BlM} {Y : List Nat}
theorem UnB.step (h : UnB w P F T lo N m1 B x) (ho : Outs w w' P F m1) (hl : Later w F m1 m2) : UnB w' P F T lo N m2 B x :=
 ⟨h.loc.step ho hl, h.ok.keep (fun g hg => ho.block g (h.ok.lt g hg).2 (h.foot g hg).2.1 (h.foot g hg).1), fun g hg => ⟨fun hm => (hl g hm).elim (h.foot g hg).1 (fun hge => by have := (h.ok.lt g hg).2; omega), (h.foot g hg).2⟩, h.nodup⟩
theorem UnB.lc (h : UnB w P F T lo N m1 B x) (hc : Lc w w' Y) (hB : B ∉ Y) (hY : ∀ g ∈ x.foot, g ∉ Y) : UnB w' P F T lo N m1 B x :=
 ⟨h.loc.lc hc hB, h.ok.keep (fun g hg => hc.block g (h.ok.lt g hg).2 (hY g hg)), h.foot, h.nodup⟩
theorem UnB.aside (h : UnB w P F T lo N m1 B x) (ha : Aside P w w') : UnB w' P F T lo N m1 B x := h.step (Outs.aside ha) (Later.refl _ _ _)
theorem UnB.mono {N' : Nat} (h : UnB w P F T lo N m1 B x) (hN : N' ≤ N) : UnB w P F T lo N' m1 B x := ⟨h.loc, h.ok, fun g hg => ⟨(h.foot g hg).1, (h.foot g hg).2.1, (h.foot g hg).2.2.1, (h.foot g hg).2.2.2.1, Nat.le_trans hN (h.foot g hg).2.2.2.2⟩, h.nodup⟩
theorem UnB.new (h : PsAt w P F T lo dp s m1) (t : ByteArray) (a : Nat) : UnB (w.alloc (.cells #[.string t, .slice none 0 0, .slice none 0 0, .slice none 0 0, .int .i64 (a : Int)] 41)) P F T lo N m1 w.heap.size ⟨⟨t, [], [], [], a⟩, .slice none 0 0, .slice none 0 0, .slice none 0 0⟩ :=
 ⟨Loc.new h _ _, ⟨World.ownsRow_nil _ _ _ _, World.ownsRow_nil _ _ _ _, World.ownsRow_nil _ _ _ _⟩, fun g hg => (by cases hg), by simp [BlM.foot, ownB, Value.ownBlock]⟩
theorem UnB.pushL (h : UnB w P F T lo N m1 B x) (hp : PsAt w P F T lo dp s m1) (hN : N ≤ w.heap.size) {o : Obj} {w3 : World} {g2 cap2 n : Nat} {t : ByteArray} (hn : x.b.labels.length = n)
  (hown : w3.ownsRow lo 9 1 (.slice (some ⟨g2, 0, none⟩) (n + 1) cap2) (n + 1) ((x.b.labels.map Value.string) ++ [.string t])) (hg : (w.alloc o).grownBy w3 x.lv.ownBlock) (hat : x.lv.ownBlock = some g2 ∨ g2 = (w.alloc o).heap.size) :
  UnB (w3.setCell ⟨B, 1, none⟩ (.slice (some ⟨g2, 0, none⟩) (n + 1) cap2)) P F T lo N m1 B ⟨{ x.b with labels := x.b.labels ++ [t] }, (.slice (some ⟨g2, 0, none⟩) (n + 1) cap2), x.av, x.bv⟩ ∧ Lc w (w3.setCell ⟨B, 1, none⟩ (.slice (some ⟨g2, 0, none⟩) (n + 1) cap2)) (B :: ownB x.lv) := by
 have hsz : (w.alloc o).heap.size = w.heap.size + 1 := by simp
 have hl3 : Lc w w3 (ownB x.lv) := grown_lc hg (fun g e => mem_ownB.2 e)
 have hBa : B ∉ ownB x.lv := fun e => (h.foot B (List.mem_append.2 (.inl e))).2.2.2.1 rfl
 have hnd := List.nodup_append.1 (show (ownB x.lv ++ (ownB x.av ++ ownB x.bv)).Nodup from h.nodup)
 have hnd2 := List.nodup_append.1 hnd.2.1
 have hdisA : ∀ g, g ∈ ownB x.lv → g ∈ ownB x.av → False := fun g a b => hnd.2.2 g a g (List.mem_append.2 (.inl b)) rfl
 have hdisB : ∀ g, g ∈ ownB x.lv → g ∈ ownB x.bv → False := fun g a b => hnd.2.2 g a g (List.mem_append.2 (.inr b)) rfl
 have hg2 : g2 ∉ m1.foot F ∧ g2 ≠ P ∧ g2 ≠ T ∧ g2 ≠ B ∧ N ≤ g2 ∧ g2 ∉ ownB x.av ∧ g2 ∉ ownB x.bv := by
  rcases hat with h1 | h1
  ·have h2 := mem_ownB.2 h1
   have h3 := h.foot g2 (List.mem_append.2 (.inl h2))
   exact ⟨h3.1, h3.2.1, h3.2.2.1, h3.2.2.2.1, h3.2.2.2.2, hdisA g2 h2, hdisB g2 h2⟩
  ·have hrk := hp.tok.ranks
   have hE := h.loc.blk.lt
   refine ⟨fun h4 => by have := (hp.file.lt _ h4).1; omega, by omega, by omega, by omega, by omega, fun h4 => ?_, fun h4 => ?_⟩
   ·have := (h.ok.lt g2 (List.mem_append.2 (.inr (List.mem_append.2 (.inl h4))))).2
    omega
   ·have := (h.ok.lt g2 (List.mem_append.2 (.inr (List.mem_append.2 (.inr h4))))).2
    omega
 have hloc := (h.loc.lc hl3 hBa).put 1 (.slice (some ⟨g2, 0, none⟩) (n + 1) cap2)
 have ho : ownB (.slice (some ⟨g2, 0, none⟩) (n + 1) cap2) = [g2] := rfl
 refine ⟨⟨by simpa using hloc, ⟨row_same (by
   have e1 : (x.b.labels ++ [t]).map Value.string = x.b.labels.map Value.string ++ [.string t] := by simp
   show World.ownsRow _ lo 9 1 _ (x.b.labels ++ [t]).length _
   rw [e1, show (x.b.labels ++ [t]).length = n + 1 by simp [hn]]
   exact hown) (fun g e => by
   obtain rfl : g2 = g := Option.some.inj e
   exact Below.heap_setCell _ _ _ _ (by exact hg2.2.2.2.1)),
  row_same h.ok.attrs (fun g e => by
   have h2 := mem_ownB.2 e
   rw [Below.heap_setCell _ _ _ _ (by exact (h.foot g (List.mem_append.2 (.inr (List.mem_append.2 (.inl h2))))).2.2.2.1)]
   exact hl3.block g (row_lt h.ok.attrs e).2 (fun h3 => hdisA g h3 h2)),
  row_same h.ok.blocks (fun g e => by
   have h2 := mem_ownB.2 e
   rw [Below.heap_setCell _ _ _ _ (by exact (h.foot g (List.mem_append.2 (.inr (List.mem_append.2 (.inr h2))))).2.2.2.1)]
   exact hl3.block g (row_lt h.ok.blocks e).2 (fun h3 => hdisB g h3 h2))⟩, fun g hgm => (List.mem_append.1 hgm).elim (fun h1 => (by
   obtain rfl : g2 = g := Option.some.inj (mem_ownB.1 h1)
   exact ⟨hg2.1, hg2.2.1, hg2.2.2.1, hg2.2.2.2.1, hg2.2.2.2.2.1⟩)) (fun h1 => (List.mem_append.1 h1).elim (fun h1 => h.foot g (List.mem_append.2 (.inr (List.mem_append.2 (.inl h1))))) (fun h1 => h.foot g (List.mem_append.2 (.inr (List.mem_append.2 (.inr h1)))))), ?_⟩, (hl3.mono (fun k hk => List.mem_cons_of_mem _ hk)).trans (Lc.set _ _ _ _ List.mem_cons_self)⟩
 ·show (ownB (.slice (some ⟨g2, 0, none⟩) (n + 1) cap2) ++ (ownB x.av ++ ownB x.bv)).Nodup
  rw [ho]
  simp only [List.cons_append, List.nil_append, List.nodup_cons]
  exact ⟨fun hm => (List.mem_append.1 hm).elim hg2.2.2.2.2.2.1 hg2.2.2.2.2.2.2, hnd.2.1⟩
theorem UnB.pushA (h : UnB w P F T lo N m1 B x) (hp : PsAt w P F T lo dp s m1) (hN : N ≤ w.heap.size) {o : Obj} {w3 : World} {g2 cap2 n : Nat} {t : AtS} (hn : x.b.attrs.length = n)
  (hown : w3.ownsRow lo 43 3 (.slice (some ⟨g2, 0, none⟩) (n + 1) cap2) (n + 1) ((x.b.attrs.flatMap AtS.cells) ++ (AtS.cells t))) (hg : (w.alloc o).grownBy w3 x.av.ownBlock) (hat : x.av.ownBlock = some g2 ∨ g2 = (w.alloc o).heap.size) :
  UnB (w3.setCell ⟨B, 2, none⟩ (.slice (some ⟨g2, 0, none⟩) (n + 1) cap2)) P F T lo N m1 B ⟨{ x.b with attrs := x.b.attrs ++ [t] }, x.lv, (.slice (some ⟨g2, 0, none⟩) (n + 1) cap2), x.bv⟩ ∧ Lc w (w3.setCell ⟨B, 2, none⟩ (.slice (some ⟨g2, 0, none⟩) (n + 1) cap2)) (B :: ownB x.av) := by
 have hsz : (w.alloc o).heap.size = w.heap.size + 1 := by simp
 have hl3 : Lc w w3 (ownB x.av) := grown_lc hg (fun g e => mem_ownB.2 e)
 have hBa : B ∉ ownB x.av := fun e => (h.foot B (List.mem_append.2 (.inr (List.mem_append.2 (.inl e))))).2.2.2.1 rfl
 have hnd := List.nodup_append.1 (show (ownB x.lv ++ (ownB x.av ++ ownB x.bv)).Nodup from h.nodup)
 have hnd2 := List.nodup_append.1 hnd.2.1
 have hdisL : ∀ g, g ∈ ownB x.av → g ∈ ownB x.lv → False := fun g b a => hnd.2.2 g a g (List.mem_append.2 (.inl b)) rfl
 have hdisB : ∀ g, g ∈ ownB x.av → g ∈ ownB x.bv → False := fun g a b => hnd2.2.2 g a g b rfl
 have hg2 : g2 ∉ m1.foot F ∧ g2 ≠ P ∧ g2 ≠ T ∧ g2 ≠ B ∧ N ≤ g2 ∧ g2 ∉ ownB x.lv ∧ g2 ∉ ownB x.bv := by
  rcases hat with h1 | h1
  ·have h2 := mem_ownB.2 h1
   have h3 := h.foot g2 (List.mem_append.2 (.inr (List.mem_append.2 (.inl h2))))
   exact ⟨h3.1, h3.2.1, h3.2.2.1, h3.2.2.2.1, h3.2.2.2.2, hdisL g2 h2, hdisB g2 h2⟩
  ·have hrk := hp.tok.ranks
   have hE := h.loc.blk.lt
   refine ⟨fun h4 => by have := (hp.file.lt _ h4).1; omega, by omega, by omega, by omega, by omega, fun h4 => ?_, fun h4 => ?_⟩
   ·have := (h.ok.lt g2 (List.mem_append.2 (.inl h4))).2
    omega
   ·have := (h.ok.lt g2 (List.mem_append.2 (.inr (List.mem_append.2 (.inr h4))))).2
    omega
 have hloc := (h.loc.lc hl3 hBa).put 2 (.slice (some ⟨g2, 0, none⟩) (n + 1) cap2)
 have ho : ownB (.slice (some ⟨g2, 0, none⟩) (n + 1) cap2) = [g2] := rfl
 refine ⟨⟨by simpa using hloc, ⟨row_same h.ok.labels (fun g e => by
   have h2 := mem_ownB.2 e
   rw [Below.heap_setCell _ _ _ _ (by exact (h.foot g (List.mem_append.2 (.inl h2))).2.2.2.1)]
   exact hl3.block g (row_lt h.ok.labels e).2 (fun h3 => hdisL g h3 h2)),
  row_same (by
   have e1 : (x.b.attrs ++ [t]).flatMap AtS.cells = x.b.attrs.flatMap AtS.cells ++ AtS.cells t := by simp
   show World.ownsRow _ lo 43 3 _ (x.b.attrs ++ [t]).length _
   rw [e1, show (x.b.attrs ++ [t]).length = n + 1 by simp [hn]]
   exact hown) (fun g e => by
   obtain rfl : g2 = g := Option.some.inj e
   exact Below.heap_setCell _ _ _ _ (by exact hg2.2.2.2.1)),
  row_same h.ok.blocks (fun g e => by
   have h2 := mem_ownB.2 e
   rw [Below.heap_setCell _ _ _ _ (by exact (h.foot g (List.mem_append.2 (.inr (List.mem_append.2 (.inr h2))))).2.2.2.1)]
   exact hl3.block g (row_lt h.ok.blocks e).2 (fun h3 => hdisB g h3 h2))⟩, fun g hgm => (List.mem_append.1 hgm).elim (fun h1 => h.foot g (List.mem_append.2 (.inl h1))) (fun h1 => (List.mem_append.1 h1).elim (fun h1 => (by
   obtain rfl : g2 = g := Option.some.inj (mem_ownB.1 h1)
   exact ⟨hg2.1, hg2.2.1, hg2.2.2.1, hg2.2.2.2.1, hg2.2.2.2.2.1⟩)) (fun h1 => h.foot g (List.mem_append.2 (.inr (List.mem_append.2 (.inr h1)))))), ?_⟩, (hl3.mono (fun k hk => List.mem_cons_of_mem _ hk)).trans (Lc.set _ _ _ _ List.mem_cons_self)⟩
 ·show (ownB x.lv ++ (ownB (.slice (some ⟨g2, 0, none⟩) (n + 1) cap2) ++ ownB x.bv)).Nodup
  rw [ho, List.nodup_append]
  refine ⟨hnd.1, by simp only [List.cons_append, List.nil_append, List.nodup_cons]; exact ⟨hg2.2.2.2.2.2.2, hnd2.2.1⟩, fun a ha b hb e => ?_⟩
  subst e
  rcases List.mem_append.1 hb with h1 | h1
  ·rw [List.mem_singleton] at h1; subst h1; exact hg2.2.2.2.2.2.1 ha
  ·exact hnd.2.2 a ha a (List.mem_append.2 (.inr h1)) rfl
theorem UnB.pushB (h : UnB w P F T lo N m1 B x) (hp : PsAt w P F T lo dp s m1) (hN : N ≤ w.heap.size) {o : Obj} {w3 : World} {g2 cap2 n : Nat} {t : Nat} (hn : x.b.blocks.length = n)
  (hown : w3.ownsRow lo 3 1 (.slice (some ⟨g2, 0, none⟩) (n + 1) cap2) (n + 1) ((intsV x.b.blocks) ++ [.int .i64 (t : Int)])) (hg : (w.alloc o).grownBy w3 x.bv.ownBlock) (hat : x.bv.ownBlock = some g2 ∨ g2 = (w.alloc o).heap.size) :
  UnB (w3.setCell ⟨B, 3, none⟩ (.slice (some ⟨g2, 0, none⟩) (n + 1) cap2)) P F T lo N m1 B ⟨{ x.b with blocks := x.b.blocks ++ [t] }, x.lv, x.av, (.slice (some ⟨g2, 0, none⟩) (n + 1) cap2)⟩ ∧ Lc w (w3.setCell ⟨B, 3, none⟩ (.slice (some ⟨g2, 0, none⟩) (n + 1) cap2)) (B :: ownB x.bv) := by
 have hsz : (w.alloc o).heap.size = w.heap.size + 1 := by simp
 have hl3 : Lc w w3 (ownB x.bv) := grown_lc hg (fun g e => mem_ownB.2 e)
 have hBa : B ∉ ownB x.bv := fun e => (h.foot B (List.mem_append.2 (.inr (List.mem_append.2 (.inr e))))).2.2.2.1 rfl
 have hnd := List.nodup_append.1 (show (ownB x.lv ++ (ownB x.av ++ ownB x.bv)).Nodup from h.nodup)
 have hnd2 := List.nodup_append.1 hnd.2.1
 have hdisL : ∀ g, g ∈ ownB x.bv → g ∈ ownB x.lv → False := fun g b a => hnd.2.2 g a g (List.mem_append.2 (.inr b)) rfl
 have hdisA : ∀ g, g ∈ ownB x.bv → g ∈ ownB x.av → False := fun g b a => hnd2.2.2 g a g b rfl
 have hg2 : g2 ∉ m1.foot F ∧ g2 ≠ P ∧ g2 ≠ T ∧ g2 ≠ B ∧ N ≤ g2 ∧ g2 ∉ ownB x.lv ∧ g2 ∉ ownB x.av := by
  rcases hat with h1 | h1
  ·have h2 := mem_ownB.2 h1
   have h3 := h.foot g2 (List.mem_append.2 (.inr (List.mem_append.2 (.inr h2))))
   exact ⟨h3.1, h3.2.1, h3.2.2.1, h3.2.2.2.1, h3.2.2.2.2, hdisL g2 h2, hdisA g2 h2⟩
  ·have hrk := hp.tok.ranks
   have hE := h.loc.blk.lt
   refine ⟨fun h4 => by have := (hp.file.lt _ h4).1; omega, by omega, by omega, by omega, by omega, fun h4 => ?_, fun h4 => ?_⟩
   ·have := (h.ok.lt g2 (List.mem_append.2 (.inl h4))).2
    omega
   ·have := (h.ok.lt g2 (List.mem_append.2 (.inr (List.mem_append.2 (.inl h4))))).2
    omega
 have hloc := (h.loc.lc hl3 hBa).put 3 (.slice (some ⟨g2, 0, none⟩) (n + 1) cap2)
 have ho : ownB (.slice (some ⟨g2, 0, none⟩) (n + 1) cap2) = [g2] := rfl
 refine ⟨⟨by simpa using hloc, ⟨row_same h.ok.labels (fun g e => by
   have h2 := mem_ownB.2 e
   rw [Below.heap_setCell _ _ _ _ (by exact (h.foot g (List.mem_append.2 (.inl h2))).2.2.2.1)]
   exact hl3.block g (row_lt h.ok.labels e).2 (fun h3 => hdisL g h3 h2)),
  row_same h.ok.attrs (fun g e => by
   have h2 := mem_ownB.2 e
   rw [Below.heap_setCell _ _ _ _ (by exact (h.foot g (List.mem_append.2 (.inr (List.mem_append.2 (.inl h2))))).2.2.2.1)]
   exact hl3.block g (row_lt h.ok.attrs e).2 (fun h3 => hdisA g h3 h2)),
  row_same (by
   have e1 : intsV (x.b.blocks ++ [t]) = intsV x.b.blocks ++ [.int .i64 (t : Int)] := by simp [intsV]
   show World.ownsRow _ lo 3 1 _ (x.b.blocks ++ [t]).length _
   rw [e1, show (x.b.blocks ++ [t]).length = n + 1 by simp [hn]]
   exact hown) (fun g e => by
   obtain rfl : g2 = g := Option.some.inj e
   exact Below.heap_setCell _ _ _ _ (by exact hg2.2.2.2.1))⟩, fun g hgm => (List.mem_append.1 hgm).elim (fun h1 => h.foot g (List.mem_append.2 (.inl h1))) (fun h1 => (List.mem_append.1 h1).elim (fun h1 => h.foot g (List.mem_append.2 (.inr (List.mem_append.2 (.inl h1))))) (fun h1 => (by
   obtain rfl : g2 = g := Option.some.inj (mem_ownB.1 h1)
   exact ⟨hg2.1, hg2.2.1, hg2.2.2.1, hg2.2.2.2.1, hg2.2.2.2.2.1⟩))), ?_⟩, (hl3.mono (fun k hk => List.mem_cons_of_mem _ hk)).trans (Lc.set _ _ _ _ List.mem_cons_self)⟩
 ·show (ownB x.lv ++ (ownB x.av ++ ownB (.slice (some ⟨g2, 0, none⟩) (n + 1) cap2))).Nodup
  rw [ho, List.nodup_append]
  refine ⟨hnd.1, ?_, fun a ha b hb e => ?_⟩
  ·rw [List.nodup_append]
   exact ⟨hnd2.1, by simp, fun a ha b hb e => by rw [List.mem_singleton] at hb; subst hb; subst e; exact hg2.2.2.2.2.2.2 ha⟩
  ·subst e
   rcases List.mem_append.1 hb with h1 | h1
   ·exact hnd.2.2 a ha a (List.mem_append.2 (.inl h1)) rfl
   ·rw [List.mem_singleton] at h1; subst h1; exact hg2.2.2.2.2.2.1 ha
end
/-- A walk with a block under way. -/
structure UnT (W w : World) (P F T lo dp d : Nat) (m : FileM) (X : List Nat) (s : Ps) (m1 : FileM) (N B : Nat) (x : BlM) : Prop where
 un : Un W w P F T lo dp d m X s m1
 ub : UnB w P F T lo N m1 B x
 mine : ∀ k, k = B ∨ k ∈ x.foot → 4 ≤ k ∧ (k ∈ X ∨ W.heap.size ≤ k)
 le : N ≤ W.heap.size
section
variable {W w w' : World} {P F T lo dp d N B : Nat} {m m1 m2 : FileM} {X : List Nat} {s s2 : Ps} {x : BlM}
theorem UnT.step (h : UnT W w P F T lo dp d m X s m1 N B x) (k : Stepped W w w' P F T lo dp d m X m1 s2 m2) : UnT W w' P F T lo dp d m X s2 m2 N B x := ⟨k.un, h.ub.step k.outs k.later, h.mine, h.le⟩
theorem UnT.free (h : UnT W w P F T lo dp d m X s m1 N B x) {k : Nat} (hk : k = B ∨ k ∈ x.foot) : Free W P F T X m1 k := by
 rcases hk with rfl | hk
 ·exact ⟨h.ub.loc.neP, h.ub.loc.neT, h.ub.loc.out, h.mine _ (.inl rfl)⟩
 ·have h1 := h.ub.foot k hk
  exact ⟨h1.2.1, h1.2.2.1, h1.1, h.mine _ (.inr hk)⟩
theorem UnT.alloc (h : UnT W w P F T lo dp d m X s m1 N B x) (o : Obj) : UnT W (w.alloc o) P F T lo dp d m X s m1 N B x := ⟨h.un.alloc o, h.ub.lc (Lc.alloc w o []) (by simp) (by simp), h.mine, h.le⟩
theorem UnT.below (h : UnT W w P F T lo dp d m X s m1 N B x) (hb : Below w.heap.size w w') : UnT W w' P F T lo dp d m X s m1 N B x := ⟨h.un.below hb, h.ub.lc (Lc.of hb []) (by simp) (by simp), h.mine, h.le⟩
theorem UnT.pushL (h : UnT W w P F T lo dp d m X s m1 N B x) {o : Obj} {w3 : World} {g2 cap2 n : Nat} {t : ByteArray} (hn : x.b.labels.length = n)
  (hown : w3.ownsRow lo 9 1 (.slice (some ⟨g2, 0, none⟩) (n + 1) cap2) (n + 1) ((x.b.labels.map Value.string) ++ [.string t])) (hg : (w.alloc o).grownBy w3 x.lv.ownBlock) (hat : x.lv.ownBlock = some g2 ∨ g2 = (w.alloc o).heap.size) :
  UnT W (w3.setCell ⟨B, 1, none⟩ (.slice (some ⟨g2, 0, none⟩) (n + 1) cap2)) P F T lo dp d m X s m1 N B ⟨{ x.b with labels := x.b.labels ++ [t] }, (.slice (some ⟨g2, 0, none⟩) (n + 1) cap2), x.av, x.bv⟩ ∧ Lc w (w3.setCell ⟨B, 1, none⟩ (.slice (some ⟨g2, 0, none⟩) (n + 1) cap2)) (B :: ownB x.lv) := by
 have hp := h.ub.pushL h.un.ps (Nat.le_trans h.le h.un.outs.size) hn hown hg hat
 have hs := h.un.outs.size
 refine ⟨⟨h.un.lc hp.2 (fun k hk => ?_), hp.1, fun k hk => ?_, h.le⟩, hp.2⟩
 ·rcases List.mem_cons.1 hk with rfl | hk
  ·exact h.free (.inl rfl)
  ·exact h.free (.inr (List.mem_append.2 (.inl hk)))
 ·rcases hk with rfl | hk
  ·exact h.mine _ (.inl rfl)
  ·exact (List.mem_append.1 hk).elim (fun h1 => (by
   obtain rfl : g2 = k := Option.some.inj (mem_ownB.1 h1)
   rcases hat with h2 | h2
   ·exact h.mine _ (.inr (List.mem_append.2 (.inl (mem_ownB.2 h2))))
   ·have h4 := h.un.env.ready.1
    simp at h2
    exact ⟨by omega, .inr (by omega)⟩)) (fun h1 => (List.mem_append.1 h1).elim (fun h1 => h.mine _ (.inr (List.mem_append.2 (.inr (List.mem_append.2 (.inl h1)))))) (fun h1 => h.mine _ (.inr (List.mem_append.2 (.inr (List.mem_append.2 (.inr h1)))))))
theorem UnT.pushA (h : UnT W w P F T lo dp d m X s m1 N B x) {o : Obj} {w3 : World} {g2 cap2 n : Nat} {t : AtS} (hn : x.b.attrs.length = n)
  (hown : w3.ownsRow lo 43 3 (.slice (some ⟨g2, 0, none⟩) (n + 1) cap2) (n + 1) ((x.b.attrs.flatMap AtS.cells) ++ (AtS.cells t))) (hg : (w.alloc o).grownBy w3 x.av.ownBlock) (hat : x.av.ownBlock = some g2 ∨ g2 = (w.alloc o).heap.size) :
  UnT W (w3.setCell ⟨B, 2, none⟩ (.slice (some ⟨g2, 0, none⟩) (n + 1) cap2)) P F T lo dp d m X s m1 N B ⟨{ x.b with attrs := x.b.attrs ++ [t] }, x.lv, (.slice (some ⟨g2, 0, none⟩) (n + 1) cap2), x.bv⟩ ∧ Lc w (w3.setCell ⟨B, 2, none⟩ (.slice (some ⟨g2, 0, none⟩) (n + 1) cap2)) (B :: ownB x.av) := by
 have hp := h.ub.pushA h.un.ps (Nat.le_trans h.le h.un.outs.size) hn hown hg hat
 have hs := h.un.outs.size
 refine ⟨⟨h.un.lc hp.2 (fun k hk => ?_), hp.1, fun k hk => ?_, h.le⟩, hp.2⟩
 ·rcases List.mem_cons.1 hk with rfl | hk
  ·exact h.free (.inl rfl)
  ·exact h.free (.inr (List.mem_append.2 (.inr (List.mem_append.2 (.inl hk)))))
 ·rcases hk with rfl | hk
  ·exact h.mine _ (.inl rfl)
  ·exact (List.mem_append.1 hk).elim (fun h1 => h.mine _ (.inr (List.mem_append.2 (.inl h1)))) (fun h1 => (List.mem_append.1 h1).elim (fun h1 => (by
   obtain rfl : g2 = k := Option.some.inj (mem_ownB.1 h1)
   rcases hat with h2 | h2
   ·exact h.mine _ (.inr (List.mem_append.2 (.inr (List.mem_append.2 (.inl (mem_ownB.2 h2))))))
   ·have h4 := h.un.env.ready.1
    simp at h2
    exact ⟨by omega, .inr (by omega)⟩)) (fun h1 => h.mine _ (.inr (List.mem_append.2 (.inr (List.mem_append.2 (.inr h1)))))))
theorem UnT.pushB (h : UnT W w P F T lo dp d m X s m1 N B x) {o : Obj} {w3 : World} {g2 cap2 n : Nat} {t : Nat} (hn : x.b.blocks.length = n)
  (hown : w3.ownsRow lo 3 1 (.slice (some ⟨g2, 0, none⟩) (n + 1) cap2) (n + 1) ((intsV x.b.blocks) ++ [.int .i64 (t : Int)])) (hg : (w.alloc o).grownBy w3 x.bv.ownBlock) (hat : x.bv.ownBlock = some g2 ∨ g2 = (w.alloc o).heap.size) :
  UnT W (w3.setCell ⟨B, 3, none⟩ (.slice (some ⟨g2, 0, none⟩) (n + 1) cap2)) P F T lo dp d m X s m1 N B ⟨{ x.b with blocks := x.b.blocks ++ [t] }, x.lv, x.av, (.slice (some ⟨g2, 0, none⟩) (n + 1) cap2)⟩ ∧ Lc w (w3.setCell ⟨B, 3, none⟩ (.slice (some ⟨g2, 0, none⟩) (n + 1) cap2)) (B :: ownB x.bv) := by
 have hp := h.ub.pushB h.un.ps (Nat.le_trans h.le h.un.outs.size) hn hown hg hat
 have hs := h.un.outs.size
 refine ⟨⟨h.un.lc hp.2 (fun k hk => ?_), hp.1, fun k hk => ?_, h.le⟩, hp.2⟩
 ·rcases List.mem_cons.1 hk with rfl | hk
  ·exact h.free (.inl rfl)
  ·exact h.free (.inr (List.mem_append.2 (.inr (List.mem_append.2 (.inr hk)))))
 ·rcases hk with rfl | hk
  ·exact h.mine _ (.inl rfl)
  ·exact (List.mem_append.1 hk).elim (fun h1 => h.mine _ (.inr (List.mem_append.2 (.inl h1)))) (fun h1 => (List.mem_append.1 h1).elim (fun h1 => h.mine _ (.inr (List.mem_append.2 (.inr (List.mem_append.2 (.inl h1)))))) (fun h1 => (by
   obtain rfl : g2 = k := Option.some.inj (mem_ownB.1 h1)
   rcases hat with h2 | h2
   ·exact h.mine _ (.inr (List.mem_append.2 (.inr (List.mem_append.2 (.inr (mem_ownB.2 h2))))))
   ·have h4 := h.un.env.ready.1
    simp at h2
    exact ⟨by omega, .inr (by omega)⟩)))
theorem UnT.enter {d' dp' : Nat} {s' : Ps} (hu : UnB w P F T lo N m B x) (ha : Aside P w w') (hp : PsAt w' P F T lo dp' s' m) (he : Env w P F) (hf : Fit d' s') (hB4 : 4 ≤ B) (hN4 : 4 ≤ N) (hN : N ≤ w.heap.size) : UnT w' w' P F T lo dp' d' m (B :: x.foot) s' m N B x :=
 ⟨Un.start hp (he.aside ha) hf, hu.aside ha, fun k hk => by
  rcases hk with rfl | hk
  ·exact ⟨hB4, .inl List.mem_cons_self⟩
  ·exact ⟨Nat.le_trans hN4 (hu.foot k hk).2.2.2.2, .inl (List.mem_cons_of_mem _ hk)⟩, Nat.le_trans hN ha.size⟩
end
end Go.Proofs.YtljgggohjigaoaaGreatDoor
