/- . -/
import Derived.OwnWalk
import Derived.Deep.AppendLies
import Derived.Test.YtljgggohjigaoaaGreatDoorSk33
import Derived.Test.YtljgggohjigaoaaGreatDoorSk34
import Derived.Test.YtljgggohjigaoaaGreatDoorSk42
namespace Go.Proofs.YtljgggohjigaoaaGreatDoor
open Go.RowKit Go.Shelf
set_option linter.unusedVariables false

section
variable {w0 w w' : World} {F lo N1 Bz Bh L : Nat} {m0 : FileM} {f : Fi} {hE hB hT : Value} {nE nB nT : Nat} {cE cB cT : List Value}
theorem app_keep {w3 : World} {o : Obj} {v : Value} {B e size n : Nat} {xs : List Value} (ho : w.ownsRow B e size v n xs) (hg : (w.alloc o).grownBy w3 v.ownBlock) {Bh c : Nat} (u : Value) : ∀ k, k < w.heap.size → some k ≠ v.ownBlock → k ≠ Bh → (w3.setCell ⟨Bh, c, none⟩ u).heap[k]? = w.heap[k]? := fun k hk h1 h2 => by
 rw [Below.heap_setCell _ _ _ _ (by exact h2)]
 exact (hg.block k (by simp; omega) h1).trans ((below_new w o).block k hk)
theorem own_ne {B e size n q : Nat} {v : Value} {xs : List Value} (ho : w.ownsRow B e size v n xs) (hq : q < B) : some q ≠ v.ownBlock := fun e1 => by have := (row_lt ho e1.symm).1; omega
theorem nod_of3 {a b c : List Nat} (h : (a ++ (b ++ c)).Nodup) : (∀ g, g ∈ a → g ∉ b ∧ g ∉ c) ∧ (∀ g, g ∈ b → g ∉ c) := by
 obtain ⟨h1, h2, h3⟩ := List.nodup_append.1 h
 obtain ⟨h4, h5, h6⟩ := List.nodup_append.1 h2
 exact ⟨fun g hg => ⟨fun e => h3 g hg g (List.mem_append.2 (.inl e)) rfl, fun e => h3 g hg g (List.mem_append.2 (.inr e)) rfl⟩, fun g hg e => h6 g hg g e rfl⟩
theorem nod_mk3 {a b c : List Nat} (ha : a.Nodup) (hb : b.Nodup) (hc : c.Nodup) (h1 : ∀ g, g ∈ a → g ∉ b ∧ g ∉ c) (h2 : ∀ g, g ∈ b → g ∉ c) : (a ++ (b ++ c)).Nodup := by
 refine List.nodup_append.2 ⟨ha, List.nodup_append.2 ⟨hb, hc, fun x hx y hy e => ?_⟩, fun x hx y hy e => ?_⟩
 ·subst e; exact h2 x hx hy
 ·subst e
  rcases List.mem_append.1 hy with hy | hy
  ·exact (h1 x hx).1 hy
  ·exact (h1 x hx).2 hy
theorem below_app {w3 : World} {o : Obj} {row : Option Nat} (h : Below w0.heap.size w0 w) (hg : (w.alloc o).grownBy w3 row) (hr : ∀ q, row = some q → w0.heap.size ≤ q) {Bh c : Nat} (hB : w0.heap.size ≤ Bh) (u : Value) : Below w0.heap.size w0 (w3.setCell ⟨Bh, c, none⟩ u) := by
 refine Below.setCell ?_ (by exact hB) _
 refine h.trans ⟨hg.os, hg.tape, hg.output, by have := hg.size; simp at this; omega, fun k hk => ?_⟩
 have h1 := h.size
 exact (hg.block k (by simp; omega) (fun e => by have := hr k e.symm; omega)).trans ((below_new w o).block k (by omega))
theorem Jst.appE (h : Jst w0 w F lo N1 Bz Bh L m0 f hE hB hT nE nB nT cE cB cT) {w3 : World} {o : Obj} {g2 cap2 : Nat} {news : List Value}
  (hown : w3.ownsRow L 38 5 (.slice (some ⟨g2, 0, none⟩) (nE + 1) cap2) (nE + 1) (cE ++ news)) (hg : (w.alloc o).grownBy w3 hE.ownBlock) (hat : hE.ownBlock = some g2 ∨ g2 = (w.alloc o).heap.size) :
  Jst w0 (w3.setCell ⟨Bh, 0, none⟩ (.slice (some ⟨g2, 0, none⟩) (nE + 1) cap2)) F lo N1 Bz Bh L m0 f (.slice (some ⟨g2, 0, none⟩) (nE + 1) cap2) hB hT (nE + 1) nB nT (cE ++ news) cB cT ∧ w3.frozen? ⟨Bh, 0, none⟩ = false := by
 have q0 := h.p0
 have q1 := h.p1
 have q2 := h.p2
 have q3 := h.p3
 have q4 := h.p4
 have hsz : (w.alloc o).heap.size = w.heap.size + 1 := by simp
 have hk := app_keep (Bh := Bh) (c := 0) h.oE hg (.slice (some ⟨g2, 0, none⟩) (nE + 1) cap2)
 obtain ⟨n1, n2⟩ := nod_of3 h.nod
 have hg2 : L ≤ g2 := (row_lt hown rfl).1
 have bB : ∀ g, g ∈ ownB hB → g ≠ g2 := fun g hgB e => by
  subst e
  rcases hat with h1 | h1
  ·exact (n1 g (mem_ownB.2 h1)).1 hgB
  ·have := (row_lt h.oB (mem_ownB.1 hgB)).2; omega
 have bT : ∀ g, g ∈ ownB hT → g ≠ g2 := fun g hgB e => by
  subst e
  rcases hat with h1 | h1
  ·exact (n1 g (mem_ownB.2 h1)).2 hgB
  ·have := (row_lt h.oT (mem_ownB.1 hgB)).2; omega
 have hbh : Blk w3 Bh #[hE, hB, hT] 28 := (hg.block Bh (by omega) (own_ne h.oE q3)).trans (h.bh.alloc o)
 refine ⟨⟨below_app h.below hg (fun q e => by have := (row_lt h.oE e).1; omega) (by omega) _, ?_, ?_, ?_, ?_, ?_, ?_, ?_, q0, q1, q2, q3, ?_⟩, hbh.frozen 0⟩
 ·exact h.file.same fun k _ h2 => hk k (by omega) (own_ne h.oE (by omega)) (by omega)
 ·exact (hk Bz (by omega) (own_ne h.oE (by omega)) (by omega)).trans h.bz
 ·have := hbh.set 0 (.slice (some ⟨g2, 0, none⟩) (nE + 1) cap2)
  simpa using this
 ·exact row_off hown (fun e => by have : g2 = Bh := Option.some.inj e; omega) _
 ·exact row_same h.oB fun g e => hk g (row_lt h.oB e).2 (fun e2 => (n1 g (mem_ownB.2 e2.symm)).1 (mem_ownB.2 e)) (by have := (row_lt h.oB e).1; omega)
 ·exact row_same h.oT fun g e => hk g (row_lt h.oT e).2 (fun e2 => (n1 g (mem_ownB.2 e2.symm)).2 (mem_ownB.2 e)) (by have := (row_lt h.oT e).1; omega)
 ·refine nod_mk3 (ownB_nodup _) (ownB_nodup _) (ownB_nodup _) (fun g hgm => ?_) n2
  obtain rfl : g2 = g := Option.some.inj (mem_ownB.1 hgm)
  exact ⟨fun e => bB _ e rfl, fun e => bT _ e rfl⟩
 ·have := hg.size
  show L ≤ (w3.setCell _ _).heap.size
  simp; omega
theorem Jst.appB (h : Jst w0 w F lo N1 Bz Bh L m0 f hE hB hT nE nB nT cE cB cT) {w3 : World} {o : Obj} {g2 cap2 : Nat} {news : List Value}
  (hown : w3.ownsRow L 41 5 (.slice (some ⟨g2, 0, none⟩) (nB + 1) cap2) (nB + 1) (cB ++ news)) (hg : (w.alloc o).grownBy w3 hB.ownBlock) (hat : hB.ownBlock = some g2 ∨ g2 = (w.alloc o).heap.size) :
  Jst w0 (w3.setCell ⟨Bh, 1, none⟩ (.slice (some ⟨g2, 0, none⟩) (nB + 1) cap2)) F lo N1 Bz Bh L m0 f hE (.slice (some ⟨g2, 0, none⟩) (nB + 1) cap2) hT nE (nB + 1) nT cE (cB ++ news) cT ∧ w3.frozen? ⟨Bh, 1, none⟩ = false := by
 have q0 := h.p0
 have q1 := h.p1
 have q2 := h.p2
 have q3 := h.p3
 have q4 := h.p4
 have hsz : (w.alloc o).heap.size = w.heap.size + 1 := by simp
 have hk := app_keep (Bh := Bh) (c := 1) h.oB hg (.slice (some ⟨g2, 0, none⟩) (nB + 1) cap2)
 obtain ⟨n1, n2⟩ := nod_of3 h.nod
 have hg2 : L ≤ g2 := (row_lt hown rfl).1
 have bE : ∀ g, g ∈ ownB hE → g ≠ g2 := fun g hgB e => by
  subst e
  rcases hat with h1 | h1
  ·exact (n1 g hgB).1 (mem_ownB.2 h1)
  ·have := (row_lt h.oE (mem_ownB.1 hgB)).2; omega
 have bT : ∀ g, g ∈ ownB hT → g ≠ g2 := fun g hgB e => by
  subst e
  rcases hat with h1 | h1
  ·exact n2 g (mem_ownB.2 h1) hgB
  ·have := (row_lt h.oT (mem_ownB.1 hgB)).2; omega
 have hbh : Blk w3 Bh #[hE, hB, hT] 28 := (hg.block Bh (by omega) (own_ne h.oB q3)).trans (h.bh.alloc o)
 refine ⟨⟨below_app h.below hg (fun q e => by have := (row_lt h.oB e).1; omega) (by omega) _, ?_, ?_, ?_, ?_, ?_, ?_, ?_, q0, q1, q2, q3, ?_⟩, hbh.frozen 1⟩
 ·exact h.file.same fun k _ h2 => hk k (by omega) (own_ne h.oB (by omega)) (by omega)
 ·exact (hk Bz (by omega) (own_ne h.oB (by omega)) (by omega)).trans h.bz
 ·have := hbh.set 1 (.slice (some ⟨g2, 0, none⟩) (nB + 1) cap2)
  simpa using this
 ·exact row_same h.oE fun g e => hk g (row_lt h.oE e).2 (fun e2 => (n1 g (mem_ownB.2 e)).1 (mem_ownB.2 e2.symm)) (by have := (row_lt h.oE e).1; omega)
 ·exact row_off hown (fun e => by have : g2 = Bh := Option.some.inj e; omega) _
 ·exact row_same h.oT fun g e => hk g (row_lt h.oT e).2 (fun e2 => n2 g (mem_ownB.2 e2.symm) (mem_ownB.2 e)) (by have := (row_lt h.oT e).1; omega)
 ·refine nod_mk3 (ownB_nodup _) (ownB_nodup _) (ownB_nodup _) (fun g hgm => ⟨fun e => ?_, (n1 g hgm).2⟩) (fun g hgm => ?_)
  ·obtain rfl : g2 = g := Option.some.inj (mem_ownB.1 e)
   exact bE _ hgm rfl
  ·obtain rfl : g2 = g := Option.some.inj (mem_ownB.1 hgm)
   exact fun e => bT _ e rfl
 ·have := hg.size
  show L ≤ (w3.setCell _ _).heap.size
  simp; omega
theorem Jst.appT (h : Jst w0 w F lo N1 Bz Bh L m0 f hE hB hT nE nB nT cE cB cT) {w3 : World} {o : Obj} {g2 cap2 : Nat} {news : List Value}
  (hown : w3.ownsRow L 3 1 (.slice (some ⟨g2, 0, none⟩) (nT + 1) cap2) (nT + 1) (cT ++ news)) (hg : (w.alloc o).grownBy w3 hT.ownBlock) (hat : hT.ownBlock = some g2 ∨ g2 = (w.alloc o).heap.size) :
  Jst w0 (w3.setCell ⟨Bh, 2, none⟩ (.slice (some ⟨g2, 0, none⟩) (nT + 1) cap2)) F lo N1 Bz Bh L m0 f hE hB (.slice (some ⟨g2, 0, none⟩) (nT + 1) cap2) nE nB (nT + 1) cE cB (cT ++ news) ∧ w3.frozen? ⟨Bh, 2, none⟩ = false := by
 have q0 := h.p0
 have q1 := h.p1
 have q2 := h.p2
 have q3 := h.p3
 have q4 := h.p4
 have hsz : (w.alloc o).heap.size = w.heap.size + 1 := by simp
 have hk := app_keep (Bh := Bh) (c := 2) h.oT hg (.slice (some ⟨g2, 0, none⟩) (nT + 1) cap2)
 obtain ⟨n1, n2⟩ := nod_of3 h.nod
 have hg2 : L ≤ g2 := (row_lt hown rfl).1
 have bE : ∀ g, g ∈ ownB hE → g ≠ g2 := fun g hgB e => by
  subst e
  rcases hat with h1 | h1
  ·exact (n1 g hgB).2 (mem_ownB.2 h1)
  ·have := (row_lt h.oE (mem_ownB.1 hgB)).2; omega
 have bB : ∀ g, g ∈ ownB hB → g ≠ g2 := fun g hgB e => by
  subst e
  rcases hat with h1 | h1
  ·exact n2 g hgB (mem_ownB.2 h1)
  ·have := (row_lt h.oB (mem_ownB.1 hgB)).2; omega
 have hbh : Blk w3 Bh #[hE, hB, hT] 28 := (hg.block Bh (by omega) (own_ne h.oT q3)).trans (h.bh.alloc o)
 refine ⟨⟨below_app h.below hg (fun q e => by have := (row_lt h.oT e).1; omega) (by omega) _, ?_, ?_, ?_, ?_, ?_, ?_, ?_, q0, q1, q2, q3, ?_⟩, hbh.frozen 2⟩
 ·exact h.file.same fun k _ h2 => hk k (by omega) (own_ne h.oT (by omega)) (by omega)
 ·exact (hk Bz (by omega) (own_ne h.oT (by omega)) (by omega)).trans h.bz
 ·have := hbh.set 2 (.slice (some ⟨g2, 0, none⟩) (nT + 1) cap2)
  simpa using this
 ·exact row_same h.oE fun g e => hk g (row_lt h.oE e).2 (fun e2 => (n1 g (mem_ownB.2 e)).2 (mem_ownB.2 e2.symm)) (by have := (row_lt h.oE e).1; omega)
 ·exact row_same h.oB fun g e => hk g (row_lt h.oB e).2 (fun e2 => n2 g (mem_ownB.2 e) (mem_ownB.2 e2.symm)) (by have := (row_lt h.oB e).1; omega)
 ·exact row_off hown (fun e => by have : g2 = Bh := Option.some.inj e; omega) _
 ·refine nod_mk3 (ownB_nodup _) (ownB_nodup _) (ownB_nodup _) (fun g hgm => ⟨(n1 g hgm).1, fun e => ?_⟩) (fun g hgm e => ?_)
  ·obtain rfl : g2 = g := Option.some.inj (mem_ownB.1 e)
   exact bE _ hgm rfl
  ·obtain rfl : g2 = g := Option.some.inj (mem_ownB.1 e)
   exact bB _ hgm rfl
 ·have := hg.size
  show L ≤ (w3.setCell _ _).heap.size
  simp; omega
theorem len_map {α β : Type} {g : α → β} {l l' : List α} (h : l.map g = l'.map g) : l.length = l'.length := by
 have := congrArg List.length h
 simpa using this
theorem Jst.behind (h : Jst w0 w F lo N1 Bz Bh L m0 f hE hB hT nE nB nT cE cB cT) {n m : Nat} {tl : List Nat} (hcE : cE = (m0.ms.drop n).flatMap ExM.cells) (hcB : cB = (m0.ns.drop m).flatMap BlM.cells) (hcT : cT = intsV tl)
  (hnE : nE = (f.exprs.drop n).length) (hnB : nB = (f.blocks.drop m).length) (hnT : nT = tl.length) : FileRd w hE hB hT ⟨f.exprs.drop n, f.blocks.drop m, tl⟩ := by
 obtain ⟨mm, h1, h2, h3, h4, h5, h6, h7⟩ := h.file
 refine ⟨?_, ?_, ?_, ?_, ?_⟩
 ·have := slice_of h.oE
  rw [hnE] at this
  exact this
 ·have := slice_of h.oB
  rw [hnB] at this
  exact this
 ·have := row_read h.oT
  rw [hnT, hcT] at this
  exact this
 ·rcases (row_read h.oE).2 with h0 | ⟨g, cap, e0, e1, e2, e3⟩
  ·exact .inl (by show (f.exprs.drop n).length = 0; omega)
  ·refine .inr ⟨g, cap, by rw [e0, hnE], by show (f.exprs.drop n).length ≤ cap; omega, fun i e hi => ?_⟩
   have hi' : f.exprs[n + i]? = some e := by rw [← List.getElem?_drop]; exact hi
   obtain ⟨x, hx, rfl⟩ := h1.ms_at hi'
   have hl := (List.getElem?_eq_some_iff.1 hx).1
   obtain ⟨x0, hx0⟩ : ∃ x0, m0.ms[n + i]? = some x0 := ⟨_, List.getElem?_eq_getElem (by rw [← len_map h5]; exact hl)⟩
   have hc := map_at h5 hx hx0
   have hd : (m0.ms.drop n)[i]? = some x0 := by rw [List.getElem?_drop]; exact hx0
   have hcl : ∀ j u, j < 5 → x.cells[j]? = some u → w.cell? ⟨g, i * 5 + j, none⟩ = some u := fun j u hj hu => e3 _ _ (by rw [hcE, flat_at ExM.cells 5 (fun a => rfl) _ i j x0 hd hj, ← hc]; exact hu)
   have ho := h1.eok x (List.mem_of_getElem? hx)
   exact ⟨x.av, x.kv, hcl 0 _ (by omega) rfl, hcl 1 _ (by omega) rfl, hcl 2 _ (by omega) rfl, hcl 3 _ (by omega) rfl, hcl 4 _ (by omega) rfl, row_read ho.args, row_read ho.keys⟩
 ·rcases (row_read h.oB).2 with h0 | ⟨g, cap, e0, e1, e2, e3⟩
  ·exact .inl (by show (f.blocks.drop m).length = 0; omega)
  ·refine .inr ⟨g, cap, by rw [e0, hnB], by show (f.blocks.drop m).length ≤ cap; omega, fun i e hi => ?_⟩
   have hi' : f.blocks[m + i]? = some e := by rw [← List.getElem?_drop]; exact hi
   obtain ⟨x, hx, rfl⟩ := h1.ns_at hi'
   have hl := (List.getElem?_eq_some_iff.1 hx).1
   obtain ⟨x0, hx0⟩ : ∃ x0, m0.ns[m + i]? = some x0 := ⟨_, List.getElem?_eq_getElem (by rw [← len_map h6]; exact hl)⟩
   have hc := map_at h6 hx hx0
   have hd : (m0.ns.drop m)[i]? = some x0 := by rw [List.getElem?_drop]; exact hx0
   have hcl : ∀ j u, j < 5 → x.cells[j]? = some u → w.cell? ⟨g, i * 5 + j, none⟩ = some u := fun j u hj hu => e3 _ _ (by rw [hcB, flat_at BlM.cells 5 (fun a => rfl) _ i j x0 hd hj, ← hc]; exact hu)
   have ho := h1.bok x (List.mem_of_getElem? hx)
   exact ⟨x.lv, x.av, x.bv, hcl 0 _ (by omega) rfl, hcl 1 _ (by omega) rfl, hcl 2 _ (by omega) rfl, hcl 3 _ (by omega) rfl, hcl 4 _ (by omega) rfl, row_read ho.labels, row_read ho.attrs, row_read ho.blocks⟩
theorem Now.front {N0 : Nat} (h : Now w F lo N0 N1 m0 f) {n m t eE eB eT : Nat} {aE aB aT : Option Addr} (hn : n ≤ f.exprs.length) (hm : m ≤ f.blocks.length) (ht : t ≤ f.top.length)
  (hE : m0.ev = .slice aE f.exprs.length eE) (hB : m0.bv = .slice aB f.blocks.length eB) (hT : m0.tv = .slice aT f.top.length eT) : FileRd w (.slice aE n eE) (.slice aB m eB) (.slice aT t eT) ⟨f.exprs.take n, f.blocks.take m, f.top.take t⟩ := by
 obtain ⟨mm, h1, h2, h3, h4, h5, h6, h7⟩ := h
 have le : (f.exprs.take n).length = n := by rw [List.length_take]; omega
 have lb : (f.blocks.take m).length = m := by rw [List.length_take]; omega
 have lt : (f.top.take t).length = t := by rw [List.length_take]; omega
 refine ⟨⟨aE, eE, by rw [le]⟩, ⟨aB, eB, by rw [lb]⟩, ?_, ?_, ?_⟩
 ·show RowR w _ (f.top.take t).length (intsV (f.top.take t))
  rw [lt]
  refine ⟨⟨aT, eT, rfl⟩, ?_⟩
  rcases (row_read h1.top).2 with h0 | ⟨g, cap, e0, e1, e2, e3⟩
  ·exact .inl (by omega)
  ·rw [h4, hT] at e0
   cases e0
   refine .inr ⟨g, _, rfl, by omega, e2, fun j u hu => e3 j u ?_⟩
   unfold intsV at hu ⊢
   rw [List.map_take, List.getElem?_take] at hu
   split at hu
   ·exact hu
   ·cases hu
 ·rcases Nat.eq_zero_or_pos n with h0 | h0
  ·exact .inl (by show (f.exprs.take n).length = 0; omega)
  ·obtain ⟨x, hx⟩ : ∃ x, mm.ms[0]? = some x := ⟨_, List.getElem?_eq_getElem (by have := congrArg List.length h1.es; rw [List.length_map] at this; omega)⟩
   obtain ⟨g, cap, e0, e1, -⟩ := h1.exm hx
   have e0' := e0
   rw [h2, hE] at e0
   cases e0
   refine .inr ⟨g, _, by rw [le], by show (f.exprs.take n).length ≤ _; omega, fun i e hi => h1.ex2 e0' (i := i) ?_⟩
   have : (f.exprs.take n)[i]? = some e := hi
   rw [List.getElem?_take] at this
   split at this
   ·exact this
   ·cases this
 ·rcases Nat.eq_zero_or_pos m with h0 | h0
  ·exact .inl (by show (f.blocks.take m).length = 0; omega)
  ·obtain ⟨x, hx⟩ : ∃ x, mm.ns[0]? = some x := ⟨_, List.getElem?_eq_getElem (by have := congrArg List.length h1.bs; rw [List.length_map] at this; omega)⟩
   obtain ⟨g, cap, e0, e1, -⟩ := h1.blm hx
   rw [h3, hB] at e0
   cases e0
   refine .inr ⟨g, _, by rw [lb], by show (f.blocks.take m).length ≤ _; omega, fun i e hi => ?_⟩
   have hi2 : (f.blocks.take m)[i]? = some e := hi
   rw [List.getElem?_take] at hi2
   split at hi2
   ·obtain ⟨g', cap', lv, av, bv, q1, q2, q3⟩ := h1.bl hi2
    rw [h3, hB] at q1
    cases q1
    exact ⟨lv, av, bv, q3⟩
   ·cases hi2
end
theorem own_form {w : World} {B e size n : Nat} {v : Value} {xs : List Value} (h : w.ownsRow B e size v n xs) : ∃ ad cap, v = .slice ad n cap ∧ n ≤ cap ∧ ((∃ g, ad = some ⟨g, 0, none⟩) ∨ (ad = none ∧ cap = 0)) ∧ cap ≤ 9223372036854775807 := by
 obtain ⟨-, ⟨rfl, rfl⟩ | ⟨g, cap, cur, rfl, -, -, h5, h6, -⟩⟩ := h
 ·exact ⟨none, 0, rfl, Nat.le_refl _, .inr ⟨rfl, rfl⟩, by omega⟩
 ·exact ⟨_, cap, rfl, h5, .inl ⟨g, rfl⟩, by unfold maxLen at h6; omega⟩
section
variable {p : Nat} {f0 fb : Fi}
theorem lsE_len {i k : Nat} : (lsE p f0 fb i k).length = f0.exprs.length + fb.exprs.length := by unfold lsE; simp
theorem lsB_len {i ka kb : Nat} : (lsB p f0 fb i ka kb).length = f0.blocks.length + fb.blocks.length := by unfold lsB; simp
theorem lsE_take {i k : Nat} : (lsE p f0 fb i k).take f0.exprs.length = f0.exprs := by unfold lsE; simp
theorem lsB_take {i ka kb : Nat} : (lsB p f0 fb i ka kb).take f0.blocks.length = f0.blocks := by unfold lsB; simp
theorem like_behind (k ka kb : Nat) : FiLike false ⟨(lsE p f0 fb fb.exprs.length k).drop f0.exprs.length, (lsB p f0 fb fb.blocks.length ka kb).drop f0.blocks.length, fb.top⟩ fb := by
 refine ⟨?_, ?_, rfl, fun i e e' h h' => ?_, fun i b b' h h' => ?_⟩
 ·show (List.drop _ _).length = _
  rw [List.length_drop, lsE_len]; omega
 ·show (List.drop _ _).length = _
  rw [List.length_drop, lsB_len]; omega
 ·have h1 : (lsE p f0 fb fb.exprs.length k)[f0.exprs.length + i]? = some e := by rw [← List.getElem?_drop]; exact h
  rw [lsE_at h'] at h1
  cases h1
  have hi := (List.getElem?_eq_some_iff.1 h').1
  unfold stE
  rw [if_pos hi]
  exact ⟨rfl, rfl, midN_all _, rfl, fun e => by cases e⟩
 ·have h1 : (lsB p f0 fb fb.blocks.length ka kb)[f0.blocks.length + i]? = some b := by rw [← List.getElem?_drop]; exact h
  rw [lsB_at h'] at h1
  cases h1
  have hi := (List.getElem?_eq_some_iff.1 h').1
  unfold stB
  rw [if_pos hi]
  refine ⟨rfl, rfl, midN_all _, midA_len _, fun j a a' ha ha' => ?_, fun e => by cases e⟩
  have hj := (List.getElem?_eq_some_iff.1 ha').1
  have ha1 : (midA p f0.exprs.length b'.attrs.length b'.attrs)[j]? = some a := ha
  unfold midA at ha1
  rw [List.getElem?_mapIdx, ha'] at ha1
  simp only [Option.map_some, Option.some.injEq] at ha1
  subst ha1
  exact ⟨rfl, by simp [hj], fun e => by cases e⟩
theorem like_self (wh : Bool) (f : Fi) : FiLike wh f f := by
 refine ⟨rfl, rfl, rfl, fun i e e' h h' => ?_, fun i b b' h h' => ?_⟩
 ·rw [h] at h'; cases h'
  exact ⟨rfl, rfl, rfl, rfl, fun _ => rfl⟩
 ·rw [h] at h'; cases h'
  refine ⟨rfl, rfl, rfl, rfl, fun j a a' ha ha' => ?_, fun _ => rfl⟩
  rw [ha] at ha'; cases ha'
  exact ⟨rfl, rfl, fun _ => rfl⟩
theorem small_behind (h : Small fb) (k ka kb : Nat) : Small ⟨(lsE p f0 fb fb.exprs.length k).drop f0.exprs.length, (lsB p f0 fb fb.blocks.length ka kb).drop f0.blocks.length, fb.top⟩ := by
 refine ⟨?_, ?_, h.top, fun e he => ?_, fun b hb => ?_⟩
 ·show (List.drop _ _).length ≤ _
  rw [List.length_drop, lsE_len]; have := h.nE; omega
 ·show (List.drop _ _).length ≤ _
  rw [List.length_drop, lsB_len]; have := h.nB; omega
 ·obtain ⟨i, hi⟩ := List.getElem?_of_mem he
  have hl := (List.getElem?_eq_some_iff.1 hi).1
  have h1 : (lsE p f0 fb fb.exprs.length k)[f0.exprs.length + i]? = some e := by rw [← List.getElem?_drop]; exact hi
  have hl2 : i < fb.exprs.length := by rw [show _ = fb.exprs.length from (by show (List.drop _ _).length = _; rw [List.length_drop, lsE_len]; omega : (List.drop f0.exprs.length (lsE p f0 fb fb.exprs.length k)).length = fb.exprs.length)] at hl; exact hl
  obtain ⟨e', he'⟩ : ∃ e', fb.exprs[i]? = some e' := ⟨_, List.getElem?_eq_getElem hl2⟩
  rw [lsE_at he'] at h1
  cases h1
  unfold stE
  rw [if_pos hl2]
  have := h.args e' (List.mem_of_getElem? he')
  exact ⟨by show (midN _ _ _).length ≤ _; rw [midN_len]; exact this.1, this.2⟩
 ·obtain ⟨i, hi⟩ := List.getElem?_of_mem hb
  have hl := (List.getElem?_eq_some_iff.1 hi).1
  have h1 : (lsB p f0 fb fb.blocks.length ka kb)[f0.blocks.length + i]? = some b := by rw [← List.getElem?_drop]; exact hi
  have hl2 : i < fb.blocks.length := by rw [show _ = fb.blocks.length from (by show (List.drop _ _).length = _; rw [List.length_drop, lsB_len]; omega : (List.drop f0.blocks.length (lsB p f0 fb fb.blocks.length ka kb)).length = fb.blocks.length)] at hl; exact hl
  obtain ⟨b', hb'⟩ : ∃ e', fb.blocks[i]? = some e' := ⟨_, List.getElem?_eq_getElem hl2⟩
  rw [lsB_at hb'] at h1
  cases h1
  unfold stB
  rw [if_pos hl2]
  have := h.blocks b' (List.mem_of_getElem? hb')
  exact ⟨this.1, by show (midA _ _ _ _).length ≤ _; rw [midA_len]; exact this.2.1, by show (midN _ _ _).length ≤ _; rw [midN_len]; exact this.2.2⟩
end
end Go.Proofs.YtljgggohjigaoaaGreatDoor
namespace Go.Proofs.YtljgggohjigaoaaGreatDoor
set_option linter.unusedVariables false

section
variable {N : Nat} {nx : Sub} {s : Ps}
theorem UTr.snoc {α : Type} {i : Nat} {l : List Nat} {o p : α → List Nat} {Q : α → Prop} {M : PM α} (h : UTr N (l ++ [i]) [] o p Q M) : UTr N ([i] ++ l) [] o p Q M := h.conv List.perm_append_comm (.refl _) (fun _ => .refl _) (fun _ => .refl _) (fun _ h => h)
theorem args_use {en : ByteArray} {ex : PM Nat} (hx : UTr N [] [] (fun i => [i]) no tr ex) : ∀ (n : Nat) (args : List Nat), UTr N args [] (fun l => l) no tr (argsM en ex n args) := by
 intro n
 induction n with
 | zero => intro args s hs; exact UAt.none
 | succ n ih =>
  intro args s hs
  unfold argsM
  split
  ·exact UAt.ok (oks_peek hs) rfl rfl rfl trivial
  ·refine ((UTr.bind (o1 := fun i => [i] ++ args) (p1 := no) (UTr.frame args [] hx) fun i _ => UTr.snoc ?_) _ (oks_peek hs)).st rfl
   refine UTr.bind (o1 := fun _ => args ++ [i]) (p1 := no) (UTr.frame (args ++ [i]) [] UTr.skip) fun c _ => ?_
   cases c with
   | true => exact ih (args ++ [i])
   | false => exact UTr.pure rfl rfl trivial
theorem key_use {ahead : List ByteArray} : UTr N [] [] no no tr (keyM ahead) := fun s hs => by
 unfold keyM
 have hA : UAt N [] [] no no tr s (if (next s).k = 3 then plainM (peekS s) else bindP (kindM 1) (fun t s' => .ok (t.x, s')) (peekS s) : PR ByteArray) := by
  split
  ·exact (UTr.plain _ (oks_peek hs)).st rfl
  ·exact ((UTr.bind (UTr.kind0 (N := N) (k := 1)) (fun t _ => UTr.pure (a := t.x) (o := no) (p := no) (Q := tr) rfl rfl trivial)) _ (oks_peek hs)).st rfl
 refine ⟨fun E B a s' hF hr => ?_, fun E B bd hF hr => ?_⟩
 ·split at hr
  ·cases hr
  ·rename_i k s1 h1
   obtain ⟨h2, h3, -⟩ := hA.1 E B _ s1 hF h1
   split at hr
   ·cases hr
   ·cases hr
    exact ⟨h2, h3, trivial⟩
 ·split at hr
  ·rename_i x h1
   cases hr
   exact hA.2 E B _ hF h1
  ·split at hr
   ·cases hr
    exact next_le hs
   ·cases hr
theorem obj_use {ex : PM Nat} (hx : UTr N [] [] (fun i => [i]) no tr ex) : ∀ (n : Nat) (keys : List ByteArray) (args : List Nat), UTr N args [] (fun r => r.2) no tr (objM ex n keys args) := by
 intro n
 induction n with
 | zero => intro keys args s hs; exact UAt.none
 | succ n ih =>
  intro keys args s hs
  unfold objM
  split
  ·exact UAt.ok (oks_peek hs) rfl rfl rfl trivial
  ·refine ((UTr.bind (o1 := fun _ => args) (p1 := no) (UTr.frame args [] key_use) fun k _ => ?_) _ (oks_peek hs)).st rfl
   refine UTr.bind (o1 := fun _ => args) (p1 := no) (UTr.frame args [] (UTr.want (by decide))) fun _ _ => ?_
   refine UTr.bind (o1 := fun i => [i] ++ args) (p1 := no) (UTr.frame args [] hx) fun i _ => UTr.snoc ?_
   refine UTr.bind (o1 := fun _ => args ++ [i]) (p1 := no) (UTr.frame (args ++ [i]) [] UTr.skip) fun c _ => ?_
   refine UTr.bind (o1 := fun _ => args ++ [i]) (p1 := no) (UTr.frame (args ++ [i]) [] UTr.lines) fun l _ s2 hs2 => ?_
   split
   ·exact UAt.ok hs2 rfl rfl rfl trivial
   ·exact ih _ _ s2 hs2
theorem list_use (hx : SubU N nx) : UTr N [] [] (fun i => [i]) no tr (listM nx) := by
 unfold listM
 refine UTr.bind (UTr.between (o := fun r : Int × ByteArray × List Nat => r.2.2) (p := no) (Q := tr) (by decide) (by decide) fun q hq => ?_) fun r hr => UTr.add (e := ⟨r.1.1, r.1.2.1, r.1.2.2, [], r.2⟩) hr.2
 have hE := (hx q hq).1
 refine UTr.bind UTr.skip fun fr _ => ?_
 cases fr with
 | true =>
  refine UTr.bind (UTr.kind0 (k := 1)) fun t _ => UTr.bind (UTr.want (by decide)) fun _ _ => UTr.bind hE fun i _ => ?_
  refine UTr.bind (o1 := fun _ => [i]) (p1 := no) (UTr.frame [i] [] (UTr.want (by decide))) fun _ _ => ?_
  refine UTr.bind (o1 := fun j => [j] ++ [i]) (p1 := no) (UTr.frame [i] [] hE) fun j _ => UTr.snoc (UTr.pure rfl rfl trivial)
 | false =>
  show UTr N [] [] (fun r : Int × ByteArray × List Nat => r.2.2) no tr (fun s => bindP (argsM (wb [93]) q.1 (s.toks.length + 1) []) (fun l s' => .ok (((7 : Int), (⟨#[]⟩ : ByteArray), l), s')) s)
  exact fun s hs => UTr.bind (args_use hE _ []) (fun l _ => UTr.pure (a := ((7 : Int), (⟨#[]⟩ : ByteArray), l)) rfl rfl trivial) s hs
theorem object_use (hx : SubU N nx) : UTr N [] [] (fun i => [i]) no tr (objectM nx) := by
 unfold objectM
 refine UTr.bind (UTr.between (o := fun r : List ByteArray × List Nat => r.2) (p := no) (Q := tr) (by decide) (by decide) fun q hq => ?_) fun r hr => UTr.add (e := ⟨8, ⟨#[]⟩, r.1.2, r.1.1, r.2⟩) hr.2
 exact UTr.bind UTr.lines fun _ _ s hs => obj_use (hx q hq).1 _ [] [] s hs
theorem named_use (hx : SubU N nx) (hs : TksOk N s.toks) (hk : (next s).k = 1) : UAt N [] [] (fun i => [i]) no tr s (namedM nx s) := by
 have hlt := kind_lt hs (by rw [hk]; decide)
 have h1 := oks_take hs
 unfold namedM
 simp only
 split
 ·refine ((UTr.bind (UTr.between (o := fun l => l) (p := no) (Q := tr) (by decide) (by decide) fun q hq s hs => args_use (hx q hq).1 _ [] s hs) fun r hr => UTr.add (e := ⟨12, (next s).x, r.1, [], (next s).at_⟩) hlt) _ (oks_peek h1)).st rfl
 ·split
  ·exact (UTr.add (e := ⟨1, ⟨#[]⟩, [], [], (next s).at_⟩) hlt _ (oks_peek h1)).st rfl
  ·split
   ·exact (UTr.add (e := ⟨2, ⟨#[]⟩, [], [], (next s).at_⟩) hlt _ (oks_peek h1)).st rfl
   ·split
    ·exact (UTr.add (e := ⟨3, ⟨#[]⟩, [], [], (next s).at_⟩) hlt _ (oks_peek h1)).st rfl
    ·exact (UTr.add (e := ⟨9, (next s).x, [], [], (next s).at_⟩) hlt _ (oks_peek h1)).st rfl
theorem atom_use (hx : SubU N nx) : UTr N [] [] (fun i => [i]) no tr (atomM nx) := fun s hs => by
 unfold atomM
 simp only
 split
 ·rename_i hk
  exact (UTr.add (e := ⟨4, (next s).x, [], [], (next s).at_⟩) (kind_lt hs (by rw [hk]; decide)) _ (oks_take hs)).st rfl
 ·split
  ·rename_i hk
   exact text_use hx hs hk
  ·split
   ·rename_i hk
    exact named_use hx hs hk.1
   ·split
    ·exact (UTr.bind (UTr.between (o := fun i => [i]) (p := no) (Q := tr) (by decide) (by decide) fun q hq => (hx q hq).1) fun r hr => UTr.pure rfl rfl trivial) s hs
    ·split
     ·exact list_use hx s hs
     ·split
      ·exact object_use hx s hs
      ·exact UAt.err _ (next_le hs)
theorem indexed_use (hx : SubU N nx) (one : Nat) : UTr N [one] [] (fun i => [i]) no tr (indexedM nx one) := by
 unfold indexedM
 refine UTr.bind (UTr.between (i := [one]) (o := fun r : Bool × List Nat => r.2) (p := no) (Q := tr) (by decide) (by decide) fun q hq => ?_) fun r hr => ?_
 ·refine UTr.bind (o1 := fun _ => [one]) (p1 := no) (UTr.frame [one] [] UTr.skip) fun st _ => ?_
  cases st with
  | true => exact UTr.pure rfl rfl trivial
  | false => exact UTr.bind (o1 := fun i => [i] ++ [one]) (p1 := no) (UTr.frame [one] [] (hx q hq).1) fun i _ => UTr.snoc (UTr.pure rfl rfl trivial)
 ·split
  ·refine UTr.bind (o1 := fun _ => r.1.2) (p1 := no) (UTr.frame r.1.2 [] (UTr.want (by decide))) fun _ _ => ?_
   refine UTr.bind (o1 := fun _ => r.1.2) (p1 := no) (UTr.frame r.1.2 [] (UTr.kind0 (k := 1))) fun t _ => ?_
   exact UTr.add (e := ⟨30, t.x, r.1.2, [], r.2⟩) hr.2
  ·exact UTr.add (e := ⟨11, ⟨#[]⟩, r.1.2, [], r.2⟩) hr.2
theorem post_use (hx : SubU N nx) : ∀ (n one : Nat), UTr N [one] [] (fun i => [i]) no tr (postLoop nx n one) := by
 intro n
 induction n with
 | zero => intro one s hs; exact UAt.none
 | succ n ih =>
  intro one s hs
  unfold postLoop
  split
  ·rename_i hw
   have hlt := isW_lt hs (by decide) hw
   refine ((UTr.bind (o1 := fun _ => [one]) (p1 := no) (UTr.frame [one] [] (UTr.kind0 (k := 1))) fun t _ => ?_) _ (oks_take hs)).st rfl
   exact UTr.bind (UTr.add (e := ⟨10, t.x, [one], [], (next s).at_⟩) hlt) fun i _ => ih i
  ·split
   ·exact ((UTr.bind (indexed_use hx one) fun i _ => ih i) _ (oks_peek hs)).st rfl
   ·exact UAt.ok (oks_peek hs) rfl rfl rfl trivial
theorem posted_use (hx : SubU N nx) : UTr N [] [] (fun i => [i]) no tr (postedM nx) := UTr.bind (atom_use hx) fun one _ s hs => post_use hx _ one s hs
theorem signed_use (hx : SubU N nx) : UTr N [] [] (fun i => [i]) no tr (signedM nx) := fun s hs => by
 unfold signedM
 simp only
 split
 ·rename_i hw
  exact ((UTr.bind (UTr.deeper (next_le hs) fun q hq => (hx q hq).2) fun i _ => UTr.add (e := ⟨14, ⟨#[]⟩, [i], [], (next s).at_⟩) (isW_lt hs (by decide) hw)) _ (oks_take hs)).st rfl
 ·split
  ·rename_i hw
   exact ((UTr.bind (UTr.deeper (next_le hs) fun q hq => (hx q hq).2) fun i _ => UTr.add (e := ⟨13, ⟨#[]⟩, [i], [], (next s).at_⟩) (isW_lt hs (by decide) hw)) _ (oks_take hs)).st rfl
  ·exact (posted_use hx _ (oks_peek hs)).st rfl
theorem joins_k {t : Tk} {lv : Nat} (h : lowK lv ≤ joinsT t) : t.k ≠ 0 := fun e => by
 have h1 : joinsT t = 0 := by
  unfold joinsT
  rw [if_pos (by rw [e]; decide)]
 rw [h1] at h
 unfold lowK at h
 split at h <;> omega
theorem joinLoop_use {sub : PM Nat} {lv : Nat} (hx : UTr N [] [] (fun i => [i]) no tr sub) : ∀ (n left : Nat), UTr N [left] [] (fun i => [i]) no tr (joinLoop sub lv n left) := by
 intro n
 induction n with
 | zero => intro left s hs; exact UAt.none
 | succ n ih =>
  intro left s hs
  unfold joinLoop
  split
  ·rename_i hw
   refine ((UTr.bind (o1 := fun i => [i] ++ [left]) (p1 := no) (UTr.frame [left] [] hx) fun right _ => UTr.snoc ?_) _ (oks_take hs)).st rfl
   exact UTr.bind (UTr.add (e := ⟨joinsT (next s), ⟨#[]⟩, [left, right], [], (next s).at_⟩) (kind_lt hs (joins_k hw.1))) fun i _ => ih i
  ·exact UAt.ok (oks_peek hs) rfl rfl rfl trivial
theorem joined_use (hx : SubU N nx) : ∀ n, UTr N [] [] (fun i => [i]) no tr (joinedM nx n)
 | 0 => signed_use hx
 | n + 1 => UTr.bind (joined_use hx n) fun left _ s hs => joinLoop_use (joined_use hx n) _ left s hs
theorem expr_use (hx : SubU N nx) : UTr N [] [] (fun i => [i]) no tr (exprM nx) := by
 unfold exprM
 refine UTr.bind (joined_use hx 6) fun first _ s hs => ?_
 split
 ·rename_i hw
  have hlt := isW_lt hs (by decide) hw
  refine ((UTr.bind (o1 := fun l : List Nat => l) (p1 := no) (Q1 := tr) (UTr.deeper (i := [first]) (next_le hs) fun q hq => ?_) fun l _ => UTr.add (e := ⟨28, ⟨#[]⟩, l, [], (next s).at_⟩) hlt) _ (oks_take hs)).st rfl
  refine UTr.bind (o1 := fun i => [i] ++ [first]) (p1 := no) (UTr.frame [first] [] (hx q hq).1) fun i _ => UTr.snoc ?_
  refine UTr.bind (o1 := fun _ => [first, i]) (p1 := no) (UTr.frame [first, i] [] (UTr.want (by decide))) fun _ _ => ?_
  exact UTr.bind (o1 := fun j => [j] ++ [first, i]) (p1 := no) (UTr.frame [first, i] [] (hx q hq).1) fun j _ => UTr.snoc (UTr.pure rfl rfl trivial)
 ·exact UAt.ok (oks_peek hs) rfl rfl rfl trivial
end
theorem sub_use (N : Nat) : ∀ d, SubU N (subP d) := by
 intro d
 induction d with
 | zero => intro q hq; cases hq
 | succ d ih =>
  intro q hq
  simp only [subP, Option.some.injEq] at hq
  subst hq
  exact ⟨expr_use ih, signed_use ih⟩
section
variable {N : Nat} {s : Ps}
theorem itemsLoop_use {σ : Type} {rd : Tk → σ → PM σ} {o p : σ → List Nat} {Q : σ → Prop} (hr : ∀ t x, TkOk N t → t.k = 1 → Q x → UTr N (o x) (p x) o p Q (rd t x)) : ∀ (n : Nat) (x : σ), Q x → UTr N (o x) (p x) o p Q (itemsLoop rd n x) := by
 intro n
 induction n with
 | zero => intro x hq s hs; exact UAt.none
 | succ n ih =>
  intro x hq s hs
  unfold itemsLoop
  split
  ·rename_i hk
   have hT := oks_next hs (by rw [hk]; decide)
   refine ((UTr.bind (hr _ x hT hk hq) fun x' hq' => UTr.bind (o1 := fun _ => o x') (p1 := fun _ => p x') (UTr.frame (o x') (p x') UTr.lines) fun l _ s' hs' => ?_) _ (oks_take hs)).st rfl
   cases l with
   | true => exact ih x' hq' s' hs'
   | false => exact UAt.ok hs' rfl rfl rfl hq'
  ·exact UAt.ok (oks_peek hs) rfl rfl rfl hq
theorem items_use {σ : Type} {rd : Tk → σ → PM σ} {o p : σ → List Nat} {Q : σ → Prop} (hr : ∀ t x, TkOk N t → t.k = 1 → Q x → UTr N (o x) (p x) o p Q (rd t x)) (x : σ) (hq : Q x) : UTr N (o x) (p x) o p Q (itemsM rd x) :=
 UTr.bind (o1 := fun _ => o x) (p1 := fun _ => p x) (UTr.frame (o x) (p x) UTr.lines) fun _ _ s hs => itemsLoop_use hr _ x hq s hs
theorem labels_use : ∀ (n : Nat) (l : List ByteArray), UTr N [] [] no no tr (labelsM n l) := by
 intro n
 induction n with
 | zero => intro l s hs; exact UAt.none
 | succ n ih =>
  intro l s hs
  unfold labelsM
  split
  ·exact ((UTr.bind UTr.plain fun t _ => ih _) _ (oks_peek hs)).st rfl
  ·exact UAt.ok (oks_peek hs) rfl rfl rfl trivial
abbrev ofE (b : Bl) : List Nat := b.attrs.map AtS.e
abbrev ofB (b : Bl) : List Nat := b.blocks
abbrev named (b : Bl) : Prop := ∀ a ∈ b.attrs, a.n ≠ ⟨#[]⟩
theorem addB_use {b : Bl} (hn : named b) : UTr N (ofE b) (ofB b) no (fun i => [i]) tr (addB b) := fun s hs => ⟨fun E B a s' hF h => by
 unfold addB at h
 cases h
 exact ⟨hs, hF.addB hn, trivial⟩, fun E B bd hF h => by unfold addB at h; cases h⟩
theorem itemE_use {ex : PM Nat} {bk : Tk → PM Nat} (hx : UTr N [] [] (fun i => [i]) no tr ex) (hb : ∀ t, UTr N [] [] no (fun i => [i]) tr (bk t)) (t : Tk) (b : Bl) (ht : TkOk N t) (hk : t.k = 1) (hq : named b) :
  UTr N (ofE b) (ofB b) ofE ofB named (bindP (skipM (wb [61])) fun eq => if eq then bindP ex fun i s => .ok (({ b with attrs := b.attrs ++ [⟨t.x, i, t.at_⟩] } : Bl), s) else bindP (bk t) fun i s => .ok (({ b with blocks := b.blocks ++ [i] } : Bl), s)) := by
 refine UTr.bind (o1 := fun _ => ofE b) (p1 := fun _ => ofB b) (UTr.frame (ofE b) (ofB b) UTr.skip) fun eq _ => ?_
 cases eq with
 | true =>
  refine UTr.bind (o1 := fun i => [i] ++ ofE b) (p1 := fun _ => ofB b) (UTr.frame (ofE b) (ofB b) hx) fun i _ => ?_
  refine (UTr.pure (i := ofE b ++ [i]) (j := ofB b) (a := ({ b with attrs := b.attrs ++ [⟨t.x, i, t.at_⟩] } : Bl)) (o := ofE) (p := ofB) (Q := named) (by simp [ofE]) rfl ?_).conv List.perm_append_comm (.refl _) (fun _ => .refl _) (fun _ => .refl _) (fun _ h => h)
  intro a ha
  rcases List.mem_append.1 ha with h1 | h1
  ·exact hq a h1
  ·rw [List.mem_singleton.1 h1]; exact ht.name hk
 | false =>
  refine UTr.bind (o1 := fun _ => ofE b) (p1 := fun i => [i] ++ ofB b) (UTr.frame (ofE b) (ofB b) (hb t)) fun i _ => ?_
  exact (UTr.pure (i := ofE b) (j := ofB b ++ [i]) (a := ({ b with blocks := b.blocks ++ [i] } : Bl)) (o := ofE) (p := ofB) (Q := named) rfl rfl hq).conv (.refl _) List.perm_append_comm (fun _ => .refl _) (fun _ => .refl _) (fun _ h => h)
theorem block_use : ∀ (d : Nat) (t : Tk), UTr N [] [] no (fun i => [i]) tr (blockM d t) := by
 intro d
 induction d with
 | zero =>
  intro t s hs
  unfold blockM
  exact (UTr.bind (labels_use _ []) fun ls _ => UTr.bind (UTr.want (by decide)) fun o ho s1 hs1 => UAt.err _ (Nat.le_of_lt ho)) s hs
 | succ d ih =>
  intro t s hs
  unfold blockM
  refine (UTr.bind (labels_use _ []) fun ls _ => UTr.bind (UTr.want (by decide)) fun o _ s1 hs1 => ?_) s hs
  have hI := items_use (N := N) (σ := Bl) (o := ofE) (p := ofB) (Q := named) (rd := fun (n : Tk) (b : Bl) => bindP (skipM (wb [61])) fun eq => if eq then bindP (exprM (subP d)) fun i s => .ok (({ b with attrs := b.attrs ++ [⟨n.x, i, n.at_⟩] } : Bl), s) else bindP (blockM d n) fun i s => .ok (({ b with blocks := b.blocks ++ [i] } : Bl), s))
   (fun t b ht hk hq => itemE_use (expr_use (sub_use N d)) ih t b ht hk hq) ⟨t.x, ls, [], [], t.at_⟩ (fun a ha => by cases ha)
  refine (UAt.bind (hI { s1 with over := false } hs1) fun b s2 hs2 hq => ?_).st rfl
  refine (UTr.bind (o1 := fun _ => ofE b) (p1 := fun _ => ofB b) (UTr.frame (ofE b) (ofB b) (UTr.want (by decide))) fun _ _ s3 hs3 => ?_) s2 hs2
  exact (addB_use hq { s3 with over := s1.over } hs3).st rfl
theorem whole_use : UTr N [] [] no no tr wholeM := by
 unfold wholeM
 refine UTr.bind (items_use (o := no) (p := no) (Q := tr) (fun t x ht hk _ => ?_) () trivial) fun _ _ => UTr.bind (UTr.kind0 (k := 0)) fun _ _ => UTr.pure rfl rfl trivial
 refine UTr.bind (block_use 24 t) fun i _ s hs => ⟨fun E B a s' hF h => ?_, fun E B bd hF h => by cases h⟩
 cases h
 exact ⟨hs, hF.addT, trivial⟩
end
theorem parse_use {t : ByteArray} {f : Fi} (h : parseF t = .ok f) : FOk t.size f [] [] := by
 unfold parseF at h
 cases hs : scanL t with
 | error e => rw [hs] at h; cases h
 | ok l =>
  rw [hs] at h
  simp only at h
  cases hw : wholeM (⟨l ++ [endT t.size], false, ⟨[], [], []⟩⟩ : Ps) with
  | error e => rw [hw] at h; cases h
  | ok y =>
   obtain ⟨u, s⟩ := y
   rw [hw] at h
   cases h
   exact ((whole_use _ (scan_oks hs)).1 [] [] u s (FOk.nil _) hw).2.1
end Go.Proofs.YtljgggohjigaoaaGreatDoor
namespace Go.Proofs.YtljgggohjigaoaaGreatDoor
open Go.RowKit Go.Shelf
set_option linter.unusedVariables false
set_option linter.unusedSimpArgs false

def Cnt (w : World) (g n : Nat) (L : List Nat) : Prop := ∃ cs, Blk w g cs 3 ∧ (∀ j, j < n → cs[j]? = some (.int .i64 (L.count j : Int))) ∧ cs.size = n
theorem Cnt.cell {w : World} {g n : Nat} {L : List Nat} (h : Cnt w g n L) {j : Nat} (hj : j < n) : w.cell? ⟨g, j, none⟩ = some (.int .i64 (L.count j : Int)) := by
 obtain ⟨cs, h1, h2, h3⟩ := h
 rw [h1.cell, h2 j hj]
theorem Cnt.frozen {w : World} {g n : Nat} {L : List Nat} (h : Cnt w g n L) (j : Nat) : w.frozen? ⟨g, j, none⟩ = false := by
 obtain ⟨cs, h1, h2, h3⟩ := h
 exact h1.frozen j
theorem Cnt.lt {w : World} {g n : Nat} {L : List Nat} (h : Cnt w g n L) : g < w.heap.size := by
 obtain ⟨cs, h1, h2, h3⟩ := h
 exact h1.lt
theorem Cnt.same {w w' : World} {g n : Nat} {L : List Nat} (h : Cnt w g n L) (hs : w'.heap[g]? = w.heap[g]?) : Cnt w' g n L := by
 obtain ⟨cs, h1, h2, h3⟩ := h
 exact ⟨cs, hs.trans h1, h2, h3⟩
structure FSt (w5 wx : World) (g5 g6 nE nB : Nat) (L5 L6 : List Nat) : Prop where
 below : Below w5.heap.size w5 wx
 c5 : Cnt wx g5 nE L5
 c6 : Cnt wx g6 nB L6
 h5 : w5.heap.size ≤ g5
 h6 : w5.heap.size ≤ g6
 ne : g5 ≠ g6
section
variable {w5 wx w' : World} {g5 g6 nE nB : Nat} {L5 L6 : List Nat}
theorem FSt.more (h : FSt w5 wx g5 g6 nE nB L5 L6) (hb : Below wx.heap.size wx w') : FSt w5 w' g5 g6 nE nB L5 L6 :=
 ⟨h.below.trans (hb.mono h.below.size), h.c5.same (hb.block _ h.c5.lt), h.c6.same (hb.block _ h.c6.lt), h.h5, h.h6, h.ne⟩
end
end Go.Proofs.YtljgggohjigaoaaGreatDoor
