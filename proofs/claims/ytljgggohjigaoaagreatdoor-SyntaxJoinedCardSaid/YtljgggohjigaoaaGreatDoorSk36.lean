/- . -/
import Derived.Test.YtljgggohjigaoaaGreatDoorSk34
import Derived.Test.YtljgggohjigaoaaGreatDoorSk35
namespace Go.Proofs.YtljgggohjigaoaaGreatDoor
open Go.RowKit Go.Shelf
set_option linter.unusedVariables false

theorem row_set {w : World} {B e size n : Nat} {v : Value} {xs : List Value} (h : w.ownsRow B e size v n xs) {g : Nat} (hg : v.ownBlock = some g) {c : Nat} (hc : c < n * size) (u : Value) : (w.setCell ⟨g, c, none⟩ u).ownsRow B e size v n (xs.set c u) := by
 obtain ⟨h1, ⟨rfl, h2⟩ | ⟨g', cap, cur, rfl, h3, h4, h5, h6, h7, h8⟩⟩ := h
 ·cases hg
 ·cases hg
  refine ⟨by rw [List.length_set]; exact h1, .inr ⟨g', cap, cur.setIfInBounds c u, rfl, h3, Blk.set h4 c u, h5, h6, by rw [Array.size_setIfInBounds]; exact h7, ?_⟩⟩
  rw [Array.toList_setIfInBounds, List.take_set, h8]
theorem row_off {w : World} {B e size n : Nat} {v : Value} {xs : List Value} (h : w.ownsRow B e size v n xs) {g c : Nat} (hg : v.ownBlock ≠ some g) (u : Value) : (w.setCell ⟨g, c, none⟩ u).ownsRow B e size v n xs :=
 row_same h fun k hk => Below.heap_setCell _ _ _ _ (by intro e; exact hg (by rw [hk]; exact congrArg some e))
theorem set_split {α : Type} : ∀ {l : List α} {i : Nat} {x : α}, l[i]? = some x → ∃ a b, l = a ++ x :: b ∧ ∀ y, l.set i y = a ++ y :: b
 | [], _, _, h => by simp at h
 | z :: l, 0, x, h => ⟨[], l, by simpa using h, fun y => rfl⟩
 | z :: l, i + 1, x, h => by
  obtain ⟨a, b, h1, h2⟩ := set_split (l := l) (i := i) (x := x) (by simpa using h)
  exact ⟨z :: a, b, by rw [h1]; rfl, fun y => by rw [List.set_cons_succ, h2]; rfl⟩
section
variable {W : World} {F lo : Nat} {m : FileM} {f : Fi}
def FileM.setE (m : FileM) (i : Nat) (y : ExM) : FileM := { m with ms := m.ms.set i y }
def FileM.setB (m : FileM) (i : Nat) (y : BlM) : FileM := { m with ns := m.ns.set i y }
theorem nod_one {A B C : List Nat} {g : Nat} (h : (A ++ (B ++ C)).Nodup) (hg : g ∈ B) : g ∉ A ∧ g ∉ C := by
 obtain ⟨h1, h2, h3⟩ := List.nodup_append.1 h
 obtain ⟨h4, h5, h6⟩ := List.nodup_append.1 h2
 exact ⟨fun e => h3 g e g (List.mem_append.2 (.inl hg)) rfl, fun e => h6 g hg g e rfl⟩
theorem FileOk.swapE {W' : World} {g : Nat} (h : FileOk W F lo m f) {i : Nat} {x y : ExM} (hx : m.ms[i]? = some x) (hf : y.foot = x.foot) (hc : y.cells = x.cells) (hg : g ∈ x.foot)
  (hs : ∀ k, k ≠ g → W'.heap[k]? = W.heap[k]?) (hy : y.Ok lo W') : FileOk W' F lo (m.setE i y) { f with exprs := f.exprs.set i y.e } := by
 obtain ⟨a, b, h1, h2⟩ := set_split hx
 have e1 : (m.setE i y).ms = a ++ y :: b := h2 y
 have hcs : (m.setE i y).ms.flatMap ExM.cells = m.ms.flatMap ExM.cells := by
  rw [e1, h1]; simp only [List.flatMap_append, List.flatMap_cons, hc]
 have hln : (m.setE i y).ms.length = m.ms.length := by unfold FileM.setE; simp
 have hft : (m.setE i y).ms.flatMap ExM.foot = m.ms.flatMap ExM.foot := by
  rw [e1, h1]; simp only [List.flatMap_append, List.flatMap_cons, hf]
 have hfoot : (m.setE i y).foot F = m.foot F := by
  unfold FileM.foot FileM.rest
  rw [hft]
  rfl
 have hnd := h.nodup
 have hsp : m.foot F = (ownB m.ev ++ F :: (ownB m.bv ++ (ownB m.tv ++ (m.ns.flatMap BlM.foot ++ a.flatMap ExM.foot)))) ++ (x.foot ++ b.flatMap ExM.foot) := by
  unfold FileM.foot FileM.rest
  rw [h1]
  simp only [List.flatMap_append, List.flatMap_cons, List.append_assoc, List.cons_append]
 rw [hsp] at hnd
 obtain ⟨n1, n2⟩ := nod_one hnd hg
 simp only [List.mem_append, List.mem_cons, mem_ownB, List.mem_flatMap, not_or] at n1 n2
 obtain ⟨q1, q2, q3, q4, q5, q6⟩ := n1
 have hk : ∀ k, k ≠ g → W'.heap[k]? = W.heap[k]? := hs
 refine ⟨(hk F (fun e => q2 e.symm)).trans h.box, ?_, ?_, ?_, ?_, ?_, fun z hz => ?_, fun z hz => (h.bok z hz).keep (fun k hkk => hk k (fun e => q5 ⟨z, hz, e ▸ hkk⟩)), ?_⟩
 ·rw [hcs, hln]
  exact row_same h.exprs fun k hkk => hk k (fun e => q1 (e ▸ hkk))
 ·exact row_same h.blocks fun k hkk => hk k (fun e => q3 (e ▸ hkk))
 ·exact row_same h.top fun k hkk => hk k (fun e => q4 (e ▸ hkk))
 ·show (m.ms.set i y).map ExM.e = f.exprs.set i y.e
  rw [List.map_set, h.es]
 ·exact h.bs
 ·rw [e1] at hz
  rcases List.mem_append.1 hz with hz | hz
  ·exact (h.eok z (by rw [h1]; simp [hz])).keep fun k hkk => hk k (fun e => q6 ⟨z, hz, e ▸ hkk⟩)
  ·rcases List.mem_cons.1 hz with rfl | hz
   ·exact hy
   ·exact (h.eok z (by rw [h1]; simp [hz])).keep fun k hkk => hk k (fun e => n2 ⟨z, hz, e ▸ hkk⟩)
 ·rw [hfoot]; exact h.nodup
theorem FileOk.swapB {W' : World} {g : Nat} (h : FileOk W F lo m f) {i : Nat} {x y : BlM} (hx : m.ns[i]? = some x) (hf : y.foot = x.foot) (hc : y.cells = x.cells) (hg : g ∈ x.foot)
  (hs : ∀ k, k ≠ g → W'.heap[k]? = W.heap[k]?) (hy : y.Ok lo W') : FileOk W' F lo (m.setB i y) { f with blocks := f.blocks.set i y.b } := by
 obtain ⟨a, b, h1, h2⟩ := set_split hx
 have e1 : (m.setB i y).ns = a ++ y :: b := h2 y
 have hcs : (m.setB i y).ns.flatMap BlM.cells = m.ns.flatMap BlM.cells := by
  rw [e1, h1]; simp only [List.flatMap_append, List.flatMap_cons, hc]
 have hln : (m.setB i y).ns.length = m.ns.length := by unfold FileM.setB; simp
 have hft : (m.setB i y).ns.flatMap BlM.foot = m.ns.flatMap BlM.foot := by
  rw [e1, h1]; simp only [List.flatMap_append, List.flatMap_cons, hf]
 have hfoot : (m.setB i y).foot F = m.foot F := by
  unfold FileM.foot FileM.rest
  rw [hft]
  rfl
 have hnd := h.nodup
 have hsp : m.foot F = (ownB m.ev ++ F :: (ownB m.bv ++ (ownB m.tv ++ a.flatMap BlM.foot))) ++ (x.foot ++ (b.flatMap BlM.foot ++ m.ms.flatMap ExM.foot)) := by
  unfold FileM.foot FileM.rest
  rw [h1]
  simp only [List.flatMap_append, List.flatMap_cons, List.append_assoc, List.cons_append]
 rw [hsp] at hnd
 obtain ⟨n1, n2⟩ := nod_one hnd hg
 simp only [List.mem_append, List.mem_cons, mem_ownB, List.mem_flatMap, not_or] at n1 n2
 obtain ⟨q1, q2, q3, q4, q5⟩ := n1
 obtain ⟨n3, n4⟩ := n2
 have hk : ∀ k, k ≠ g → W'.heap[k]? = W.heap[k]? := hs
 refine ⟨(hk F (fun e => q2 e.symm)).trans h.box, ?_, ?_, ?_, ?_, ?_, fun z hz => (h.eok z hz).keep (fun k hkk => hk k (fun e => n4 ⟨z, hz, e ▸ hkk⟩)), fun z hz => ?_, ?_⟩
 ·exact row_same h.exprs fun k hkk => hk k (fun e => q1 (e ▸ hkk))
 ·rw [hcs, hln]
  exact row_same h.blocks fun k hkk => hk k (fun e => q3 (e ▸ hkk))
 ·exact row_same h.top fun k hkk => hk k (fun e => q4 (e ▸ hkk))
 ·exact h.es
 ·show (m.ns.set i y).map BlM.b = f.blocks.set i y.b
  rw [List.map_set, h.bs]
 ·rw [e1] at hz
  rcases List.mem_append.1 hz with hz | hz
  ·exact (h.bok z (by rw [h1]; simp [hz])).keep fun k hkk => hk k (fun e => q5 ⟨z, hz, e ▸ hkk⟩)
  ·rcases List.mem_cons.1 hz with rfl | hz
   ·exact hy
   ·exact (h.bok z (by rw [h1]; simp [hz])).keep fun k hkk => hk k (fun e => n3 ⟨z, hz, e ▸ hkk⟩)
 ·rw [hfoot]; exact h.nodup
theorem cell_far {w : World} {g c : Nat} (u : Value) : ∀ k, k ≠ g → (w.setCell ⟨g, c, none⟩ u).heap[k]? = w.heap[k]? := fun k hk => Below.heap_setCell _ _ _ _ (by exact hk)
theorem ExM.nodup_of (h : FileOk W F lo m f) {i : Nat} {x : ExM} (hx : m.ms[i]? = some x) : x.foot.Nodup := by
 obtain ⟨a, b, h1, -⟩ := set_split hx
 have := h.nodup
 have hsp : m.foot F = (ownB m.ev ++ F :: (ownB m.bv ++ (ownB m.tv ++ (m.ns.flatMap BlM.foot ++ a.flatMap ExM.foot)))) ++ (x.foot ++ b.flatMap ExM.foot) := by
  unfold FileM.foot FileM.rest
  rw [h1]
  simp only [List.flatMap_append, List.flatMap_cons, List.append_assoc, List.cons_append]
 rw [hsp] at this
 exact (List.nodup_append.1 (List.nodup_append.1 this).2.1).1
theorem FileOk.setArg (h : FileOk W F lo m f) {i k g len cap : Nat} {x : ExM} (hx : m.ms[i]? = some x) (hav : x.av = .slice (some ⟨g, 0, none⟩) len cap) (hk : k < x.e.args.length) (v : Nat) :
  FileOk (W.setCell ⟨g, k, none⟩ (.int .i64 (v : Int))) F lo (m.setE i { x with e := { x.e with args := x.e.args.set k v } }) { f with exprs := f.exprs.set i { x.e with args := x.e.args.set k v } } := by
 have ho := h.eok x (List.mem_of_getElem? hx)
 have hgm : g ∈ x.foot := List.mem_append.2 (.inl (mem_ownB.2 (by rw [hav]; rfl)))
 have hnd := ExM.nodup_of h hx
 refine h.swapE hx rfl rfl hgm (cell_far _) ⟨?_, ?_⟩
 ·have h1 := row_set ho.args (g := g) (by rw [hav]; rfl) (c := k) (by omega) (.int .i64 (v : Int))
  show World.ownsRow _ _ _ _ x.av (x.e.args.set k v).length (intsV (x.e.args.set k v))
  rw [List.length_set]
  unfold intsV at h1 ⊢
  rw [List.map_set]
  exact h1
 ·refine row_off ho.keys (fun e => ?_) _
  exact (List.nodup_append.1 hnd).2.2 g (mem_ownB.2 (by rw [hav]; rfl)) g (mem_ownB.2 e) rfl
theorem BlM.nodup_of (h : FileOk W F lo m f) {i : Nat} {x : BlM} (hx : m.ns[i]? = some x) : x.foot.Nodup := by
 obtain ⟨a, b, h1, -⟩ := set_split hx
 have := h.nodup
 have hsp : m.foot F = (ownB m.ev ++ F :: (ownB m.bv ++ (ownB m.tv ++ a.flatMap BlM.foot))) ++ (x.foot ++ (b.flatMap BlM.foot ++ m.ms.flatMap ExM.foot)) := by
  unfold FileM.foot FileM.rest
  rw [h1]
  simp only [List.flatMap_append, List.flatMap_cons, List.append_assoc, List.cons_append]
 rw [hsp] at this
 exact (List.nodup_append.1 (List.nodup_append.1 this).2.1).1
theorem flat_set {α β : Type} (q : α → List β) (n : Nat) (hn : ∀ a, (q a).length = n) (y : α) (u : β) (j : Nat) : ∀ (l : List α) (k : Nat) (x : α), l[k]? = some x → q y = (q x).set j u → j < n → (l.set k y).flatMap q = (l.flatMap q).set (k * n + j) u
 | [], k, x, h, _, _ => by simp at h
 | b :: l, 0, x, h, hq, hj => by
  have e : b = x := by simpa using h
  subst e
  rw [List.set_cons_zero, List.flatMap_cons, List.flatMap_cons, hq, Nat.zero_mul, Nat.zero_add, List.set_append_left _ _ (by rw [hn]; exact hj)]
 | b :: l, k + 1, x, h, hq, hj => by
  have h' : l[k]? = some x := by simpa using h
  rw [List.set_cons_succ, List.flatMap_cons, List.flatMap_cons, flat_set q n hn y u j l k x h' hq hj, List.set_append_right _ _ (by rw [hn, Nat.succ_mul]; omega), hn, show (k + 1) * n + j - n = k * n + j by rw [Nat.succ_mul]; omega]
theorem FileOk.setAttr (h : FileOk W F lo m f) {i k g len cap : Nat} {x : BlM} {a : AtS} (hx : m.ns[i]? = some x) (hav : x.av = .slice (some ⟨g, 0, none⟩) len cap) (ha : x.b.attrs[k]? = some a) (v : Nat) :
  FileOk (W.setCell ⟨g, k * 3 + 1, none⟩ (.int .i64 (v : Int))) F lo (m.setB i { x with b := { x.b with attrs := x.b.attrs.set k { a with e := v } } }) { f with blocks := f.blocks.set i { x.b with attrs := x.b.attrs.set k { a with e := v } } } := by
 have ho := h.bok x (List.mem_of_getElem? hx)
 have hk := (List.getElem?_eq_some_iff.1 ha).1
 have hgm : g ∈ x.foot := List.mem_append.2 (.inr (List.mem_append.2 (.inl (mem_ownB.2 (by rw [hav]; rfl)))))
 have hnd := BlM.nodup_of h hx
 unfold BlM.foot at hnd
 obtain ⟨-, hn2, hn3⟩ := List.nodup_append.1 hnd
 have hga : g ∈ ownB x.av := mem_ownB.2 (by rw [hav]; rfl)
 refine h.swapB hx rfl rfl hgm (cell_far _) ⟨?_, ?_, ?_⟩
 ·exact row_off ho.labels (fun e => hn3 g (mem_ownB.2 e) g (List.mem_append.2 (.inl hga)) rfl) _
 ·have h1 := row_set ho.attrs (g := g) (by rw [hav]; rfl) (c := k * 3 + 1) (by omega) (.int .i64 (v : Int))
  show World.ownsRow _ _ _ _ x.av (x.b.attrs.set k { a with e := v }).length ((x.b.attrs.set k { a with e := v }).flatMap AtS.cells)
  rw [List.length_set, flat_set AtS.cells 3 (fun _ => rfl) _ (.int .i64 (v : Int)) 1 _ k a ha rfl (by omega)]
  exact h1
 ·exact row_off ho.blocks (fun e => (List.nodup_append.1 hn2).2.2 g hga g (mem_ownB.2 e) rfl) _
theorem FileOk.setKid (h : FileOk W F lo m f) {i k g len cap : Nat} {x : BlM} (hx : m.ns[i]? = some x) (hbv : x.bv = .slice (some ⟨g, 0, none⟩) len cap) (hk : k < x.b.blocks.length) (v : Nat) :
  FileOk (W.setCell ⟨g, k, none⟩ (.int .i64 (v : Int))) F lo (m.setB i { x with b := { x.b with blocks := x.b.blocks.set k v } }) { f with blocks := f.blocks.set i { x.b with blocks := x.b.blocks.set k v } } := by
 have ho := h.bok x (List.mem_of_getElem? hx)
 have hgm : g ∈ x.foot := List.mem_append.2 (.inr (List.mem_append.2 (.inr (mem_ownB.2 (by rw [hbv]; rfl)))))
 have hnd := BlM.nodup_of h hx
 unfold BlM.foot at hnd
 obtain ⟨-, hn2, hn3⟩ := List.nodup_append.1 hnd
 have hga : g ∈ ownB x.bv := mem_ownB.2 (by rw [hbv]; rfl)
 refine h.swapB hx rfl rfl hgm (cell_far _) ⟨?_, ?_, ?_⟩
 ·exact row_off ho.labels (fun e => hn3 g (mem_ownB.2 e) g (List.mem_append.2 (.inr hga)) rfl) _
 ·exact row_off ho.attrs (fun e => (List.nodup_append.1 hn2).2.2 g (mem_ownB.2 e) g hga rfl) _
 ·have h1 := row_set ho.blocks (g := g) (by rw [hbv]; rfl) (c := k) (by omega) (.int .i64 (v : Int))
  show World.ownsRow _ _ _ _ x.bv (x.b.blocks.set k v).length (intsV (x.b.blocks.set k v))
  rw [List.length_set]
  unfold intsV at h1 ⊢
  rw [List.map_set]
  exact h1
theorem row_len {w : World} {B e size n : Nat} {v : Value} {xs : List Value} (h : w.ownsRow B e size v n xs) : n ≤ 9223372036854775807 := by
 obtain ⟨-, ⟨-, h2⟩ | ⟨g, cap, cur, -, -, -, h5, h6, -⟩⟩ := h
 ·omega
 ·unfold maxLen at h6; omega
theorem FileOk.small (h : FileOk W F lo m f) : Small f := by
 refine ⟨?_, ?_, row_len h.top, fun e he => ?_, fun b hb => ?_⟩
 ·rw [← h.es, List.length_map]; exact row_len h.exprs
 ·rw [← h.bs, List.length_map]; exact row_len h.blocks
 ·rw [← h.es] at he
  obtain ⟨x, hx, rfl⟩ := List.mem_map.1 he
  exact ⟨row_len (h.eok x hx).args, row_len (h.eok x hx).keys⟩
 ·rw [← h.bs] at hb
  obtain ⟨x, hx, rfl⟩ := List.mem_map.1 hb
  exact ⟨row_len (h.bok x hx).labels, row_len (h.bok x hx).attrs, row_len (h.bok x hx).blocks⟩
end
end Go.Proofs.YtljgggohjigaoaaGreatDoor
