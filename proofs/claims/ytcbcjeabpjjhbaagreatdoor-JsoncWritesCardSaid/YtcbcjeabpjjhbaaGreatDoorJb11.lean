/- value.Object of any items: what it has made -/
import Derived.Test.YtcbcjeabpjjhbaaGreatDoorJb08
import Derived.Test.YtcbcjeabpjjhbaaGreatDoorJb09
namespace Go.Proofs.YtcbcjeabpjjhbaaGreatDoor
open Go.RowKit Go.Sort Go.Shelf
set_option linter.unusedVariables false

def keyL (ks : List ByteArray) (ps : List Nat) (k : Nat) : List ByteArray := (ps.take k).map fun p => ks.getD p ⟨#[]⟩
theorem keyL_strings (ks : List ByteArray) (ps : List Nat) (k : Nat) : (keyL ks ps k).map Value.string = keysOf ks ps k := by unfold keyL keysOf; rw [List.map_map]; rfl
theorem keyL_length {ks : List ByteArray} {ps : List Nat} {k : Nat} (h : k ≤ ps.length) : (keyL ks ps k).length = k := by unfold keyL; simp; omega
theorem keyL_succ {ks : List ByteArray} {ps : List Nat} {k : Nat} (h : k < ps.length) : keyL ks ps (k + 1) = keyL ks ps k ++ [ks.getD (ps.getD k 0) ⟨#[]⟩] := by unfold keyL; rw [take_more h, List.map_append]; rfl
def noTree : VT := .node 0 false ⟨#[]⟩ [] []
def treeL (Ts : List VT) (ps : List Nat) (k : Nat) : List VT := (ps.take k).map fun p => Ts.getD p noTree
theorem treeL_succ {Ts : List VT} {ps : List Nat} {k : Nat} (h : k < ps.length) : treeL Ts ps (k + 1) = treeL Ts ps k ++ [Ts.getD (ps.getD k 0) noTree] := by unfold treeL; rw [take_more h, List.map_append]; rfl
/-- An item in memory of its own, behind block L. -/
def FarIt (L : Nat) (wr : World) (kv iv : Value) (e : It) : Prop := ∃ lo hi, L < lo ∧ hi ≤ wr.heap.size ∧ Fresh lo hi wr e.val e.T ∧ (∀ g, kv.ownBlock = some g → g < lo ∨ hi ≤ g) ∧ (∀ g, iv.ownBlock = some g → g < lo ∨ hi ≤ g)
theorem FarIt.go {L : Nat} {wr W' : World} {kv iv kv' iv' : Value} {e : It} (h : FarIt L wr kv iv e) (hs : wr.heap.size ≤ W'.heap.size) (hkeep : ∀ g, L < g → g < wr.heap.size → some g ≠ kv.ownBlock → some g ≠ iv.ownBlock → W'.heap[g]? = wr.heap[g]?) (hk : ∀ g, kv'.ownBlock = some g → kv.ownBlock = some g ∨ wr.heap.size ≤ g) (hi : ∀ g, iv'.ownBlock = some g → iv.ownBlock = some g ∨ wr.heap.size ≤ g) : FarIt L W' kv' iv' e := by
  obtain ⟨lo, hh, h1, h2, h3, h4, h5⟩ := h
  refine ⟨lo, hh, h1, by omega, h3.keep (fun g a b => hkeep g (by omega) (by omega) (fun e => by have := h4 g e.symm; omega) (fun e => by have := h5 g e.symm; omega)) (Nat.le_refl _) (Nat.le_refl _), fun g e => ?_, fun g e => ?_⟩
  · rcases hk g e with h | h
    · exact h4 g h
    · exact .inr (by omega)
  · rcases hi g e with h | h
    · exact h5 g h
    · exact .inr (by omega)
def placeF (w : World) (ps : List Nat) (a : Addr) (u : Value) : Prop := ∃ j, j < ps.length ∧ a = ⟨w.heap.size + 3, j, none⟩ ∧ u = .int .i64 ((ps.getD j 0 : Nat) : Int)
/-- What Object has made: nk keys, ni items yy. -/
structure ObjSt (w wr : World) (ks : List ByteArray) (Ts : List VT) (ps : List Nat) (nk ni : Nat) (kv iv : Value) (yy : List It) : Prop where
  grow : GrowAt w wr w.heap.size (w.heap.size + 1) (w.heap.size + 3) (placeF w ps) (keyL ks ps nk) yy kv iv
  klen : nk ≤ ps.length
  len : yy.length = ni
  trees : yy.map It.T = treeL Ts ps ni
  far : ∀ e ∈ yy, FarIt (w.heap.size + 3) wr kv iv e
section
variable {w wr : World} {ks : List ByteArray} {Ts : List VT} {ps : List Nat} {nk ni : Nat} {kv iv : Value} {yy : List It}
theorem ObjSt.keys (h : ObjSt w wr ks Ts ps nk ni kv iv yy) : wr.ownsRow w.heap.size 9 1 kv nk (keysOf ks ps nk) := by
  have := h.grow.keys
  rwa [keyL_length h.klen, keyL_strings] at this
theorem ObjSt.items (h : ObjSt w wr ks Ts ps nk ni kv iv yy) : wr.ownsRow w.heap.size 26 5 iv ni (yy.flatMap It.cells) := by
  have := h.grow.items
  rwa [h.len] at this
theorem ObjSt.places (h : ObjSt w wr ks Ts ps nk ni kv iv yy) (j : Nat) (hj : j < ps.length) : wr.cell? ⟨w.heap.size + 3, j, none⟩ = some (.int .i64 ((ps.getD j 0 : Nat) : Int)) := h.grow.fix _ _ ⟨j, hj, rfl, rfl⟩
theorem ObjSt.later {W : World} (h : ObjSt w wr ks Ts ps nk ni kv iv yy) (hb : Below wr.heap.size wr W) : ObjSt w W ks Ts ps nk ni kv iv yy :=
  ⟨h.grow.later hb, h.klen, h.len, h.trees, fun e he => (h.far e he).go hb.size (fun g _ hg _ _ => hb.block g hg) (fun g e => .inl e) (fun g e => .inl e)⟩
theorem ObjSt.drewN (h : ObjSt w wr ks Ts ps nk ni kv iv yy) (n : Nat) : ObjSt w (wr.drewN n) ks Ts ps nk ni kv iv yy := h.later ⟨rfl, rfl, rfl, Nat.le_refl _, fun _ _ => rfl⟩
theorem ObjSt.drew (h : ObjSt w wr ks Ts ps nk ni kv iv yy) : ObjSt w wr.drew ks Ts ps nk ni kv iv yy := h.later ⟨rfl, rfl, rfl, Nat.le_refl _, fun _ _ => rfl⟩
theorem ObjSt.key {w3 : World} {g2 cap2 : Nat} {t : ByteArray} {t' : TypeId} (h : ObjSt w wr ks Ts ps nk ni kv iv yy) (hn : nk < ps.length) (ht : ks.getD (ps.getD nk 0) ⟨#[]⟩ = t)
    (hown : w3.ownsRow w.heap.size 9 1 (.slice (some ⟨g2, 0, none⟩) (nk + 1) cap2) (nk + 1) (keysOf ks ps nk ++ [.string t])) (hg : (wr.alloc (.cells #[.string t] t')).grownBy w3 kv.ownBlock) (hat : kv.ownBlock = some g2 ∨ g2 = (wr.alloc (.cells #[.string t] t')).heap.size) (hlt : g2 < w3.heap.size) :
    ObjSt w (w3.setCell ⟨w.heap.size + 1, 4, none⟩ (.slice (some ⟨g2, 0, none⟩) (nk + 1) cap2)) ks Ts ps (nk + 1) ni (.slice (some ⟨g2, 0, none⟩) (nk + 1) cap2) iv yy := by
  have hsz : (wr.alloc (.cells #[.string t] t')).heap.size = wr.heap.size + 1 := by simp
  have hl := keyL_length (ks := ks) h.klen
  have hgr := h.grow.key (by rw [hl, keyL_strings]; exact hown) hg hat hlt
  rw [hl] at hgr
  refine ⟨by rw [keyL_succ hn, ht]; exact hgr, by omega, h.len, h.trees, fun e he => (h.far e he).go ?_ (fun g hLg hgs hk1 hi1 => ?_) (fun g e => ?_) (fun g e => .inl e)⟩
  · have := hg.size; simp; omega
  · rw [Below.heap_setCell _ _ _ _ (by show g ≠ w.heap.size + 1; omega), hg.block g (by omega) hk1]
    exact (below_new wr _).block g hgs
  · obtain rfl : g2 = g := Option.some.inj e
    rcases hat with h | h
    · exact .inl h
    · exact .inr (by omega)
theorem ObjSt.item {wc w3 : World} {g2 cap2 : Nat} {e : It} {a' : Array Value} {t' : TypeId} (h0 : ObjSt w wr ks Ts ps nk ni kv iv yy) (hb : Below wr.heap.size wr wc) (hf : Fresh wr.heap.size wc.heap.size wc e.val e.T) (hn : ni < ps.length) (ht : Ts.getD (ps.getD ni 0) noTree = e.T)
    (hown : w3.ownsRow w.heap.size 26 5 (.slice (some ⟨g2, 0, none⟩) (ni + 1) cap2) (ni + 1) (yy.flatMap It.cells ++ e.cells)) (hg : (wc.alloc (.cells a' t')).grownBy w3 iv.ownBlock) (hat : iv.ownBlock = some g2 ∨ g2 = (wc.alloc (.cells a' t')).heap.size) (hlt : g2 < w3.heap.size) :
    ObjSt w (w3.setCell ⟨w.heap.size + 1, 3, none⟩ (.slice (some ⟨g2, 0, none⟩) (ni + 1) cap2)) ks Ts ps nk (ni + 1) kv (.slice (some ⟨g2, 0, none⟩) (ni + 1) cap2) (yy ++ [e]) := by
  have h := h0.later hb
  have hsz : (wc.alloc (.cells a' t')).heap.size = wc.heap.size + 1 := by simp
  have hL := h0.grow.size
  have hgr := h.grow.item (e := e) (by rw [h.len]; exact hown) hg hat hlt
  rw [h.len] at hgr
  have hkeep : ∀ g, w.heap.size + 3 < g → g < wc.heap.size → some g ≠ iv.ownBlock → (w3.setCell ⟨w.heap.size + 1, 3, none⟩ (.slice (some ⟨g2, 0, none⟩) (ni + 1) cap2)).heap[g]? = wc.heap[g]? := fun g hLg hgs hi1 => by
    rw [Below.heap_setCell _ _ _ _ (by show g ≠ w.heap.size + 1; omega), hg.block g (by omega) hi1]
    exact (below_new wc _).block g hgs
  have hsize : wc.heap.size ≤ (w3.setCell ⟨w.heap.size + 1, 3, none⟩ (.slice (some ⟨g2, 0, none⟩) (ni + 1) cap2)).heap.size := by have := hg.size; simp; omega
  have hio : ∀ g, iv.ownBlock = some g → g < wr.heap.size := fun g e => (World.ownsRow.lt h0.grow.items g e).2
  have hko : ∀ g, kv.ownBlock = some g → g < wr.heap.size := fun g e => (World.ownsRow.lt h0.grow.keys g e).2
  refine ⟨hgr, h.klen, by rw [List.length_append, h.len]; rfl, by rw [List.map_append, h.trees, treeL_succ hn, ht]; rfl, fun x hx => ?_⟩
  rcases List.mem_append.1 hx with hx | hx
  · exact (h.far x hx).go hsize (fun g a b _ c => hkeep g a b c) (fun g e => .inl e) (fun g e => by
      obtain rfl : g2 = g := Option.some.inj e
      rcases hat with h | h
      · exact .inl h
      · exact .inr (by omega))
  · rw [List.mem_singleton] at hx
    subst hx
    refine ⟨wr.heap.size, wc.heap.size, hL, hsize, hf.keep (fun g a b => hkeep g (by omega) b (fun e => by have := hio g e.symm; omega)) (Nat.le_refl _) (Nat.le_refl _), fun g e => .inl (hko g e), fun g e => ?_⟩
    obtain rfl : g2 = g := Option.some.inj e
    rcases hat with h | h
    · exact .inl (hio _ h)
    · exact .inr (by omega)
end
/-- A row of strings in new memory. -/
theorem strsF_row2 {lo : Nat} {W : World} {v : Value} {ks : List ByteArray} (h : W.ownsRow lo 9 1 v ks.length (ks.map Value.string)) (hn : ks.length ≤ 140737488355328) : StrsF lo W.heap.size W v ks := by
  obtain ⟨hx, ⟨rfl, h0⟩ | ⟨g, cap, cur, rfl, hg, hblk, hnc, hcm, hcs, htk⟩⟩ := id h
  · exact ⟨none, 0, by rw [h0], by omega, hn, fun hp => by omega⟩
  · refine ⟨_, cap, rfl, hnc, hn, fun _ => ⟨g, 0, rfl, hg, (Array.getElem?_eq_some_iff.1 hblk).1, fun j hj => ?_, fun j hj => by simp [World.frozen?, hblk]⟩⟩
    have := World.ownsRow.cells h (g := g) rfl j (.string ks[j]) (by rw [List.getElem?_map, List.getElem?_eq_getElem hj]; rfl)
    rwa [Lib.add_plain] at this
theorem itemsF_of_row {lo : Nat} {W : World} {ad : Option Addr} {cap : Nat} {yy : List It} (h : W.ownsRow lo 26 5 (.slice ad yy.length cap) yy.length (yy.flatMap It.cells)) (hsm : yy.length ≤ 1000000) (hf : ∀ e ∈ yy, Fresh lo W.heap.size W e.val e.T) : ItemsF lo W.heap.size W ad cap (yy.map It.T) := by
  have hl : (yy.map It.T).length = yy.length := by simp
  rcases Nat.eq_zero_or_pos yy.length with h0 | h0
  · obtain rfl : yy = [] := List.length_eq_zero_iff.1 h0
    exact ⟨by simp, 0, 0, fun _ => 0, fun _ => false, fun _ => ⟨#[]⟩, fun _ => undef, fun _ => undef, fun h => absurd h (by simp), fun j h => absurd h (by simp), fun j i h => absurd h (by simp), fun j h => absurd h (by simp)⟩
  · obtain ⟨hx, ⟨e1, h2⟩ | ⟨g, cap', cur, e1, hg, hblk, hnc, hcm, hcs, htk⟩⟩ := id h
    · omega
    · cases e1
      have e0 : It := yy[0]
      have hit := items_of_row (B := lo) (W := W) (v := .slice (some ⟨g, 0, none⟩) yy.length cap) h (by omega) (fun e he => (hf e he).at)
      obtain ⟨ad2, cap2, e2, -, -, h4, -⟩ := hit
      cases e2
      obtain ⟨g2, o2, e3, -, h8⟩ := h4 h0
      cases e3
      refine ⟨by rw [hl]; exact hnc, g, 0, fun j => (yy.getD j e0).k, fun j => (yy.getD j e0).b, fun j => (yy.getD j e0).t, fun j => (yy.getD j e0).x, fun j => (yy.getD j e0).y, fun _ => ⟨rfl, hg, (Array.getElem?_eq_some_iff.1 hblk).1⟩, fun j hj => ?_, fun j i _ _ => by simp [World.frozen?, hblk], fun j hj => ?_⟩
      · rw [hl] at hj
        have := h8 j hj
        show Five W g (0 + j * 5) (.int .i64 (yy.getD j e0).k) (.bool (yy.getD j e0).b) (.string (yy.getD j e0).t) (yy.getD j e0).x (yy.getD j e0).y
        rw [show yy.getD j e0 = yy[j] by simp [List.getD, hj]]
        exact this
      · have hj' := hj
        rw [hl] at hj'
        show Fresh lo W.heap.size W (.agg #[.int .i64 (yy.getD j e0).k, .bool (yy.getD j e0).b, .string (yy.getD j e0).t, (yy.getD j e0).x, (yy.getD j e0).y]) _
        rw [show yy.getD j e0 = yy[j] by simp [List.getD, hj'], List.getElem_map]
        exact hf _ (List.getElem_mem hj')
/-- The object, stored into the result. -/
theorem ObjSt.done5 {w wr : World} {ks : List ByteArray} {Ts : List VT} {ps : List Nat} {k : Nat} {adk adi : Option Addr} {capk capi : Nat} {yy : List It} (h : ObjSt w wr ks Ts ps k k (.slice adk k capk) (.slice adi k capi) yy) (hk : k ≤ 1000000) :
    Fresh w.heap.size (set5 wr w.heap.size 0 (.int .i64 6) (.bool false) (.string ⟨#[]⟩) (.slice adi k capi) (.slice adk k capk)).heap.size (set5 wr w.heap.size 0 (.int .i64 6) (.bool false) (.string ⟨#[]⟩) (.slice adi k capi) (.slice adk k capk)) (.agg #[.int .i64 6, .bool false, .string ⟨#[]⟩, .slice adi k capi, .slice adk k capk]) (.node 6 false ⟨#[]⟩ (treeL Ts ps k) (keyL ks ps k)) := by
  have hr := h.grow.ranks
  have hsz := set5_size wr w.heap.size 0 (.int .i64 6) (.bool false) (.string ⟨#[]⟩) (.slice adi k capi) (.slice adk k capk)
  have hk5 := row_set5 h.grow.keys w.heap.size (.int .i64 6) (.bool false) (.string ⟨#[]⟩) (.slice adi k capi) (.slice adk k capk) (fun e => by have := h.grow.kfar _ e; omega)
  have hi5 := row_set5 h.grow.items w.heap.size (.int .i64 6) (.bool false) (.string ⟨#[]⟩) (.slice adi k capi) (.slice adk k capk) (fun e => by have := h.grow.ifar _ e; omega)
  have hoth : ∀ g, g ≠ w.heap.size → (set5 wr w.heap.size 0 (.int .i64 6) (.bool false) (.string ⟨#[]⟩) (.slice adi k capi) (.slice adk k capk)).heap[g]? = wr.heap[g]? := fun g hg => set5_other wr w.heap.size 0 _ _ _ _ _ hg
  obtain ⟨W, hW⟩ : ∃ W, set5 wr w.heap.size 0 (.int .i64 6) (.bool false) (.string ⟨#[]⟩) (.slice adi k capi) (.slice adk k capk) = W := ⟨_, rfl⟩
  have hk5' : W.ownsRow w.heap.size 9 1 (.slice adk k capk) (keyL ks ps k).length ((keyL ks ps k).map Value.string) := by rw [← hW]; exact hk5
  have hi5' : W.ownsRow w.heap.size 26 5 (.slice adi k capi) yy.length (yy.flatMap It.cells) := by rw [← hW]; exact hi5
  rw [hW] at hoth hsz ⊢
  have hkl := keyL_length (ks := ks) h.klen
  have hs := strsF_row2 hk5' (by omega)
  have hl := h.len
  have hi : ItemsF w.heap.size W.heap.size W adi capi (yy.map It.T) := itemsF_of_row (by rw [hl]; have := hi5'; rw [hl] at this; exact this) (by omega) (fun e he => by
    obtain ⟨lo, hh, h1, h2, h3, -, -⟩ := h.far e he
    exact h3.keep (fun g a b => hoth g (by omega)) (by omega) (by omega))
  have htl : (treeL Ts ps k).length = k := by rw [← h.trees, List.length_map, hl]
  rw [h.trees] at hi
  have := fresh_of (k := 6) (b := false) (t := ⟨#[]⟩) (lo0 := w.heap.size) (w3 := W) hs hi (by omega) (fun g _ _ => rfl) (fun g _ _ => rfl) (Nat.le_refl _) (Nat.le_refl _) (Nat.le_refl _) (Nat.le_refl _)
  rw [htl] at this
  exact this
end Go.Proofs.YtcbcjeabpjjhbaaGreatDoor
