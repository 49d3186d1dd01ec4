/- purlinref02.Clone: what it has made -/
import Derived.Test.YtjgbhnbfojkhoaaGreatDoorOw19
namespace Go.Proofs.YtjgbhnbfojkhoaaGreatDoor
open Go.RowKit Go.Sort Go.Shelf
set_option linter.unusedVariables false

/-- What Clone has made: the box's block P, the result's R; the items so far. -/
structure CloSt (w wr : World) (P R L : Nat) (c0 c1 c2 kv iv : Value) (ks : List ByteArray) (yy : List It) : Prop where
  box : Blk wr P #[c0, c1, c2, iv, kv] 26
  res : Blk wr R nil5 26
  keys : StrsF w.heap.size (L + 1) wr kv ks
  items : wr.ownsRow w.heap.size 26 5 iv yy.length (yy.flatMap It.cells)
  far : ∀ e ∈ yy, FarIt L wr (.slice none 0 0) iv e
  below : Below w.heap.size w wr
  ifar : ∀ g, iv.ownBlock = some g → L < g
  size : L < wr.heap.size
  ranks : w.heap.size ≤ P ∧ P ≤ L ∧ w.heap.size ≤ R ∧ R ≤ L ∧ P ≠ R

section
variable {w wr : World} {P R L : Nat} {c0 c1 c2 kv iv : Value} {ks : List ByteArray} {yy : List It}
theorem CloSt.later {W : World} (h : CloSt w wr P R L c0 c1 c2 kv iv ks yy) (hb : Below wr.heap.size wr W) : CloSt w W P R L c0 c1 c2 kv iv ks yy :=
  ⟨h.box.below hb, h.res.below hb, h.keys.keep (fun g _ hg => hb.block g (Nat.lt_of_lt_of_le hg h.size)) (Nat.le_refl _) (Nat.le_refl _), row_below h.items hb, fun e he => (h.far e he).go hb.size (fun g _ hg _ _ => hb.block g hg) (fun g e => .inl e) (fun g e => .inl e), h.below.trans (hb.mono h.below.size), h.ifar, Nat.lt_of_lt_of_le h.size hb.size, h.ranks⟩
theorem CloSt.drew (h : CloSt w wr P R L c0 c1 c2 kv iv ks yy) : CloSt w wr.drew P R L c0 c1 c2 kv iv ks yy := h.later ⟨rfl, rfl, rfl, Nat.le_refl _, fun _ _ => rfl⟩
theorem CloSt.drewN (h : CloSt w wr P R L c0 c1 c2 kv iv ks yy) (n : Nat) : CloSt w (wr.drewN n) P R L c0 c1 c2 kv iv ks yy := h.later ⟨rfl, rfl, rfl, Nat.le_refl _, fun _ _ => rfl⟩
/-- Keys apart from the box: a block that is stored into is none of theirs. -/
theorem StrsF.set {lo B : Nat} {W : World} {v : Value} {ks : List ByteArray} (h : StrsF lo B W v ks) (p : Addr) (u : Value) (hp : ∀ g o n c, v = .slice (some ⟨g, o, none⟩) n c → 0 < ks.length → g ≠ p.block) : StrsF lo B (W.setCell p u) v ks := by
  obtain ⟨ad, cap, rfl, h2, h3, h4⟩ := h
  refine ⟨ad, cap, rfl, h2, h3, fun h0 => ?_⟩
  obtain ⟨g, o, rfl, h5, h6, h7, h8⟩ := h4 h0
  have hn := hp g o _ _ rfl h0
  have hs := Below.heap_setCell W p u g hn
  exact ⟨g, o, rfl, h5, h6, fun j hj => (cell_same hs _).trans (h7 j hj), fun j hj => (thaw_same hs _).trans (h8 j hj)⟩
end
/-- One item more. -/
theorem CloSt.item {w wr wc w3 : World} {P R L : Nat} {c0 c1 c2 kv iv : Value} {ks : List ByteArray} {yy : List It} {ni : Nat} {g2 cap2 : Nat} {e : It} {a' : Array Value} {t' : TypeId} (h0 : CloSt w wr P R L c0 c1 c2 kv iv ks yy) (hn : yy.length = ni) (hkP : ∀ g o n c, kv = .slice (some ⟨g, o, none⟩) n c → 0 < ks.length → g ≠ P) (hb : Below wr.heap.size wr wc) (hf : Fresh wr.heap.size wc.heap.size wc e.val e.T)
    (hown : w3.ownsRow w.heap.size 26 5 (.slice (some ⟨g2, 0, none⟩) (ni + 1) cap2) (ni + 1) (yy.flatMap It.cells ++ e.cells)) (hg : (wc.alloc (.cells a' t')).grownBy w3 iv.ownBlock) (hat : iv.ownBlock = some g2 ∨ g2 = (wc.alloc (.cells a' t')).heap.size) (hlt : g2 < w3.heap.size) :
    CloSt w (w3.setCell ⟨P, 3, none⟩ (.slice (some ⟨g2, 0, none⟩) (ni + 1) cap2)) P R L c0 c1 c2 kv (.slice (some ⟨g2, 0, none⟩) (ni + 1) cap2) ks (yy ++ [e]) := by
  have h := h0.later hb
  have hsz : (wc.alloc (.cells a' t')).heap.size = wc.heap.size + 1 := by simp
  have hL := h0.size
  have hr := h.ranks
  have hs := h.size
  have hbl := h.below.size
  have hal : Below wc.heap.size wc (wc.alloc (.cells a' t')) := below_new _ _
  have hD2 : L < g2 := by
    rcases hat with h1 | h1
    · exact h.ifar _ h1
    · omega
  have hgs := hg.size
  have hkeep3 : ∀ g, g < wc.heap.size → some g ≠ iv.ownBlock → w3.heap[g]? = wc.heap[g]? := fun g hgs hi1 => by
    rw [hg.block g (by omega) hi1]
    exact hal.block g hgs
  have hkeep : ∀ g, g ≠ P → g < wc.heap.size → some g ≠ iv.ownBlock → (w3.setCell ⟨P, 3, none⟩ (.slice (some ⟨g2, 0, none⟩) (ni + 1) cap2)).heap[g]? = wc.heap[g]? := fun g hLg hgs hi1 => by
    rw [Below.heap_setCell _ _ _ _ (by show g ≠ P; omega)]
    exact hkeep3 g hgs hi1
  have hsize : wc.heap.size ≤ (w3.setCell ⟨P, 3, none⟩ (.slice (some ⟨g2, 0, none⟩) (ni + 1) cap2)).heap.size := by simp; omega
  have hio : ∀ g, iv.ownBlock = some g → g < wr.heap.size := fun g e => (World.ownsRow.lt h0.items g e).2
  have hO : Blk w3 P #[c0, c1, c2, iv, kv] 26 := (h.box.below hal).grows hg (ne_row h.ifar (by omega))
  have hR : Blk w3 R nil5 26 := (h.res.below hal).grows hg (ne_row h.ifar (by omega))
  have hb3 : Below w.heap.size w w3 := below_grows (h.below.alloc hbl _) hg (by rw [hsz]; omega) (fun g e => by have := h.ifar g e; omega)
  have hbx := hO.set 3 (.slice (some ⟨g2, 0, none⟩) (ni + 1) cap2)
  have hk3 : StrsF w.heap.size (L + 1) w3 kv ks := h.keys.keep (fun g _ hgl => hkeep3 g (by omega) (fun e => by have := h.ifar g e.symm; omega)) (Nat.le_refl _) (Nat.le_refl _)
  refine ⟨by simpa using hbx, hR.other (p := ⟨P, 3, none⟩) (by show R ≠ P; omega) _, hk3.set _ _ (fun g o n c e h0 => hkP g o n c e h0), ?_, fun x hx => ?_, hb3.setCell (p := ⟨P, 3, none⟩) (by show _ ≤ P; omega) _, fun g e => ?_, by simp; omega, hr⟩
  · rw [List.length_append, List.flatMap_append, hn]
    simp only [List.flatMap_cons, List.flatMap_nil, List.append_nil]
    exact row_set hown _ _ (by intro e; cases e; omega)
  · rcases List.mem_append.1 hx with hx | hx
    · exact (h.far x hx).go hsize (fun g a b _ c => hkeep g (by omega) b c) (fun g e => .inl e) (fun g e => by
        obtain rfl : g2 = g := Option.some.inj e
        rcases hat with h | h
        · exact .inl h
        · exact .inr (by omega))
    · rw [List.mem_singleton] at hx
      subst hx
      refine ⟨wr.heap.size, wc.heap.size, hL, hsize, hf.keep (fun g a b => hkeep g (by omega) b (fun e => by have := hio g e.symm; omega)) (Nat.le_refl _) (Nat.le_refl _), fun g e => (by cases e), fun g e => ?_⟩
      obtain rfl : g2 = g := Option.some.inj e
      rcases hat with h | h
      · exact .inl (hio _ h)
      · exact .inr (by omega)
  · cases e; exact hD2
/-- What is answered, stored into the result. -/
theorem CloSt.done {w wr : World} {P R L : Nat} {k : Int} {b : Bool} {t : ByteArray} {kv : Value} {adi : Option Addr} {capi : Nat} {ks : List ByteArray} {yy : List It} (h : CloSt w wr P R L (.int .i64 k) (.bool b) (.string t) kv (.slice adi yy.length capi) ks yy) (hk : yy.length ≤ 1000000) (hkR : ∀ g o n c, kv = .slice (some ⟨g, o, none⟩) n c → 0 < ks.length → g ≠ R) :
    Fresh w.heap.size (set5 wr R 0 (.int .i64 k) (.bool b) (.string t) (.slice adi yy.length capi) kv).heap.size (set5 wr R 0 (.int .i64 k) (.bool b) (.string t) (.slice adi yy.length capi) kv) (.agg #[.int .i64 k, .bool b, .string t, .slice adi yy.length capi, kv]) (.node k b t (yy.map It.T) ks) := by
  have hr := h.ranks
  have hsz := set5_size wr R 0 (.int .i64 k) (.bool b) (.string t) (.slice adi yy.length capi) kv
  have hi5 := row_set5 h.items R (.int .i64 k) (.bool b) (.string t) (.slice adi yy.length capi) kv (fun e => by have := h.ifar _ e; omega)
  have hoth : ∀ g, g ≠ R → (set5 wr R 0 (.int .i64 k) (.bool b) (.string t) (.slice adi yy.length capi) kv).heap[g]? = wr.heap[g]? := fun g hg => set5_other wr R 0 _ _ _ _ _ hg
  have hks5 : StrsF w.heap.size (L + 1) (set5 wr R 0 (.int .i64 k) (.bool b) (.string t) (.slice adi yy.length capi) kv) kv ks := ((((h.keys.set ⟨R, 0, none⟩ _ hkR).set ⟨R, 1, none⟩ _ hkR).set ⟨R, 2, none⟩ _ hkR).set ⟨R, 3, none⟩ _ hkR).set ⟨R, 4, none⟩ _ hkR
  obtain ⟨W, hW⟩ : ∃ W, set5 wr R 0 (.int .i64 k) (.bool b) (.string t) (.slice adi yy.length capi) kv = W := ⟨_, rfl⟩
  have hi5' : W.ownsRow w.heap.size 26 5 (.slice adi yy.length capi) yy.length (yy.flatMap It.cells) := by rw [← hW]; exact hi5
  rw [hW] at hoth hsz hks5 ⊢
  have hs := h.size
  have hi : ItemsF w.heap.size W.heap.size W adi capi (yy.map It.T) := itemsF_of_row hi5' (by omega) (fun e he => by
    obtain ⟨lo, hh, h1, h2, h3, -, -⟩ := h.far e he
    exact h3.keep (fun g a b => hoth g (by omega)) (by omega) (by omega))
  have htl : (yy.map It.T).length = yy.length := by simp
  have := fresh_of (k := k) (b := b) (t := t) (lo0 := w.heap.size) (w3 := W) hks5 hi (by omega) (fun g _ _ => rfl) (fun g _ _ => rfl) (Nat.le_refl _) (Nat.le_refl _) (by omega) (Nat.le_refl _)
  rw [htl] at this
  exact this
end Go.Proofs.YtjgbhnbfojkhoaaGreatDoor
