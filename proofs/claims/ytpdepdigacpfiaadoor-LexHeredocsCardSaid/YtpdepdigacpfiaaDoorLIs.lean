/- Is: a diagnosis as told; a row of tokens, as it is read. -/
import Derived.Test.YtpdepdigacpfiaaDoorLScan
namespace Go.Proofs.YtpdepdigacpfiaaDoor
open Go.RowKit Go.Shelf
set_option linter.unusedVariables false

set_option maxRecDepth 100000 in
theorem is_same {W : World} {D : Nat} {c p : Int} (h : Blk W D #[.int .i64 c, .string ⟨#[]⟩, .int .i64 p] 29) (hc : c ≠ 0) : Calls Tryd.prog 10 #[.pointer (some ⟨D, 0, none⟩), .int .i64 c, .int .i64 p] W fun e w' => e = .returned (.bool true) ∧ Below W.heap.size W w' := by
  have c0 := h.cell 0
  have c1 := h.cell 1
  have c2 := h.cell 2
  have q0 : (c == 0) = false := beq_eq_false_iff_ne.2 hc
  have q1 : (c == c) = true := beq_self_eq_true c
  have q2 : (p == p) = true := beq_self_eq_true p
  clear hc h
  go_enter Tryd.func10, Tryd.ntmps10
  go_wp2
  go_ret
  exact ⟨rfl, Below.refl _ _⟩

/-- A slice of tokens, and what can be read of it. -/
def Row (W : World) (v : Value) (l : List Tk) : Prop := ∃ g cap, v = .slice (some ⟨g, 0, none⟩) l.length cap ∧ g < W.heap.size ∧ ∀ j u, (tkCells l)[j]? = some u → W.cell? ⟨g, j, none⟩ = some u
theorem Row.of {W : World} {B n : Nat} {v : Value} {l : List Tk} (h : W.ownsRow B 32 3 v n (tkCells l)) (hn : n = l.length) (h0 : 0 < n) : Row W v l := by
  subst hn
  rcases h.2 with ⟨rfl, h2⟩ | ⟨g, cap, cur, rfl, h3, h4, h5⟩
  · have : l.length = 0 := by simpa using h2
    omega
  · exact ⟨g, cap, rfl, (Array.getElem?_eq_some_iff.1 h4).1, fun j u hj => by have := World.ownsRow.cells h (g := g) rfl j u hj; rwa [show (⟨g, 0, none⟩ : Addr).add j = ⟨g, j, none⟩ by unfold Addr.add; split <;> simp_all] at this⟩
theorem Row.below {W W' : World} {v : Value} {l : List Tk} (h : Row W v l) (hb : Below W.heap.size W W') : Row W' v l := by
  obtain ⟨g, cap, rfl, hg, hc⟩ := h
  exact ⟨g, cap, rfl, Nat.lt_of_lt_of_le hg hb.size, fun j u hj => cells_keep hb (hc j u hj)⟩
theorem tkCells_at : ∀ (l : List Tk) (i k : Nat) (t : Tk) (u : Value), l[i]? = some t → k < 3 → t.cells[k]? = some u → (tkCells l)[3 * i + k]? = some u
  | [], i, k, t, u, h, _, _ => by cases h
  | t0 :: l, 0, k, t, u, h, hk, hu => by
    simp at h
    subst h
    show (t0.cells ++ tkCells l)[3 * 0 + k]? = _
    rw [List.getElem?_append_left (by simpa [Tk.cells] using hk)]
    simpa using hu
  | t0 :: l, i + 1, k, t, u, h, hk, hu => by
    show (t0.cells ++ tkCells l)[3 * (i + 1) + k]? = _
    rw [List.getElem?_append_right (by simp [Tk.cells]; omega)]
    have := tkCells_at l i k t u (by simpa using h) hk hu
    rw [show 3 * (i + 1) + k - t0.cells.length = 3 * i + k by simp [Tk.cells]; omega]
    exact this
/-- What Scan answers where all is well, and where it isn't. -/
theorem scan_ok {W : World} {t : ByteArray} {l : List Tk} (hW : Ready W) (h : scanL t = .ok l) : Calls Tryd.prog 8 #[.string t] W fun e w' => ∃ v, e = .returned (.tuple #[v, .pointer none]) ∧ Row w' v (l ++ [⟨0, ⟨#[]⟩, t.size⟩]) ∧ Below W.heap.size W w' := by
  refine (scan_any t hW).mono ?_
  rintro e w' ⟨hb, ⟨l', v, hr, rfl, ho⟩ | ⟨c, p, D, hr, -⟩⟩
  · rw [h] at hr
    cases hr
    exact ⟨v, rfl, Row.of ho (by simp) (by omega), hb⟩
  · rw [h] at hr; cases hr
theorem scan_err {W : World} {t : ByteArray} {c : Int} {p : Nat} (hW : Ready W) (h : scanL t = .error (c, p)) : Calls Tryd.prog 8 #[.string t] W fun e w' => ∃ D, e = .returned (.tuple #[.slice none 0 0, .pointer (some ⟨D, 0, none⟩)]) ∧ Blk w' D #[.int .i64 c, .string ⟨#[]⟩, .int .i64 (p : Int)] 29 ∧ Below W.heap.size W w' := by
  refine (scan_any t hW).mono ?_
  rintro e w' ⟨hb, ⟨l', v, hr, -⟩ | ⟨c', p', D, hr, rfl, hD, hbl⟩⟩
  · rw [h] at hr; cases hr
  · rw [h] at hr
    cases hr
    exact ⟨D, rfl, hbl, hb⟩
end Go.Proofs.YtpdepdigacpfiaaDoor
