/- Values in new memory; the keys' clone -/
import Derived.Test.YtblldoniagiboaaGreatDoorJl07
namespace Go.Proofs.YtblldoniagiboaaGreatDoor
open Go.RowKit
set_option linter.unusedVariables false

/-- A list of strings in blocks from lo on, below B. -/
def StrsF (lo B : Nat) (W : World) (v : Value) (ks : List ByteArray) : Prop := ∃ ad cap, v = .slice ad ks.length cap ∧ ks.length ≤ cap ∧ ks.length ≤ 140737488355328 ∧ (0 < ks.length → ∃ g o, ad = some ⟨g, o, none⟩ ∧ lo ≤ g ∧ g < B ∧ (∀ j (h : j < ks.length), W.cell? ⟨g, o + j, none⟩ = some (.string ks[j])) ∧ ∀ j, j < ks.length → W.frozen? ⟨g, o + j, none⟩ = false)
theorem cell_same {W W' : World} {g : Nat} (h : W'.heap[g]? = W.heap[g]?) (o : Nat) : W'.cell? ⟨g, o, none⟩ = W.cell? ⟨g, o, none⟩ := by
  simp [World.cell?, h]
theorem thaw_same {W W' : World} {g : Nat} (h : W'.heap[g]? = W.heap[g]?) (o : Nat) : W'.frozen? ⟨g, o, none⟩ = W.frozen? ⟨g, o, none⟩ := by
  simp [World.frozen?, h]
theorem StrsF.keep {lo lo' B B' : Nat} {W W' : World} {v : Value} {ks : List ByteArray} (h : StrsF lo B W v ks) (hs : ∀ g, lo ≤ g → g < B → W'.heap[g]? = W.heap[g]?) (hl : lo' ≤ lo) (hB : B ≤ B') : StrsF lo' B' W' v ks := by
  obtain ⟨ad, cap, h1, h2, h3, h4⟩ := h
  refine ⟨ad, cap, h1, h2, h3, fun hp => ?_⟩
  obtain ⟨g, o, h5, h6, h7, h8, h9⟩ := h4 hp
  exact ⟨g, o, h5, by omega, by omega, fun j hj => (cell_same (hs g h6 h7) _).trans (h8 j hj), fun j hj => (thaw_same (hs g h6 h7) _).trans (h9 j hj)⟩
theorem StrsF.at {lo B : Nat} {W : World} {v : Value} {ks : List ByteArray} (h : StrsF lo B W v ks) : StrsAt B W v ks := by
  obtain ⟨ad, cap, h1, h2, h3, h4⟩ := h
  refine ⟨ad, cap, h1, h2, h3, fun hp => ?_⟩
  obtain ⟨g, o, h5, h6, h7, h8, -⟩ := h4 hp
  exact ⟨g, o, h5, h7, h8⟩

/-- The value v is the tree, its memory in blocks from lo on, below B. -/
inductive Fresh (lo B : Nat) (W : World) : Value → VT → Prop where
  | mk (k : Int) (b : Bool) (t : ByteArray) (its : List VT) (ks : List ByteArray) (ad : Option Addr) (cap : Nat) (kv : Value) (g o : Nat) (ik : Nat → Int) (ib : Nat → Bool) (it : Nat → ByteArray) (ii iv : Nat → Value)
      (hk : StrsF lo B W kv ks) (hc : its.length ≤ cap) (hn : its.length ≤ 140737488355328)
      (ha : 0 < its.length → ad = some ⟨g, o, none⟩ ∧ lo ≤ g ∧ g < B)
      (hcell : ∀ j, j < its.length → Five W g (o + j * 5) (.int .i64 (ik j)) (.bool (ib j)) (.string (it j)) (ii j) (iv j))
      (hthaw : ∀ j i, j < its.length → i < 5 → W.frozen? ⟨g, o + j * 5 + i, none⟩ = false)
      (hrec : ∀ j (h : j < its.length), Fresh lo B W (.agg #[.int .i64 (ik j), .bool (ib j), .string (it j), ii j, iv j]) its[j]) :
      Fresh lo B W (.agg #[.int .i64 k, .bool b, .string t, .slice ad its.length cap, kv]) (.node k b t its ks)
theorem Fresh.at {lo B : Nat} {W : World} {v : Value} {T : VT} (h : Fresh lo B W v T) : Is B W v T := by
  induction h with
  | mk k b t its ks ad cap kv g o ik ib it ii iv hk hc hn ha hcell hthaw hrec ih =>
    exact Is.mk k b t its ks ad cap kv g o ik ib it ii iv hk.at hc hn (fun hp => ⟨(ha hp).1, (ha hp).2.2⟩) hcell ih
theorem Five.same {W W' : World} {g o : Nat} {c0 c1 c2 c3 c4 : Value} (h : Five W g o c0 c1 c2 c3 c4) (hs : W'.heap[g]? = W.heap[g]?) : Five W' g o c0 c1 c2 c3 c4 :=
  ⟨(cell_same hs _).trans h.1, (cell_same hs _).trans h.2.1, (cell_same hs _).trans h.2.2.1, (cell_same hs _).trans h.2.2.2.1, (cell_same hs _).trans h.2.2.2.2⟩
theorem Fresh.keep {lo lo' B B' : Nat} {W W' : World} {v : Value} {T : VT} (h : Fresh lo B W v T) (hs : ∀ g, lo ≤ g → g < B → W'.heap[g]? = W.heap[g]?) (hl : lo' ≤ lo) (hB : B ≤ B') : Fresh lo' B' W' v T := by
  induction h with
  | mk k b t its ks ad cap kv g o ik ib it ii iv hk hc hn ha hcell hthaw hrec ih =>
    exact Fresh.mk k b t its ks ad cap kv g o ik ib it ii iv (hk.keep hs hl hB) hc hn (fun hp => ⟨(ha hp).1, by have := (ha hp).2; omega, by have := (ha hp).2; omega⟩) (fun j hj => (hcell j hj).same (hs g (ha (by omega)).2.1 (ha (by omega)).2.2)) (fun j i hj hi => (thaw_same (hs g (ha (by omega)).2.1 (ha (by omega)).2.2) _).trans (hthaw j i hj hi)) ih
theorem Fresh.shape {lo B : Nat} {W : World} {v : Value} {T : VT} (h : Fresh lo B W v T) : ∃ k b t ad n cap adk nk capk, v = .agg #[.int .i64 k, .bool b, .string t, .slice ad n cap, .slice adk nk capk] := h.at.shape

/-- Nothing in the tree is long. -/
def smallT : VT → Prop
  | .node _ _ _ its ks => its.length ≤ 1000000 ∧ ks.length ≤ 1000000 ∧ ∀ x ∈ its, smallT x
theorem smallT_node {k : Int} {b : Bool} {t : ByteArray} {its : List VT} {ks : List ByteArray} : smallT (.node k b t its ks) ↔ its.length ≤ 1000000 ∧ ks.length ≤ 1000000 ∧ ∀ x ∈ its, smallT x := by
  conv => lhs; unfold smallT

/-- The keys' clone. -/
def ClonesKeys (ks : List ByteArray) (W : World) (e : Ending) (w' : World) : Prop := ∃ kv', e = .returned kv' ∧ StrsF W.heap.size w'.heap.size w' kv' ks ∧ Below W.heap.size W w'

theorem cloneKeys_any {B : Nat} {w : World} {kv : Value} {ks : List ByteArray} (hk : StrsAt B w kv ks) (hs : ks.length ≤ 1000000) (W : World) (hb : Below B w W) (hBW : B ≤ W.heap.size) : Calls Tryz.prog 208 #[kv] W (ClonesKeys ks W) := by
  obtain ⟨ad, cap, rfl, hc, hl, hp⟩ := hk
  cases ad with
  | none =>
    have h0 : ks.length = 0 := by
      rcases Nat.eq_zero_or_pos ks.length with h | h
      · exact h
      · obtain ⟨_, _, h', _⟩ := hp h; cases h'
    obtain rfl : ks = [] := List.length_eq_zero_iff.1 h0
    refine (Tryz.slices_Clone_string_nil _ _ W).mono ?_
    rintro e w' ⟨rfl, rfl⟩
    exact ⟨_, rfl, ⟨none, 0, rfl, by simp, by simp, fun h => absurd h (by simp)⟩, Below.refl _ _⟩
  | some a =>
    rcases Nat.eq_zero_or_pos ks.length with h | h
    · obtain rfl : ks = [] := List.length_eq_zero_iff.1 h
      refine (Tryz.slices_Clone_string_zero a _ W).mono ?_
      rintro e w' ⟨v', rfl, hown, -, hb'⟩
      obtain ⟨-, ⟨rfl, -⟩ | ⟨g, cap', cur, rfl, -⟩⟩ := hown
      · exact ⟨_, rfl, ⟨none, 0, rfl, by simp, by simp, fun h => absurd h (by simp)⟩, hb'⟩
      · exact ⟨_, rfl, ⟨_, cap', rfl, by simp, by simp, fun h => absurd h (by simp)⟩, hb'⟩
    · obtain ⟨g, o, h1, h2, h3⟩ := hp h
      cases h1
      have hcon := Tryz.slices_Clone_string g o ks.length cap ks W (Nat.le_refl _) (by omega) (fun j hj => by
        have := (hb.cell (p := ⟨g, o + j, none⟩) h2).trans (h3 j hj)
        rw [this]
        simp [List.getD, hj])
      refine hcon.mono ?_
      rintro e w' ⟨v', rfl, hown, -, hb'⟩
      obtain ⟨hx, ⟨rfl, h0⟩ | ⟨g', cap', cur, rfl, hg', hblk, hnc, hcm, hcs, htk⟩⟩ := hown
      · omega
      · refine ⟨_, rfl, ⟨_, cap', rfl, hnc, hl, fun _ => ⟨g', 0, rfl, hg', (Array.getElem?_eq_some_iff.1 hblk).1, fun j hj => ?_, fun j hj => by simp [World.frozen?, hblk]⟩⟩, hb'⟩
        have hcj : cur[0 + j]? = some (.string ks[j]) := by
          have h4 : (cur.toList.take (ks.length * 1))[j]? = ((ks.take ks.length).map Value.string)[j]? := by rw [htk]
          rw [List.getElem?_take_of_lt (by omega), List.take_length, List.getElem?_map, List.getElem?_eq_getElem hj, Array.getElem?_toList] at h4
          rw [Nat.zero_add, h4]; rfl
        simp only [World.cell?, hblk]
        first | exact hcj | simpa using hcj
end Go.Proofs.YtblldoniagiboaaGreatDoor
