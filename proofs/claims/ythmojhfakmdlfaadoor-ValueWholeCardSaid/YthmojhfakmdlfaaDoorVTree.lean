/- Values as trees, in memory. -/
import Derived.Test.YthmojhfakmdlfaaDoorVSearch
namespace Go.Proofs.YthmojhfakmdlfaaDoor
open Go.RowKit
set_option linter.unusedVariables false

/-- A value: its kind, its truth, its text, its items, its keys. -/
inductive VT where
  | node (k : Int) (b : Bool) (t : ByteArray) (its : List VT) (ks : List ByteArray)

def VT.its : VT → List VT | .node _ _ _ l _ => l
/-- The cells of an element of five. -/
def Five (W : World) (g o : Nat) (c0 c1 c2 c3 c4 : Value) : Prop := W.cell? ⟨g, o, none⟩ = some c0 ∧ W.cell? ⟨g, o + 1, none⟩ = some c1 ∧ W.cell? ⟨g, o + 2, none⟩ = some c2 ∧ W.cell? ⟨g, o + 3, none⟩ = some c3 ∧ W.cell? ⟨g, o + 4, none⟩ = some c4
theorem Five.below {B : Nat} {W W' : World} {g o : Nat} {c0 c1 c2 c3 c4 : Value} (h : Five W g o c0 c1 c2 c3 c4) (hg : g < B) (hb : Below B W W') : Five W' g o c0 c1 c2 c3 c4 :=
  ⟨(hb.cell (p := ⟨g, o, none⟩) hg).trans h.1, (hb.cell (p := ⟨g, o + 1, none⟩) hg).trans h.2.1, (hb.cell (p := ⟨g, o + 2, none⟩) hg).trans h.2.2.1, (hb.cell (p := ⟨g, o + 3, none⟩) hg).trans h.2.2.2.1, (hb.cell (p := ⟨g, o + 4, none⟩) hg).trans h.2.2.2.2⟩

/-- The value v is the tree, its memory below block B. -/
inductive Is (B : Nat) (W : World) : Value → VT → Prop where
  | mk (k : Int) (b : Bool) (t : ByteArray) (its : List VT) (ks : List ByteArray) (ad : Option Addr) (cap : Nat) (kv : Value) (g o : Nat) (ik : Nat → Int) (ib : Nat → Bool) (it : Nat → ByteArray) (ii iv : Nat → Value)
      (hk : StrsAt B W kv ks) (hc : its.length ≤ cap) (hn : its.length ≤ 140737488355328)
      (ha : 0 < its.length → ad = some ⟨g, o, none⟩ ∧ g < B)
      (hcell : ∀ j, j < its.length → Five W g (o + j * 5) (.int .i64 (ik j)) (.bool (ib j)) (.string (it j)) (ii j) (iv j))
      (hrec : ∀ j (h : j < its.length), Is B W (.agg #[.int .i64 (ik j), .bool (ib j), .string (it j), ii j, iv j]) its[j]) :
      Is B W (.agg #[.int .i64 k, .bool b, .string t, .slice ad its.length cap, kv]) (.node k b t its ks)

theorem Is.later {B : Nat} {W W' : World} {v : Value} {T : VT} (h : Is B W v T) (hb : Below B W W') : Is B W' v T := by
  induction h with
  | mk k b t its ks ad cap kv g o ik ib it ii iv hk hc hn ha hcell hrec ih =>
    exact Is.mk k b t its ks ad cap kv g o ik ib it ii iv (hk.below hb) hc hn ha (fun j hj => (hcell j hj).below (ha (by omega)).2 hb) (fun j hj => ih j hj)
theorem Is.wide {B B' : Nat} {W : World} {v : Value} {T : VT} (h : Is B W v T) (hB : B ≤ B') : Is B' W v T := by
  induction h with
  | mk k b t its ks ad cap kv g o ik ib it ii iv hk hc hn ha hcell hrec ih =>
    exact Is.mk k b t its ks ad cap kv g o ik ib it ii iv (hk.mono hB) hc hn (fun hp => ⟨(ha hp).1, Nat.lt_of_lt_of_le (ha hp).2 hB⟩) hcell ih
/-- A value's shape. -/
theorem Is.shape {B : Nat} {W : World} {v : Value} {T : VT} (h : Is B W v T) : ∃ k b t ad n cap adk nk capk, v = .agg #[.int .i64 k, .bool b, .string t, .slice ad n cap, .slice adk nk capk] := by
  cases h with
  | mk k b t its ks ad cap kv g o ik ib it ii iv hk hc hn ha hcell hrec =>
    obtain ⟨adk, capk, rfl, -⟩ := hk
    exact ⟨k, b, t, ad, _, cap, adk, _, capk, rfl⟩

/-! ### What the document asks of a tree -/
mutual
/-- How many values. -/
def sizeT : VT → Nat
  | .node _ _ _ its _ => 1 + sizeL its
def sizeL : List VT → Nat
  | [] => 0
  | x :: l => sizeT x + sizeL l
end
mutual
/-- No deeper than n? -/
def deepT (n : Nat) : VT → Bool
  | .node _ _ _ its _ => match n with | 0 => false | m + 1 => deepL m its
def deepL (n : Nat) : List VT → Bool
  | [] => true
  | x :: l => deepT n x && deepL n l
end
/-- Keys rising, none too long. -/
def keysOk : List ByteArray → Bool
  | [] => true
  | [a] => decide (a.size ≤ 16384)
  | a :: b :: l => decide (a.size ≤ 16384) && bLt a b && keysOk (b :: l)
/-- Just what the kind needs, its items aside. -/
def aloneT : VT → Bool
  | .node k b t its ks => (!b || k == 2) && (if k = 0 ∨ k = 1 ∨ k = 2 then t.toList == [] && its.isEmpty && ks.isEmpty else if k = 3 then goodB t.data.toList && its.isEmpty && ks.isEmpty else if k = 4 then decide (t.size ≤ 16384) && its.isEmpty && ks.isEmpty else if k = 5 then t.toList == [] && ks.isEmpty else if k = 6 then t.toList == [] && decide (ks.length = its.length) && keysOk ks else false)
mutual
def plainT : VT → Bool
  | .node k b t its ks => aloneT (.node k b t its ks) && plainL its
def plainL : List VT → Bool
  | [] => true
  | x :: l => plainT x && plainL l
end
end Go.Proofs.YthmojhfakmdlfaaDoor
