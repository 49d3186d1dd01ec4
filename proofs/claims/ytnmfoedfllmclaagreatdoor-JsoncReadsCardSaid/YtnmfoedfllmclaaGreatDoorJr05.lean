/- Clone and cloneAll of any value · placesInOrder: the closure; the places of keys, sorted · Places of at most 12 keys, sorted -/
import Derived.OwnWalk
import Derived.Deep.QuietTactic
import Derived.BigQuiet
import Derived.Lib.OwnBridge
import Derived.Test.YtnmfoedfllmclaaGreatDoorJr02
import Derived.Test.YtnmfoedfllmclaaGreatDoorJr03
import Derived.Test.YtnmfoedfllmclaaGreatDoorJr04
namespace Go.Proofs.YtnmfoedfllmclaaGreatDoor
open Go.RowKit
set_option linter.unusedVariables false

theorem infoVal : (Tryz.prog.info? 26).map (fun i => (i.zero, i.size, i.bytes)) = some (some (.agg nil5), 5, 80) := by kernel_rfl

/-- What Clone answers. -/
def Clones (T : VT) (W : World) (e : Ending) (w' : World) : Prop := ∃ v', e = .returned v' ∧ Fresh W.heap.size w'.heap.size w' v' T ∧ Below W.heap.size W w'
/-- A row of items in new memory. -/
def ItemsF (lo B : Nat) (W : World) (ad : Option Addr) (cap : Nat) (its : List VT) : Prop :=
  its.length ≤ cap ∧ ∃ (g o : Nat) (ik : Nat → Int) (ib : Nat → Bool) (it : Nat → ByteArray) (ii iv : Nat → Value), (0 < its.length → ad = some ⟨g, o, none⟩ ∧ lo ≤ g ∧ g < B) ∧
    (∀ j, j < its.length → Five W g (o + j * 5) (.int .i64 (ik j)) (.bool (ib j)) (.string (it j)) (ii j) (iv j)) ∧
    (∀ j i, j < its.length → i < 5 → W.frozen? ⟨g, o + j * 5 + i, none⟩ = false) ∧
    (∀ j (h : j < its.length), Fresh lo B W (.agg #[.int .i64 (ik j), .bool (ib j), .string (it j), ii j, iv j]) its[j])
/-- What cloneAll answers. -/
def ClonesAll (its : List VT) (W : World) (e : Ending) (w' : World) : Prop := ∃ ad cap, e = .returned (.slice ad its.length cap) ∧ ItemsF W.heap.size w'.heap.size w' ad cap its ∧ Below W.heap.size W w'

/-- The first j items are cloned into block G. -/
def Cloned (G : Nat) (its : List VT) (W : World) (j : Nat) (cur : Array Value) : Prop :=
  ∀ i (h : i < its.length), i < j → ∃ k b t x y, cur[i * 5]? = some (.int .i64 k) ∧ cur[i * 5 + 1]? = some (.bool b) ∧ cur[i * 5 + 2]? = some (.string t) ∧ cur[i * 5 + 3]? = some x ∧ cur[i * 5 + 4]? = some y ∧ Fresh (G + 1) W.heap.size W (.agg #[.int .i64 k, .bool b, .string t, x, y]) its[i]
def CloneSt (G : Nat) (its : List VT) (W : World) (j : Nat) : Prop := ∃ cur, Blk W G cur 26 ∧ cur.size = its.length * 5 ∧ Cloned G its W j cur

def put5 (cur : Array Value) (i : Nat) (a0 a1 a2 a3 a4 : Value) : Array Value := ((((cur.setIfInBounds i a0).setIfInBounds (i + 1) a1).setIfInBounds (i + 2) a2).setIfInBounds (i + 3) a3).setIfInBounds (i + 4) a4
theorem put5_size (cur : Array Value) (i : Nat) (a0 a1 a2 a3 a4 : Value) : (put5 cur i a0 a1 a2 a3 a4).size = cur.size := by simp [put5]
theorem put5_far {cur : Array Value} {i q : Nat} {a0 a1 a2 a3 a4 : Value} (h : q < i ∨ i + 4 < q) : (put5 cur i a0 a1 a2 a3 a4)[q]? = cur[q]? := by
  unfold put5
  rw [Array.getElem?_setIfInBounds_ne (by omega), Array.getElem?_setIfInBounds_ne (by omega), Array.getElem?_setIfInBounds_ne (by omega), Array.getElem?_setIfInBounds_ne (by omega), Array.getElem?_setIfInBounds_ne (by omega)]
theorem put5_at {cur : Array Value} {i : Nat} {a0 a1 a2 a3 a4 : Value} (h : i + 4 < cur.size) : (put5 cur i a0 a1 a2 a3 a4)[i]? = some a0 ∧ (put5 cur i a0 a1 a2 a3 a4)[i + 1]? = some a1 ∧ (put5 cur i a0 a1 a2 a3 a4)[i + 2]? = some a2 ∧ (put5 cur i a0 a1 a2 a3 a4)[i + 3]? = some a3 ∧ (put5 cur i a0 a1 a2 a3 a4)[i + 4]? = some a4 := by
  unfold put5
  refine ⟨?_, ?_, ?_, ?_, ?_⟩ <;> simp [Array.getElem?_setIfInBounds] <;> omega
theorem Blk.put5 {W : World} {G : Nat} {cur : Array Value} {t : TypeId} (h : Blk W G cur t) (i : Nat) (a0 a1 a2 a3 a4 : Value) : Blk (((((W.setCell ⟨G, i, none⟩ a0).setCell ⟨G, i + 1, none⟩ a1).setCell ⟨G, i + 2, none⟩ a2).setCell ⟨G, i + 3, none⟩ a3).setCell ⟨G, i + 4, none⟩ a4) G (put5 cur i a0 a1 a2 a3 a4) t :=
  ((((h.set i a0).set (i + 1) a1).set (i + 2) a2).set (i + 3) a3).set (i + 4) a4
def set5 (W : World) (G i : Nat) (a0 a1 a2 a3 a4 : Value) : World := ((((W.setCell ⟨G, i, none⟩ a0).setCell ⟨G, i + 1, none⟩ a1).setCell ⟨G, i + 2, none⟩ a2).setCell ⟨G, i + 3, none⟩ a3).setCell ⟨G, i + 4, none⟩ a4
theorem set5_other (W : World) (G i : Nat) (a0 a1 a2 a3 a4 : Value) {g : Nat} (h : g ≠ G) : (set5 W G i a0 a1 a2 a3 a4).heap[g]? = W.heap[g]? := by
  unfold set5
  rw [Below.heap_setCell _ _ _ _ h, Below.heap_setCell _ _ _ _ h, Below.heap_setCell _ _ _ _ h, Below.heap_setCell _ _ _ _ h, Below.heap_setCell _ _ _ _ h]
theorem set5_size (W : World) (G i : Nat) (a0 a1 a2 a3 a4 : Value) : (set5 W G i a0 a1 a2 a3 a4).heap.size = W.heap.size := by simp [set5]
theorem below_set5at {lo : Nat} {w W : World} {G : Nat} (h : Below lo w W) (hG : lo ≤ G) (i : Nat) (b0 b1 b2 b3 b4 : Value) : Below lo w (set5 W G i b0 b1 b2 b3 b4) :=
  ((((h.setCell (p := ⟨G, i, none⟩) hG b0).setCell (p := ⟨G, i + 1, none⟩) hG b1).setCell (p := ⟨G, i + 2, none⟩) hG b2).setCell (p := ⟨G, i + 3, none⟩) hG b3).setCell (p := ⟨G, i + 4, none⟩) hG b4

/-- One item more. -/
theorem clone_step {G : Nat} {its : List VT} {W W1 W2 : World} {j : Nat} (hj : j < its.length) (h : CloneSt G its W j) (hb1 : Below W.heap.size W W1) (hb2 : Below W1.heap.size W1 W2) {k : Int} {b : Bool} {t : ByteArray} {x y : Value} (hf : Fresh W1.heap.size W2.heap.size W2 (.agg #[.int .i64 k, .bool b, .string t, x, y]) its[j]) :
    CloneSt G its (set5 W2 G (j * 5) (.int .i64 k) (.bool b) (.string t) x y) (j + 1) := by
  obtain ⟨cur, hk, hsz, hc⟩ := h
  have hGW : G < W.heap.size := hk.lt
  have hk2 : Blk W2 G cur 26 := (hk.below hb1).below hb2
  have hs1 := hb1.size
  have hs2 := hb2.size
  have hjs : j * 5 + 4 < cur.size := by omega
  have hp := put5_at (a0 := .int .i64 k) (a1 := .bool b) (a2 := .string t) (a3 := x) (a4 := y) hjs
  refine ⟨put5 cur (j * 5) (.int .i64 k) (.bool b) (.string t) x y, hk2.put5 _ _ _ _ _ _, by rw [put5_size]; exact hsz, fun i hi hij => ?_⟩
  rw [set5_size]
  rcases Nat.eq_or_lt_of_le (show i ≤ j by omega) with e | e
  · subst e
    exact ⟨k, b, t, x, y, hp.1, hp.2.1, hp.2.2.1, hp.2.2.2.1, hp.2.2.2.2, hf.keep (fun g h1 h2 => set5_other _ _ _ _ _ _ _ _ (by omega)) (by omega) (Nat.le_refl _)⟩
  · obtain ⟨k', b', t', x', y', h0, h1, h2, h3, h4, h5⟩ := hc i hi e
    refine ⟨k', b', t', x', y', (put5_far (by omega)).trans h0, (put5_far (by omega)).trans h1, (put5_far (by omega)).trans h2, (put5_far (by omega)).trans h3, (put5_far (by omega)).trans h4, h5.keep (fun g hg1 hg2 => ?_) (Nat.le_refl _) (by omega)⟩
    rw [set5_other _ _ _ _ _ _ _ _ (by omega), hb2.block g (by omega), hb1.block g hg2]

theorem clone_done {G : Nat} {its : List VT} {W : World} {lo cap : Nat} (h : CloneSt G its W its.length) (hlo : lo ≤ G) (hc : its.length ≤ cap) : ItemsF lo W.heap.size W (some ⟨G, 0, none⟩) cap its := by
  obtain ⟨cur, hk, hsz, hcl⟩ := h
  have hall : ∀ i, ∃ p : Int × Bool × ByteArray × Value × Value, ∀ h : i < its.length, cur[i * 5]? = some (.int .i64 p.1) ∧ cur[i * 5 + 1]? = some (.bool p.2.1) ∧ cur[i * 5 + 2]? = some (.string p.2.2.1) ∧ cur[i * 5 + 3]? = some p.2.2.2.1 ∧ cur[i * 5 + 4]? = some p.2.2.2.2 ∧ Fresh (G + 1) W.heap.size W (.agg #[.int .i64 p.1, .bool p.2.1, .string p.2.2.1, p.2.2.2.1, p.2.2.2.2]) its[i] := fun i => by
    by_cases hi : i < its.length
    · obtain ⟨k, b, t, x, y, hh⟩ := hcl i hi hi
      exact ⟨(k, b, t, x, y), fun _ => hh⟩
    · exact ⟨(0, false, ⟨#[]⟩, undef, undef), fun h => absurd h hi⟩
  obtain ⟨f, hf⟩ := Classical.skolem.1 hall
  refine ⟨hc, G, 0, fun j => (f j).1, fun j => (f j).2.1, fun j => (f j).2.2.1, fun j => (f j).2.2.2.1, fun j => (f j).2.2.2.2, fun _ => ⟨rfl, hlo, hk.lt⟩, fun j hj => ?_, fun j i _ _ => hk.frozen _, fun j hj => ?_⟩
  · obtain ⟨h0, h1, h2, h3, h4, -⟩ := hf j hj
    rw [Nat.zero_add]
    exact ⟨(hk.cell _).trans h0, (hk.cell _).trans h1, (hk.cell _).trans h2, (hk.cell _).trans h3, (hk.cell _).trans h4⟩
  · exact (hf j hj).2.2.2.2.2.keep (fun _ _ _ => rfl) (by omega) (Nat.le_refl _)

set_option maxRecDepth 100000 in
set_option maxHeartbeats 4000000 in
theorem cloneAll_of {B : Nat} {w : World} {its : List VT} {ad : Option Addr} {cap g o : Nat} {ik : Nat → Int} {ib : Nat → Bool} {it : Nat → ByteArray} {ii iv : Nat → Value} (hsm : its.length ≤ 1000000)
    (ha : 0 < its.length → ad = some ⟨g, o, none⟩ ∧ g < B)
    (hcell : ∀ j, j < its.length → Five w g (o + j * 5) (.int .i64 (ik j)) (.bool (ib j)) (.string (it j)) (ii j) (iv j))
    (hrec : ∀ j (h : j < its.length), Is B w (.agg #[.int .i64 (ik j), .bool (ib j), .string (it j), ii j, iv j]) its[j])
    (ih : ∀ j (h : j < its.length) (W : World), Below B w W → B ≤ W.heap.size → Calls Tryz.prog 102 #[.agg #[.int .i64 (ik j), .bool (ib j), .string (it j), ii j, iv j]] W (Clones its[j] W)) :
    ∀ (W : World), Below B w W → B ≤ W.heap.size → Calls Tryz.prog 100 #[.slice ad its.length cap] W (ClonesAll its W) := by
  intro W hb hBW
  obtain ⟨i0, hi, hz0, hz1, hz2⟩ := info_parts infoVal
  have HA := Lib.hid ha
  have HC := Lib.hid hcell
  have IH := Lib.hid ih
  have HIS := Lib.hid hrec
  obtain ⟨len, hlen⟩ : ∃ len, its.length = len := ⟨_, rfl⟩
  have HL := Lib.hid hlen
  rw [hlen] at hsm ⊢
  clear ha hcell ih hrec hlen
  cases ad with
  | none =>
    have h0 : len = 0 := by
      rcases Nat.eq_zero_or_pos len with h | h
      · exact h
      · have := (HA.out (by have := HL.out; omega)).1; cases this
    subst h0
    have he : ∀ W : World, (binOp .eql 23 (.slice none 0 cap) (.slice none 0 0)).run Tryz.prog W = .ok (.bool true) W := fun _ => rfl
    go_enter Tryz.func100, Tryz.ntmps100
    go_wp2
    go_ret
    have hl := HL.out
    exact ⟨none, 0, by rw [hl]; rfl, ⟨by omega, 0, 0, fun _ => 0, fun _ => false, fun _ => ⟨#[]⟩, fun _ => undef, fun _ => undef, fun h => by omega, fun j h => by omega, fun j i h => by omega, fun j h => by omega⟩, Below.refl _ _⟩
  | some a =>
    have he : ∀ W : World, (binOp .eql 23 (.slice (some a) len cap) (.slice none 0 0)).run Tryz.prog W = .ok (.bool false) W := fun _ => rfl
    go_enter Tryz.func100, Tryz.ntmps100
    go_wp2_with (at_make; refine wpList_make_full _ rfl _ _ 23 rfl W.heap.size 26 i0 (.agg nil5) 5 Tryz.underlying23 hi hz0 hz1 .i64 .i64 len len len rfl rfl rfl rfl (by rw [hz2]; omega) (by unfold maxLen; omega) (by simp) ?_; intro w1 hown1 hgrow1)
    have hb1 := (Below.refl W.heap.size W).grown hgrow1 (Nat.le_refl _) (fun k hk => by cases hk)
    have hst : CloneSt W.heap.size its w1 0 := by
      obtain ⟨hx, ⟨h, -⟩ | ⟨g', cap', cur, h, -, hblk, -, -, hsz, -⟩⟩ := hown1
      · cases h
      · cases h
        exact ⟨cur, hblk, by rw [hsz, HL.out], fun i _ h => by omega⟩
    have HST := Lib.hid hst
    have HB1 := Lib.hid hb1
    clear hst hb1 hown1 hgrow1 he
    go_loopw [4, 13] (fun _ jv wr => ∃ j : Nat, jv = .int .i64 j ∧ j ≤ len ∧ Hid (CloneSt W.heap.size its wr j) ∧ Hid (Below W.heap.size W wr)) (fun _ jv _ => len - (intOf jv).toNat)
    case atStart => exact ⟨0, rfl, by omega, HST, HB1⟩
    case round =>
      obtain ⟨j, rfl, hj, HS, HB⟩ := hrel
      clear HST HB1
      by_cases hlt : j < len
      · have hjl : j < its.length := by have := HL.out; omega
        obtain ⟨ea, hg⟩ := HA.out (by omega)
        cases ea
        have hBr : Below B w wr := hb.trans (HB.out.mono hBW)
        have h5 := (HC.out j hjl).below hg hBr
        have e0 := h5.1
        have e1 := h5.2.1
        have e2 := h5.2.2.1
        have e3 := h5.2.2.2.1
        have e4 := h5.2.2.2.2
        have hIH := IH.out j hjl
        have i1 : (0 : Int) ≤ (j : Int) := by omega
        have i2 : (j : Int) < (len : Int) := by omega
        clear h5
        generalize hxi : ii j = vi at e3 hIH
        generalize hxv : iv j = vv at e4 hIH
        have hsh := (HIS.out j hjl).shape
        rw [hxi, hxv] at hsh
        obtain ⟨_, _, _, ai, ni, ci, ak, nk2, ck2, esh⟩ := hsh
        cases esh
        have hbi := below_new wr (.cells #[.int .i64 (ik j), .bool (ib j), .string (it j), .slice ai ni ci, .slice ak nk2 ck2] 26)
        have HCa := Lib.hid (hIH (wr.alloc (.cells #[.int .i64 (ik j), .bool (ib j), .string (it j), .slice ai ni ci, .slice ak nk2 ck2] 26)) (hBr.trans (hbi.mono (Nat.le_trans hBW HB.out.size))) (Nat.le_trans (Nat.le_trans hBW HB.out.size) hbi.size))
        have HBI := Lib.hid hbi
        have HBi := Lib.hid (HB.out.trans (hbi.mono HB.out.size))
        clear hIH hBr hbi
        go_wp2_with fail
        go_at_call 102; refine HCa.out.mono ?_; rintro e w2 ⟨v', rfl, hf, hb2⟩
        obtain ⟨k', b', t', ad', n', cap', adk', nk', capk', rfl⟩ := hf.shape
        have HF := Lib.hid hf
        have HB2 := Lib.hid (HBi.out.trans (hb2.mono HBi.out.size))
        have HNX := Lib.hid (clone_step hjl HS.out HBI.out hb2 hf)
        obtain ⟨cur, hcur, hcsz, -⟩ := HS.out
        have hcur2 : Blk w2 W.heap.size cur 26 := (hcur.below HBI.out).below hb2
        have hcl : j * 5 + 4 < cur.size := by omega
        have c0 := (hcur2.cell (j * 5)).trans (Array.getElem?_eq_getElem (by omega))
        have c1 := (hcur2.cell (j * 5 + 1)).trans (Array.getElem?_eq_getElem (by omega))
        have c2 := (hcur2.cell (j * 5 + 2)).trans (Array.getElem?_eq_getElem (by omega))
        have c3 := (hcur2.cell (j * 5 + 3)).trans (Array.getElem?_eq_getElem (by omega))
        have c4 := (hcur2.cell (j * 5 + 4)).trans (Array.getElem?_eq_getElem (by omega))
        generalize cur[j * 5] = x0 at c0
        generalize cur[j * 5 + 1] = x1 at c1
        generalize cur[j * 5 + 2] = x2 at c2
        generalize cur[j * 5 + 3] = x3 at c3
        generalize cur[j * 5 + 4] = x4 at c4
        have f0 := hcur2.frozen (j * 5)
        have f1 := hcur2.frozen (j * 5 + 1)
        have f2 := hcur2.frozen (j * 5 + 2)
        have f3 := hcur2.frozen (j * 5 + 3)
        have f4 := hcur2.frozen (j * 5 + 4)
        clear hf hb2 hcur hcur2 hcsz hcl e0 e1 e2 e3 e4
        go_wp2_with fail
        go_roundw
        case rel =>
          exact ⟨j + 1, by go_num, by omega, HNX, Lib.hid (below_set5at HB2.out (Nat.le_refl _) _ _ _ _ _ _)⟩
        case measure => simp [intOf]; omega
      · obtain rfl : j = len := by omega
        have HD : Hid (ItemsF W.heap.size wr.heap.size wr (some ⟨W.heap.size, 0, none⟩) j its) := Lib.hid (by
          have h1 := HS.out
          rw [← HL.out] at h1
          exact clone_done h1 (Nat.le_refl _) (by have := HL.out; omega))
        go_wp2
        go_ret
        exact ⟨_, _, by rw [HL.out]; rfl, HD.out, HB.out⟩

/-- The clone's fields, put together. -/
theorem fresh_of {lo0 lo1 lo2 B1 B2 : Nat} {w1 w2 w3 : World} {k : Int} {b : Bool} {t : ByteArray} {its : List VT} {ks : List ByteArray} {ad : Option Addr} {cap : Nat} {kv : Value} (hk : StrsF lo1 B1 w1 kv ks) (hi : ItemsF lo2 B2 w2 ad cap its) (hn : its.length ≤ 140737488355328)
    (h1 : ∀ g, lo1 ≤ g → g < B1 → w3.heap[g]? = w1.heap[g]?) (h2 : ∀ g, lo2 ≤ g → g < B2 → w3.heap[g]? = w2.heap[g]?) (hl1 : lo0 ≤ lo1) (hl2 : lo0 ≤ lo2) (hB1 : B1 ≤ w3.heap.size) (hB2 : B2 ≤ w3.heap.size) :
    Fresh lo0 w3.heap.size w3 (.agg #[.int .i64 k, .bool b, .string t, .slice ad its.length cap, kv]) (.node k b t its ks) := by
  obtain ⟨hc, g, o, ik, ib, it, ii, iv, ha, hcell, hth, hrec⟩ := hi
  exact Fresh.mk k b t its ks ad cap kv g o ik ib it ii iv (hk.keep h1 hl1 hB1) hc hn (fun hp => ⟨(ha hp).1, by have := (ha hp).2; omega, by have := (ha hp).2; omega⟩) (fun j hj => (hcell j hj).same (h2 g (ha (by omega)).2.1 (ha (by omega)).2.2)) (fun j i hj hi => (thaw_same (h2 g (ha (by omega)).2.1 (ha (by omega)).2.2) _).trans (hth j i hj hi)) (fun j hj => (hrec j hj).keep h2 hl2 hB2)

set_option maxRecDepth 100000 in
set_option maxHeartbeats 4000000 in
theorem clone_any {B : Nat} {w : World} {v : Value} {T : VT} (h : Is B w v T) : smallT T → ∀ (W : World), Below B w W → B ≤ W.heap.size → Calls Tryz.prog 102 #[v] W (Clones T W) := by
  induction h with
  | mk k b t its ks ad cap kv g o ik ib it ii iv hk hc hnl ha hcell hrec ih =>
    intro hsm W hb hBW
    obtain ⟨hs1, hs2, hs3⟩ := smallT_node.1 hsm
    have HKc := Lib.hid (fun W' (hb' : Below B w W') (hB' : B ≤ W'.heap.size) => cloneKeys_any hk hs2 W' hb' hB')
    have HAll := Lib.hid (fun W' (hb' : Below B w W') (hB' : B ≤ W'.heap.size) => cloneAll_of (cap := cap) hs1 ha hcell hrec (fun j hj => ih j hj (hs3 _ (List.getElem_mem hj))) W' hb' hB')
    obtain ⟨adk, capk, rfl, -⟩ := hk
    obtain ⟨len, hlen⟩ : ∃ len, its.length = len := ⟨_, rfl⟩
    obtain ⟨nk, hnk⟩ : ∃ nk, ks.length = nk := ⟨_, rfl⟩
    have HL := Lib.hid hlen
    have HN := Lib.hid hnk
    have HNL := Lib.hid hnl
    rw [hlen] at HAll ⊢
    rw [hnk] at HKc ⊢
    clear hsm hs1 hs2 hs3 ha hcell hrec ih hlen hnk hc hnl
    have en : nil5 = #[.int .i64 0, .bool false, .string ⟨#[]⟩, .slice none 0 0, .slice none 0 0] := rfl
    have hb0 := below_new W (.cells #[.int .i64 k, .bool b, .string t, .slice ad len cap, .slice adk nk capk] 26)
    have HB0 := Lib.hid (hb0.alloc hb0.size (.cells nil5 26))
    have HK0 := Lib.hid ((Blk.new W #[.int .i64 k, .bool b, .string t, .slice ad len cap, .slice adk nk capk] 26).alloc (.cells nil5 26))
    have hR := Blk.new (W.alloc (.cells #[.int .i64 k, .bool b, .string t, .slice ad len cap, .slice adk nk capk] 26)) nil5 26
    rw [show (W.alloc (.cells #[.int .i64 k, .bool b, .string t, .slice ad len cap, .slice adk nk capk] 26)).heap.size = W.heap.size + 1 by simp] at hR
    have HR0 := Lib.hid hR
    have HZ0 : Hid (((W.alloc (.cells #[.int .i64 k, .bool b, .string t, .slice ad len cap, .slice adk nk capk] 26)).alloc (.cells nil5 26)).heap.size = W.heap.size + 2) := Lib.hid (by simp)
    rw [en] at HB0 HK0 HR0 HZ0
    have HKc0 := Lib.hid (HKc.out _ (hb.trans (HB0.out.mono hBW)) (Nat.le_trans hBW HB0.out.size))
    clear hb0 hR HKc
    have HBb := Lib.hid hb
    have HBW := Lib.hid hBW
    clear hb hBW
    go_enter Tryz.func102, Tryz.ntmps102
    go_wp2_with fail
    go_at_call 112; refine HKc0.out.mono ?_; rintro e w1 ⟨kv', rfl, hsf, hb1⟩
    have hsf0 := hsf
    obtain ⟨adk', capk', rfl, -⟩ := hsf0
    rw [HN.out] at hsf ⊢
    have HSF := Lib.hid hsf
    have HBx1 := Lib.hid hb1
    have HB1 := Lib.hid (HB0.out.trans (hb1.mono HB0.out.size))
    have hk1 := HK0.out.below hb1
    have hr1 := HR0.out.below hb1
    have hk1s : Blk (w1.setCell ⟨W.heap.size, 4, none⟩ (.slice adk' nk capk')) W.heap.size #[.int .i64 k, .bool b, .string t, .slice ad len cap, .slice adk' nk capk'] 26 := by have := hk1.set 4 (.slice adk' nk capk'); simpa using this
    have hr1s := hr1.other (p := ⟨W.heap.size, 4, none⟩) (by show W.heap.size + 1 ≠ W.heap.size; omega) (.slice adk' nk capk')
    have HK1 := Lib.hid hk1s
    have HR1 := Lib.hid hr1s
    have HB1s := Lib.hid (HB1.out.setCell (p := ⟨W.heap.size, 4, none⟩) (Nat.le_refl _) (.slice adk' nk capk'))
    have HAl1 := Lib.hid (HAll.out _ (HBb.out.trans (HB1s.out.mono HBW.out)) (Nat.le_trans HBW.out HB1s.out.size))
    have c3 := hk1.cell 3
    have c4 := hk1.cell 4
    have f4 := hk1.frozen 4
    clear hsf hb1 hk1 hr1 hk1s hr1s HAll
    go_wp2_with fail
    go_at_call 100; refine HAl1.out.mono ?_; rintro e w2 ⟨ad', cap', rfl, hitf, hb2⟩
    rw [HL.out]
    have HIT := Lib.hid hitf
    have HBx2 := Lib.hid hb2
    have HB2 := Lib.hid (HB1s.out.trans (hb2.mono HB1s.out.size))
    have hk2 := HK1.out.below hb2
    have hr2 := HR1.out.below hb2
    have hk2s : Blk (w2.setCell ⟨W.heap.size, 3, none⟩ (.slice ad' len cap')) W.heap.size #[.int .i64 k, .bool b, .string t, .slice ad' len cap', .slice adk' nk capk'] 26 := by have := hk2.set 3 (.slice ad' len cap'); simpa using this
    have hr2s := hr2.other (p := ⟨W.heap.size, 3, none⟩) (by show W.heap.size + 1 ≠ W.heap.size; omega) (.slice ad' len cap')
    have HR2 := Lib.hid hr2s
    have q0 := hk2.cell 0
    have q1 := hk2.cell 1
    have q2 := hk2.cell 2
    have q3 := hk2.cell 3
    have q4 := hk2.cell 4
    have g3 := hk2.frozen 3
    have r0 := hr2.cell 0
    have r1 := hr2.cell 1
    have r2 := hr2.cell 2
    have r3 := hr2.cell 3
    have r4 := hr2.cell 4
    have s0 := hr2.frozen 0
    have s1 := hr2.frozen 1
    have s2 := hr2.frozen 2
    have s3 := hr2.frozen 3
    have s4 := hr2.frozen 4
    clear c3 c4 f4 hitf hb2 hk2 hr2 hk2s hr2s
    go_wp2_with fail
    have HR3 := HR2.out.set5 (.int .i64 k) (.bool b) (.string t) (.slice ad' len cap') (.slice adk' nk capk')
    have d0 := HR3.cell 0
    have d1 := HR3.cell 1
    have d2 := HR3.cell 2
    have d3 := HR3.cell 3
    have d4 := HR3.cell 4
    have HB3 := HB2.out.setCell (p := ⟨W.heap.size, 3, none⟩) (Nat.le_refl _) (.slice ad' len cap')
    have HB4 := below_set5 HB3 (B := W.heap.size + 1) (by omega) (.int .i64 k) (.bool b) (.string t) (.slice ad' len cap') (.slice adk' nk capk')
    have hfin : Clones (.node k b t its ks) W (.returned (.agg #[.int .i64 k, .bool b, .string t, .slice ad' len cap', .slice adk' nk capk'])) ((((((w2.setCell ⟨W.heap.size, 3, none⟩ (.slice ad' len cap')).setCell ⟨W.heap.size + 1, 0, none⟩ (.int .i64 k)).setCell ⟨W.heap.size + 1, 1, none⟩ (.bool b)).setCell ⟨W.heap.size + 1, 2, none⟩ (.string t)).setCell ⟨W.heap.size + 1, 3, none⟩ (.slice ad' len cap')).setCell ⟨W.heap.size + 1, 4, none⟩ (.slice adk' nk capk')) := by
      refine ⟨_, rfl, ?_, HB4⟩
      have hz := HZ0.out
      have hx1 := HBx1.out.size
      have hx2 := HBx2.out.size
      have hx2' : w1.heap.size ≤ w2.heap.size := by simpa using hx2
      have hI := HIT.out
      have hS := HSF.out
      rw [hz] at hS
      have hf := fresh_of (lo0 := W.heap.size) (k := k) (b := b) (t := t) (w3 := set5 (w2.setCell ⟨W.heap.size, 3, none⟩ (.slice ad' len cap')) (W.heap.size + 1) 0 (.int .i64 k) (.bool b) (.string t) (.slice ad' len cap') (.slice adk' nk capk')) hS hI HNL.out (fun g h1 h2 => by
          rw [set5_other _ _ _ _ _ _ _ _ (by omega), Below.heap_setCell _ _ _ _ (by show g ≠ W.heap.size; omega), HBx2.out.block g (by simpa using h2), Below.heap_setCell _ _ _ _ (by show g ≠ W.heap.size; omega)]) (fun g h1 h2 => by
          have h1' : w1.heap.size ≤ g := by simpa using h1
          rw [set5_other _ _ _ _ _ _ _ _ (by omega), Below.heap_setCell _ _ _ _ (by show g ≠ W.heap.size; omega)]) (by omega) (by simp; omega) (by rw [set5_size]; simpa using hx2) (by rw [set5_size]; simp)
      rw [HL.out] at hf
      exact hf
    refine bodyPost_ret (v := .agg #[.int .i64 k, .bool b, .string t, .slice ad' len cap', .slice adk' nk capk']) ?_ rfl hfin
    simp [results, Tryz.results102, go_sem, d0, d1, d2, d3, d4]
end Go.Proofs.YtnmfoedfllmclaaGreatDoor
namespace Go.Proofs.YtnmfoedfllmclaaGreatDoor
open Go.RowKit Go.Sort Go.Shelf
set_option linter.unusedVariables false

/-- How places are compared: by their keys. -/
def byKey (ks : List ByteArray) (x y : Fin ks.length) : Int := Lib.compareBytes ks[x].data.toList ks[y].data.toList

set_option maxRecDepth 100000 in
set_option maxHeartbeats 1000000 in
/-- The closure: in whatever world the variable holds the keys. -/
theorem closure_any {B C : Nat} {W : World} {kv : Value} {ks : List ByteArray} (x y : Fin ks.length) (hk : StrsAt B W kv ks) (hc : W.cell? ⟨C, 0, none⟩ = some kv) :
    Calls Tryz.prog 110 #[.int .i64 (x.val : Int), .int .i64 (y.val : Int), .pointer (some ⟨C, 0, none⟩)] W fun e w' => e = .returned (.int .i64 (byKey ks x y)) ∧ ∃ q, w' = W.drewN q := by
  obtain ⟨ad, cap, rfl, hnc, hcap, hs⟩ := hk
  obtain ⟨x, hx⟩ := x
  obtain ⟨y, hy⟩ := y
  obtain ⟨g, o, rfl, -, hcs⟩ := hs (by omega)
  have hcx := hcs x hx
  have hcy := hcs y hy
  have HB := Lib.hid (fun W => Tryz.strings_Compare ks[x] ks[y] W)
  have e : byKey ks ⟨x, hx⟩ ⟨y, hy⟩ = Lib.compareBytes ks[x].data.toList ks[y].data.toList := rfl
  rw [e]
  obtain ⟨kx, hkx⟩ : ∃ k, ks[x] = k := ⟨_, rfl⟩
  obtain ⟨ky, hky⟩ : ∃ k, ks[y] = k := ⟨_, rfl⟩
  rw [hkx] at hcx
  rw [hky] at hcy
  rw [hkx, hky] at HB
  simp only [hkx, hky]
  generalize Lib.compareBytes kx.data.toList ky.data.toList = z at HB ⊢
  obtain ⟨n, hn⟩ : ∃ n, ks.length = n := ⟨_, rfl⟩
  simp only [hn] at hx hy hnc hc ⊢
  have b1 : (0 : Int) ≤ (x : Int) := by omega
  have b2 : (x : Int) < (n : Int) := by omega
  have b3 : (0 : Int) ≤ (y : Int) := by omega
  have b4 : (y : Int) < (n : Int) := by omega
  clear hs hcs e hkx hky
  go_enter Tryz.func110, Tryz.ntmps110
  go_wp2_with fail
  go_quiet ((go_at_call 111; refine Calls.quiet_of_same (HB.out _)))
  go_wp2
  go_ret
  exact ⟨rfl, _, rfl⟩

theorem Tryz.infoI64 : (Tryz.prog.info? 3).map (fun i => (i.zero, i.size, i.bytes)) = some (some (.int .i64 0), 1, 8) := by kernel_rfl
/-- Places counted, k of n. -/
def counted (n k : Nat) : List Value := (List.range k).map (fun j : Nat => Value.int .i64 (j : Int)) ++ List.replicate (n - k) (.int .i64 0)
theorem counted_length {n k : Nat} (h : k ≤ n) : (counted n k).length = n := by simp [counted]; omega
theorem counted_zero (n : Nat) : counted n 0 = List.replicate n (.int .i64 0) := by simp [counted]
theorem counted_step {n k : Nat} (h : k < n) : (counted n k).set k (.int .i64 (k : Int)) = counted n (k + 1) := by
  apply List.ext_getElem
  · rw [List.length_set, counted_length (by omega), counted_length (by omega)]
  · intro i h1 h2
    rw [List.getElem_set]
    simp only [counted, List.getElem_append, List.length_map, List.length_range, List.getElem_map, List.getElem_range, List.getElem_replicate]
    split
    · rename_i he; subst he; simp
    · split <;> split <;> first | rfl | omega
theorem counted_full (n : Nat) : counted n n = (List.range n).map (fun j : Nat => Value.int .i64 (j : Int)) := by simp [counted]

set_option maxRecDepth 100000 in
set_option maxHeartbeats 2000000 in
theorem places_loop {w : World} {kv : Value} {ks : List ByteArray} (hk : StrsAt w.heap.size w kv ks) (h0 : 0 < ks.length) (hn : ks.length ≤ 1000000) (Q : Ending → World → Prop)
    (hs : ∀ W, Below w.heap.size w W → W.ownsRow w.heap.size 3 1 (.slice (some ⟨w.heap.size + 1, 0, none⟩) ks.length ks.length) ks.length (counted ks.length ks.length) → W.cell? ⟨w.heap.size, 0, none⟩ = some kv →
      Calls Tryz.prog 109 #[.slice (some ⟨w.heap.size + 1, 0, none⟩) ks.length ks.length, .func (.func 110) #[] #[.pointer (some ⟨w.heap.size, 0, none⟩)] ] W fun e w' => e = .returned (.tuple #[]) ∧ Q (.returned (.slice (some ⟨w.heap.size + 1, 0, none⟩) ks.length ks.length)) w') :
    Calls Tryz.prog 101 #[kv] w Q := by
  obtain ⟨i0, hi, hz0, hz1, hz2⟩ := info_parts Tryz.infoI64
  obtain ⟨ad, cap, rfl, hnc, hcap, hc⟩ := hk
  have HS := Lib.hid hs
  obtain ⟨n, hnn⟩ : ∃ n, ks.length = n := ⟨_, rfl⟩
  rw [hnn] at HS h0 hn hnc ⊢
  clear hs hc hnn
  have HK0 := Blk.new w #[.slice ad n cap] 24
  have HB0 := below_new w (.cells #[.slice ad n cap] 24)
  go_enter Tryz.func101, Tryz.ntmps101
  go_wp2_with (at_make; refine wpList_make_full _ rfl _ _ 43 rfl w.heap.size 3 i0 (.int .i64 0) 1 Tryz.underlying43 hi hz0 hz1 .i64 .i64 n n n rfl rfl rfl rfl (by rw [hz2]; omega) (by unfold maxLen; omega) (by simp) ?_; intro w1 hown1 hgrow1; have hb1 := (Below.refl (w.alloc (.cells #[.slice ad n cap] 24)).heap.size (w.alloc (.cells #[.slice ad n cap] 24))).grown hgrow1 (Nat.le_refl _) (fun k hk => by cases hk); have hk1 := HK0.below hb1; have hc0 := hk1.cell 0)
  rw [show (w.alloc (.cells #[.slice ad n cap] 24)).heap.size = w.heap.size + 1 by simp, Nat.mul_one] at hown1
  have hrow1 : w1.ownsRow w.heap.size 3 1 (.slice (some ⟨w.heap.size + 1, 0, none⟩) n n) n (counted n 0) := by
    rw [counted_zero]
    have e := toList_madeCells_one (.int .i64 0) n
    rw [← e]
    exact hown1
  have HB1 : Hid (Below w.heap.size w w1) := Lib.hid (HB0.trans (hb1.mono HB0.size))
  clear hgrow1 hb1 hown1
  go_loopw [4, 10] (fun _ iv wr => ∃ k : Nat, iv = .int .i64 k ∧ k ≤ n ∧ Hid (wr.ownsRow w.heap.size 3 1 (.slice (some ⟨w.heap.size + 1, 0, none⟩) n n) n (counted n k)) ∧ Hid (Below w.heap.size w wr) ∧ Hid (Blk wr w.heap.size #[.slice ad n cap] 24)) (fun _ iv _ => n - (intOf iv).toNat)
  case atStart => exact ⟨0, rfl, by omega, Lib.hid hrow1, HB1, Lib.hid hk1⟩
  case round =>
    obtain ⟨k, rfl, hk, HR, HB, HK⟩ := hrel
    clear hrow1 hk1 hc0
    by_cases hlt : k < n
    · have hfr := World.ownsRow.frozenAt HR.out k
      have hcell : wr.cell? ⟨w.heap.size + 1, k, none⟩ = some ((counted n k)[k]'(by rw [counted_length (by omega)]; exact hlt)) := by
        have := World.ownsRow.cells HR.out (g := w.heap.size + 1) rfl k _ (List.getElem?_eq_getElem (by rw [counted_length (by omega)]; exact hlt))
        rwa [Lib.add_plain, Nat.zero_add] at this
      generalize (counted n k)[k]'(by rw [counted_length (by omega)]; exact hlt) = old at hcell
      go_wp2
      go_roundw
      case rel =>
        refine ⟨k + 1, by go_num, by omega, Lib.hid ?_, Lib.hid (HB.out.setCell (p := ⟨w.heap.size + 1, k, none⟩) (by simp) _), Lib.hid (HK.out.other (p := ⟨w.heap.size + 1, k, none⟩) (by simp) _)⟩
        have h1 := (World.ownsRow.stored HR.out k (.int .i64 (k : Int))).1
        rw [counted_step hlt] at h1
        exact h1
      case measure => simp [intOf]; omega
    · obtain rfl : k = n := by omega
      have hc1 := HK.out.cell 0
      have HC := HS.out wr HB.out HR.out hc1
      have HCH := Lib.hid HC
      clear HC
      go_wp2_with (go_at_call 109; refine HCH.out.mono ?_; rintro e w2 ⟨rfl, hq⟩)
      exact hq
end Go.Proofs.YtnmfoedfllmclaaGreatDoor
namespace Go.Proofs.YtnmfoedfllmclaaGreatDoor
open Go.RowKit Go.Sort Go.Shelf
set_option linter.unusedVariables false

def encFin (n : Nat) (i : Fin n) : Value := .int .i64 (i.val : Int)
theorem counted_fin (n : Nat) : counted n n = (List.finRange n).map (encFin n) := by
  rw [counted_full]
  apply List.ext_getElem
  · simp
  · intro i h1 h2
    simp [encFin]

/-- In a world that the sort passes through, other blocks are as they were. -/
theorem sortWorld_other {α : Type} [Inhabited α] (enc : α → Value) (W : World) (blk off m : Nat) (dk : Array α) (os : Array Obj) (a : Addr) (h1 : a.block ≠ blk) (h2 : a.block < W.heap.size) : (sortWorld enc W blk off m dk os).cell? a = W.cell? a := by
  unfold sortWorld
  rw [cell?_grow _ _ _ (by rw [size_putRow]; exact h2), cell?_putRow_other enc _ blk off dk a (Or.inl h1)]
  rfl
theorem StrsAt.sorts {α : Type} [Inhabited α] {B : Nat} {W : World} {v : Value} {ks : List ByteArray} (h : StrsAt B W v ks) (enc : α → Value) (blk off m : Nat) (dk : Array α) (os : Array Obj) (hb : B ≤ blk) (hW : B ≤ W.heap.size) : StrsAt B (sortWorld enc W blk off m dk os) v ks := by
  obtain ⟨ad, cap, h1, h2, h3, h4⟩ := h
  refine ⟨ad, cap, h1, h2, h3, fun hp => ?_⟩
  obtain ⟨g, o, h5, h6, h7⟩ := h4 hp
  exact ⟨g, o, h5, h6, fun j hj => (sortWorld_other enc W blk off m dk os ⟨g, o + j, none⟩ (by show g ≠ blk; omega) (by show g < W.heap.size; omega)).trans (h7 j hj)⟩

theorem compareBytes_neg : ∀ a b : List UInt8, Lib.compareBytes a b < 0 ↔ a < b
  | [], [] => by simp [Lib.compareBytes]
  | [], _ :: _ => by simp [Lib.compareBytes]
  | _ :: _, [] => by simp [Lib.compareBytes]
  | x :: a, y :: b => by
    unfold Lib.compareBytes
    rw [List.cons_lt_cons_iff]
    have ih := compareBytes_neg a b
    by_cases h : x < y
    · rw [if_pos h]; simp [h]
    · rw [if_neg h]
      by_cases h' : y < x
      · rw [if_pos h']
        have hne : x ≠ y := fun e => by subst e; exact absurd h' h
        simp [h, hne]
      · rw [if_neg h']
        have he : x = y := by
          have h1 : ¬ x.toNat < y.toNat := h
          have h2 : ¬ y.toNat < x.toNat := h'
          exact UInt8.toNat_inj.1 (by omega)
        subst he
        rw [ih]
        simp
theorem byKey_lt (ks : List ByteArray) (x y : Fin ks.length) : ltOf (byKey ks) x y = bLt ks[x] ks[y] := by
  unfold ltOf byKey bLt
  rw [Bool.eq_iff_iff, decide_eq_true_iff, decide_eq_true_iff]
  exact compareBytes_neg _ _
theorem bLt_irrefl (a : ByteArray) : bLt a a = false := by
  unfold bLt
  rw [decide_eq_false_iff_not]
  exact List.lt_irrefl _
theorem byKey_swo (ks : List ByteArray) : SWO (ltOf (byKey ks)) where
  irrefl x := by rw [byKey_lt]; exact bLt_irrefl _
  trans x y z h1 h2 := by rw [byKey_lt] at *; exact bLt_trans h1 h2
  ntrans x y z h1 h2 := by
    rw [byKey_lt] at *
    unfold bLt at *
    simp only [decide_eq_false_iff_not, List.not_lt] at *
    exact List.le_trans h2 h1

/-- What a sort leaves: a row of places, sorted by their keys. -/
def SortedAt (w0 : World) (ks : List ByteArray) (w' : World) : Prop := ∃ (hI : Inhabited (Fin ks.length)) (d' : Array (Fin ks.length)), PermIn 0 ks.length (List.finRange ks.length).toArray d' ∧ SortedIn (ltOf (byKey ks)) 0 ks.length d' ∧ Below w0.heap.size w0 w' ∧ w'.ownsRow w0.heap.size 3 1 (.slice (some ⟨w0.heap.size + 1, 0, none⟩) ks.length ks.length) ks.length (d'.toList.map (encFin ks.length))

end Go.Proofs.YtnmfoedfllmclaaGreatDoor
