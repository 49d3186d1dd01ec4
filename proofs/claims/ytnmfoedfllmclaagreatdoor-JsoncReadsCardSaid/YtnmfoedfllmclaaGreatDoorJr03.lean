/- compareSizes · A block of cells · Whole numbers: signed, read, text · num.Good · The texts of numbers · num.Cmp, num.Of · Values: the scalars · slices.BinarySearch of texts · Values as trees, in memory · purlinref02.Deep · purlinref02.Size -/
import Derived.WideShapes
import Derived.Sort.Walk0
import Derived.Test.YtnmfoedfllmclaaGreatDoorJr01
import Derived.Test.YtnmfoedfllmclaaGreatDoorJr02
namespace Go.Proofs.YtnmfoedfllmclaaGreatDoor
open Go.RowKit Go.Shelf

attribute [local go_sem] Oper.semAt_some

end Go.Proofs.YtnmfoedfllmclaaGreatDoor
namespace Go.Proofs.YtnmfoedfllmclaaGreatDoor
open Go.RowKit

/-- Block B holds the cells cs, of type t, none of them frozen. -/
def Blk (W : World) (B : Nat) (cs : Array Value) (t : TypeId) : Prop := W.heap[B]? = some (.cells cs t (0, 0))
theorem Blk.lt {W : World} {B : Nat} {cs : Array Value} {t : TypeId} (h : Blk W B cs t) : B < W.heap.size := (Array.getElem?_eq_some_iff.1 h).1
theorem Blk.cell {W : World} {B : Nat} {cs : Array Value} {t : TypeId} (h : Blk W B cs t) (i : Nat) : W.cell? ⟨B, i, none⟩ = cs[i]? := by simp [World.cell?, show W.heap[B]? = _ from h]
theorem Blk.frozen {W : World} {B : Nat} {cs : Array Value} {t : TypeId} (h : Blk W B cs t) (i : Nat) : W.frozen? ⟨B, i, none⟩ = false := by simp [World.frozen?, show W.heap[B]? = _ from h]
theorem Blk.new (W : World) (cs : Array Value) (t : TypeId) : Blk (W.alloc (.cells cs t)) W.heap.size cs t := World.alloc_heap_new W _
theorem Blk.below {W W' : World} {B : Nat} {cs : Array Value} {t : TypeId} (h : Blk W B cs t) (hb : Below W.heap.size W W') : Blk W' B cs t := (hb.block B h.lt).trans h
theorem Blk.alloc {W : World} {B : Nat} {cs : Array Value} {t : TypeId} (h : Blk W B cs t) (o : Obj) : Blk (W.alloc o) B cs t := h.below ((Below.refl _ W).alloc (Nat.le_refl _) o)

theorem Blk.set {W : World} {B : Nat} {cs : Array Value} {t : TypeId} (h : Blk W B cs t) (i : Nat) (u : Value) : Blk (W.setCell ⟨B, i, none⟩ u) B (cs.setIfInBounds i u) t := heap_setCell_same W B i cs t u h
theorem Blk.other {W : World} {B : Nat} {cs : Array Value} {t : TypeId} (h : Blk W B cs t) {p : Addr} (hp : B ≠ p.block) (u : Value) : Blk (W.setCell p u) B cs t := by
  unfold Blk
  rw [Below.heap_setCell _ _ _ _ hp]
  exact h
/-- A size stands where a block of another type is written. -/
theorem Own.far {lo : Nat} {w : World} {v : Value} {l : List Nat} {B : Nat} {cs : Array Value} {t : TypeId} (h : Own lo w v l) (hk : Blk w B cs t) (ht : t ≠ 100) (i : Nat) (u : Value) : Own lo (w.setCell ⟨B, i, none⟩ u) v l := by
  obtain ⟨h1, h2⟩ := h
  refine ⟨h1, ?_⟩
  rcases h2 with h2 | ⟨g, cap, cur, h2, h3, h4, h5⟩
  · exact .inl h2
  · refine .inr ⟨g, cap, cur, h2, h3, ?_, h5⟩
    rw [Below.heap_setCell _ _ _ _ (fun e => ?_)]
    · exact h4
    · have e : g = B := e
      subst e
      have := (show w.heap[g]? = _ from hk).symm.trans h4
      simp at this
      exact ht this.2
end Go.Proofs.YtnmfoedfllmclaaGreatDoor
namespace Go.Proofs.YtnmfoedfllmclaaGreatDoor
open Go.RowKit

/-- The struct value v is the number n. -/
def Wh (lo : Nat) (w : World) (v : Value) (n : Int) : Prop := ∃ sv, v = .agg #[.bool (decide (n < 0)), sv] ∧ Sz lo w sv n.natAbs
theorem Wh.below {lo : Nat} {w w' : World} {v : Value} {n : Int} (h : Wh lo w v n) (hb : Below w.heap.size w w') : Wh lo w' v n := by
  obtain ⟨sv, h1, h2⟩ := h
  exact ⟨sv, h1, h2.below hb⟩
theorem Wh.mono {lo lo' : Nat} {w : World} {v : Value} {n : Int} (h : Wh lo w v n) (hl : lo' ≤ lo) : Wh lo' w v n := by
  obtain ⟨sv, h1, h2⟩ := h
  exact ⟨sv, h1, h2.mono hl⟩

/-- A size with a sign. -/
def sg (b : Bool) (m : Nat) : Int := if b then -(m : Int) else m
theorem sg_self (n : Int) : sg (decide (n < 0)) n.natAbs = n := by
  unfold sg
  by_cases h : n < 0
  · rw [if_pos (by simpa using h)]; omega
  · rw [if_neg (by simpa using h)]; omega

/-- The digits of a text without its sign. -/
def digitsOf (l : List UInt8) : List UInt8 := Lib.trimPrefix l [45]
/-- A text's number. -/
def textVal (l : List UInt8) : Int := sg (Lib.hasPrefix l [45]) (dval (digitsOf l))

/-- A number that a text has room for. -/
def Room (n : Int) : Prop := (limbs n.natAbs).length ≤ 1000000

end Go.Proofs.YtnmfoedfllmclaaGreatDoor
namespace Go.Proofs.YtnmfoedfllmclaaGreatDoor
open Go.RowKit

/-- The test of one byte. -/
def digB (c : UInt8) : Bool := decide (48 ≤ c.toNat) && decide (c.toNat ≤ 57)

/-- The text without its sign. -/
def bare (s : ByteArray) : ByteArray := ⟨(Lib.trimPrefix s.data.toList [45]).toArray⟩

theorem trim_any (s : ByteArray) (w : World) : Calls Tryz.prog 91 #[.string s, .string ⟨#[45]⟩] w fun e w' => e = .returned (.string (bare s)) ∧ w = w' :=
  (Tryz.strings_TrimPrefix _ _ _).mono fun _ _ ⟨h1, h2⟩ => ⟨h1, h2.symm⟩

theorem bare_list (s : ByteArray) : (bare s).data.toList = Lib.trimPrefix s.data.toList [45] := by unfold bare; rfl

/-- goodB, told of the text without its sign. -/
theorem good_bare {s D : ByteArray} (h : bare s = D) : goodB s.data.toList = (decide (D.data.toList ≠ []) && decide (D.data.toList.length ≤ 100) && (if D.data.toList.head? = some 48 then decide (s.data.toList = [48]) else D.data.toList.all digB)) := by
  subst h
  rw [bare_list]
  rfl
theorem head_byte {D : ByteArray} (h : 0 < D.size) : D.data.toList.head? = some D[0] := by
  rw [List.head?_eq_getElem?, List.getElem?_eq_getElem (by rw [bytes_len]; exact h)]
  rfl

set_option maxHeartbeats 400000 in
theorem Good_any (s : ByteArray) (w : World) :
    Calls Tryz.prog 69 #[.string s] w fun e w' => e = .returned (.bool (goodB s.data.toList)) ∧ w = w' := by
  obtain ⟨D, hD⟩ : ∃ D, bare s = D := ⟨_, rfl⟩
  have HG := Lib.hid (good_bare hD)
  have HT : Calls Tryz.prog 91 #[.string s, .string ⟨#[45]⟩] w fun e w' => e = .returned (.string D) ∧ w = w' := by rw [← hD]; exact trim_any s w
  have HL := Lib.hid (bytes_len D)
  clear hD
  rcases Nat.eq_zero_or_pos D.size with h0 | h0
  · have e1 : ((D.size : Int) == 0) = true := beq_iff_eq.2 (by omega)
    have HF : Hid (goodB s.data.toList = false) := Lib.hid (by
      rw [HG.out]
      have : D.data.toList = [] := List.length_eq_zero_iff.1 (by rw [HL.out]; exact h0)
      rw [this]; rfl)
    clear h0
    go_enter Tryz.func69, Tryz.ntmps69
    go_wp2_with (go_at_call 91; refine HT.mono ?_; rintro e w' ⟨rfl, rfl⟩)
    go_ret
    exact ⟨by rw [HF.out]; rfl, rfl⟩
  · have e1 : ((D.size : Int) == 0) = false := beq_eq_false_iff_ne.2 (by omega)
    by_cases h1 : 100 < D.size
    · have HF : Hid (goodB s.data.toList = false) := Lib.hid (by
        rw [HG.out, HL.out]
        have : decide (D.size ≤ 100) = false := by simp; omega
        rw [this]; simp)

      go_enter Tryz.func69, Tryz.ntmps69
      go_wp2_with (go_at_call 91; refine HT.mono ?_; rintro e w' ⟨rfl, rfl⟩)
      go_ret
      exact ⟨by rw [HF.out]; rfl, rfl⟩
    · have h2 : D.size ≤ 100 := by omega
      have hn : decide (D.data.toList ≠ []) = true := by
        simp only [decide_eq_true_eq]; intro h; have := HL.out; rw [h] at this; simp at this; omega
      have hl : decide (D.data.toList.length ≤ 100) = true := by simp only [decide_eq_true_eq]; rw [HL.out]; exact h2
      have hh := head_byte h0
      by_cases h3 : D[0].toNat = 48
      · have e3 : ((D[0].toNat : Int) == 48) = true := beq_iff_eq.2 (by omega)
        have HF : Hid (goodB s.data.toList = (s.toList == [48])) := Lib.hid (by
          rw [HG.out, hn, hl, hh]
          have : D[0] = 48 := UInt8.toNat_inj.1 h3
          rw [this]
          rw [ByteArray.toList_eq]
          simp
          rw [Bool.eq_iff_iff]
          simp)
        clear hn hl hh h1 h3
        go_enter Tryz.func69, Tryz.ntmps69
        go_wp2_with (go_at_call 91; refine HT.mono ?_; rintro e w' ⟨rfl, rfl⟩)
        go_ret
        exact ⟨by rw [HF.out]; rfl, rfl⟩
      · have e3 : ((D[0].toNat : Int) == 48) = false := beq_eq_false_iff_ne.2 (by omega)
        have HF : Hid (goodB s.data.toList = D.data.toList.all digB) := Lib.hid (by
          rw [HG.out, hn, hl, hh, if_neg (by intro h; simp at h; rw [h] at h3; exact h3 rfl)]
          rfl)
        clear hn hl hh h1 h3
        go_enter Tryz.func69, Tryz.ntmps69
        go_wp2_with (go_at_call 91; refine HT.mono ?_; rintro e w' ⟨rfl, rfl⟩)
        go_loop [22] (fun i => ∃ k : Nat, k ≤ D.size ∧ i = .int .i64 k ∧ Hid ((D.data.toList.take k).all digB = true)) (fun i => D.size - (intOf i).toNat)
        case atStart => exact ⟨0, Nat.zero_le _, rfl, Lib.hid rfl⟩
        case round =>
          obtain ⟨k, hk, rfl, HK⟩ := hrel
          by_cases hlt : k < D.size
          · have HS : Hid ((D.data.toList.take (k + 1)).all digB = digB D[k]) := Lib.hid (by
              rw [List.take_succ_eq_append_getElem (by rw [HL.out]; exact hlt), List.all_append, HK.out]
              simp
              rfl)
            by_cases hd : 48 ≤ D[k].toNat ∧ D[k].toNat ≤ 57
            · obtain ⟨hd1, hd2⟩ := hd
              have HS2 : Hid (digB D[k] = true) := Lib.hid (by unfold digB; simp [hd1, hd2])
              go_wp2
              go_round
              case rel => exact ⟨k + 1, by omega, by go_num, Lib.hid (by rw [HS.out, HS2.out])⟩
              case measure => simp [intOf]; omega
            · have HF2 : Hid (D.data.toList.all digB = false) := Lib.hid (by
                rw [List.all_eq_false]
                refine ⟨D[k], ?_, ?_⟩
                · exact bytes_mem D k hlt
                · unfold digB; simp; omega)
              rcases (show D[k].toNat < 48 ∨ (48 ≤ D[k].toNat ∧ 57 < D[k].toNat) by omega) with h | ⟨h, h'⟩
              all_goals
                clear hd
                go_wp2
                go_ret
                exact ⟨by rw [HF.out, HF2.out]; rfl, rfl⟩
          · go_wp2
            go_ret
            exact ⟨by rw [HF.out]; have := HK.out; rw [List.take_of_length_le (by rw [HL.out]; omega)] at this; rw [this]; rfl, rfl⟩

end Go.Proofs.YtnmfoedfllmclaaGreatDoor
namespace Go.Proofs.YtnmfoedfllmclaaGreatDoor
open Go.RowKit

/-- A number's text. -/
def str (n : Int) : ByteArray := ⟨(Lib.itoa n).toArray⟩
theorem str_list (n : Int) : (str n).data.toList = Lib.itoa n := by simp [str]
theorem str_of {s : ByteArray} {n : Int} (h : s.data.toList = Lib.itoa n) : s = str n := by
  unfold str
  rw [← h]
theorem digitsOf_itoa (n : Int) : digitsOf (Lib.itoa n) = Lib.decDigits n.natAbs := by
  unfold digitsOf Lib.itoa
  split
  · rfl
  · rename_i h0
    rw [show n.toNat = n.natAbs by omega]
    rcases trim_minus (Lib.decDigits n.natAbs) with ⟨r, h, -, -⟩ | ⟨-, h, -⟩
    · exact absurd (by rw [h]; rfl) (dec_minus n.natAbs)
    · exact h
theorem prefix_itoa (n : Int) : Lib.hasPrefix (Lib.itoa n) [45] = decide (n < 0) := by
  unfold Lib.itoa
  split
  · rename_i h; rw [decide_eq_true h]; rfl
  · rename_i h
    rw [decide_eq_false h, show n.toNat = n.natAbs by omega]
    rcases trim_minus (Lib.decDigits n.natAbs) with ⟨r, h, -, -⟩ | ⟨-, -, h⟩
    · exact absurd (by rw [h]; rfl) (dec_minus n.natAbs)
    · exact h
theorem textVal_itoa (n : Int) : textVal (Lib.itoa n) = n := by
  unfold textVal
  rw [prefix_itoa, digitsOf_itoa, dval_decDigits, sg_self]
theorem fits_limbs {x k : Nat} (h : x < 10 ^ (9 * k)) : (limbs x).length ≤ k := limbs_length (by rw [show (1000000000 : Nat) = 10 ^ 9 by rfl, ← Nat.pow_mul]; exact h)
theorem Fits.limbs {n : Int} (h : Fits n) : (limbs n.natAbs).length ≤ 12 := fits_limbs (Nat.lt_of_lt_of_le h (Nat.pow_le_pow_right (by omega) (by omega)))
instance (n : Int) : Decidable (Fits n) := by unfold Fits; infer_instance
theorem good_cases (s : ByteArray) : goodB s.data.toList = false ∨ ∃ n, Fits n ∧ s = str n := by
  cases hg : goodB s.data.toList with
  | false => exact .inl rfl
  | true =>
    obtain ⟨m, hm, e⟩ := (good_iff _).1 hg
    exact .inr ⟨m, hm, str_of e⟩
theorem Fits.add {a b : Int} (ha : Fits a) (hb : Fits b) : Room (a + b) := by
  refine Nat.le_trans (fits_limbs (k := 12) ?_) (by omega)
  have h1 : (a + b).natAbs < 10 ^ 101 := by unfold Fits at ha hb; omega
  exact Nat.lt_of_lt_of_le h1 (Nat.pow_le_pow_right (by omega) (by omega))
end Go.Proofs.YtnmfoedfllmclaaGreatDoor
namespace Go.Proofs.YtnmfoedfllmclaaGreatDoor
open Go.RowKit
def sgnI (a b : Int) : Int := if a < b then -1 else if b < a then 1 else 0

theorem str_val {s : ByteArray} (h : goodB s.data.toList = true) : s = str (textVal s.data.toList) := by
  rcases good_cases s with hf | ⟨n, -, rfl⟩
  · rw [hf] at h; cases h
  · rw [str_list, textVal_itoa]
end Go.Proofs.YtnmfoedfllmclaaGreatDoor
namespace Go.Proofs.YtnmfoedfllmclaaGreatDoor
open Go.RowKit

/-- A value without items and keys. -/
def scal (k : Int) (b : Bool) (t : ByteArray) : Value := .agg #[.int .i64 k, .bool b, .string t, .slice none 0 0, .slice none 0 0]
theorem below_new (w : World) (o : Obj) : Below w.heap.size w (w.alloc o) := (Below.refl _ _).alloc (Nat.le_refl _) _

theorem vNull_any (w : World) : Calls Tryz.prog 85 #[] w fun e w' => e = .returned (scal 0 false ⟨#[]⟩) ∧ Below w.heap.size w w' := by
  go_enter Tryz.func85, Tryz.ntmps85
  go_wp2
  refine bodyPost_ret (v := scal 0 false ⟨#[]⟩) ?_ rfl ⟨rfl, below_new _ _⟩
  simp [results, Tryz.results85, go_sem, scal]
theorem vText_any (t : ByteArray) (w : World) : Calls Tryz.prog 58 #[.string t] w fun e w' => e = .returned (scal 4 false t) ∧ Below w.heap.size w w' := by
  go_enter Tryz.func58, Tryz.ntmps58
  go_wp2
  refine bodyPost_ret (v := scal 4 false t) ?_ rfl ⟨rfl, below_new _ _⟩
  simp [results, Tryz.results58, go_sem, scal]
theorem vBool_any (b : Bool) (w : World) : Calls Tryz.prog 86 #[.bool b] w fun e w' => e = .returned (scal 2 b ⟨#[]⟩) ∧ Below w.heap.size w w' := by
  go_enter Tryz.func86, Tryz.ntmps86
  go_wp2
  refine bodyPost_ret (v := scal 2 b ⟨#[]⟩) ?_ rfl ⟨rfl, below_new _ _⟩
  simp [results, Tryz.results86, go_sem, scal]


theorem Blk.set5 {W : World} {B : Nat} {a0 a1 a2 a3 a4 : Value} {t : TypeId} (h : Blk W B #[a0, a1, a2, a3, a4] t) (b0 b1 b2 b3 b4 : Value) : Blk (((((W.setCell ⟨B, 0, none⟩ b0).setCell ⟨B, 1, none⟩ b1).setCell ⟨B, 2, none⟩ b2).setCell ⟨B, 3, none⟩ b3).setCell ⟨B, 4, none⟩ b4) B #[b0, b1, b2, b3, b4] t := by
  have := ((((h.set 0 b0).set 1 b1).set 2 b2).set 3 b3).set 4 b4
  simpa using this
theorem below_set5 {lo : Nat} {w W : World} {B : Nat} (h : Below lo w W) (hB : lo ≤ B) (b0 b1 b2 b3 b4 : Value) : Below lo w (((((W.setCell ⟨B, 0, none⟩ b0).setCell ⟨B, 1, none⟩ b1).setCell ⟨B, 2, none⟩ b2).setCell ⟨B, 3, none⟩ b3).setCell ⟨B, 4, none⟩ b4) :=
  ((((h.setCell (p := ⟨B, 0, none⟩) hB b0).setCell (p := ⟨B, 1, none⟩) hB b1).setCell (p := ⟨B, 2, none⟩) hB b2).setCell (p := ⟨B, 3, none⟩) hB b3).setCell (p := ⟨B, 4, none⟩) hB b4

/-- The cells of a null value. -/
def nil5 : Array Value := #[.int .i64 0, .bool false, .string ⟨#[]⟩, .slice none 0 0, .slice none 0 0]
end Go.Proofs.YtnmfoedfllmclaaGreatDoor
namespace Go.Proofs.YtnmfoedfllmclaaGreatDoor
open Go.RowKit
set_option linter.unusedVariables false

/-- A slice of texts, of whatever memory below block B. -/
def StrsAt (B : Nat) (W : World) (v : Value) (ks : List ByteArray) : Prop := ∃ ad cap, v = .slice ad ks.length cap ∧ ks.length ≤ cap ∧ ks.length ≤ 140737488355328 ∧ (0 < ks.length → ∃ g o, ad = some ⟨g, o, none⟩ ∧ g < B ∧ ∀ j (h : j < ks.length), W.cell? ⟨g, o + j, none⟩ = some (.string ks[j]))
theorem StrsAt.below {B : Nat} {W W' : World} {v : Value} {ks : List ByteArray} (h : StrsAt B W v ks) (hb : Below B W W') : StrsAt B W' v ks := by
  obtain ⟨ad, cap, h1, h2, h3, h4⟩ := h
  refine ⟨ad, cap, h1, h2, h3, fun hp => ?_⟩
  obtain ⟨g, o, h5, h6, h7⟩ := h4 hp
  exact ⟨g, o, h5, h6, fun j hj => (hb.cell (p := ⟨g, o + j, none⟩) h6).trans (h7 j hj)⟩
theorem StrsAt.mono {B B' : Nat} {W : World} {v : Value} {ks : List ByteArray} (h : StrsAt B W v ks) (hB : B ≤ B') : StrsAt B' W v ks := by
  obtain ⟨ad, cap, h1, h2, h3, h4⟩ := h
  refine ⟨ad, cap, h1, h2, h3, fun hp => ?_⟩
  obtain ⟨g, o, h5, h6, h7⟩ := h4 hp
  exact ⟨g, o, h5, by omega, h7⟩
/-- Of two texts: the first is the lesser. -/
def bLt (a b : ByteArray) : Bool := decide (a.data.toList < b.data.toList)
theorem bLess_eq (a b : ByteArray) : Op.bytesLess a.toList b.toList = bLt a b := by rw [bytesLess_eq, ByteArray.toList_eq, ByteArray.toList_eq]; rfl

/-- Texts rising. -/
def Rising (ks : List ByteArray) : Prop := ∀ i j (hi : i < ks.length) (hj : j < ks.length), i < j → bLt ks[i] ks[j] = true
theorem bLt_trans {a b c : ByteArray} (h1 : bLt a b = true) (h2 : bLt b c = true) : bLt a c = true := by
  unfold bLt at *
  simp only [decide_eq_true_eq] at *
  exact List.lt_trans h1 h2
end Go.Proofs.YtnmfoedfllmclaaGreatDoor
namespace Go.Proofs.YtnmfoedfllmclaaGreatDoor
open Go.RowKit
set_option linter.unusedVariables false

/-- A value: its kind, its truth, its text, its items, its keys. -/
inductive VT where
  | node (k : Int) (b : Bool) (t : ByteArray) (its : List VT) (ks : List ByteArray)

def VT.its : VT → List VT | .node _ _ _ l _ => l
/-- The cells of an element of five. -/
def Five (W : World) (g o : Nat) (c0 c1 c2 c3 c4 : Value) : Prop := W.cell? ⟨g, o, none⟩ = some c0 ∧ W.cell? ⟨g, o + 1, none⟩ = some c1 ∧ W.cell? ⟨g, o + 2, none⟩ = some c2 ∧ W.cell? ⟨g, o + 3, none⟩ = some c3 ∧ W.cell? ⟨g, o + 4, none⟩ = some c4
theorem Five.below {B : Nat} {W W' : World} {g o : Nat} {c0 c1 c2 c3 c4 : Value} (h : Five W g o c0 c1 c2 c3 c4) (hg : g < B) (hb : Below B W W') : Five W' g o c0 c1 c2 c3 c4 :=
  ⟨(hb.cell (p := ⟨g, o, none⟩) hg).trans h.1, (hb.cell (p := ⟨g, o + 1, none⟩) hg).trans h.2.1, (hb.cell (p := ⟨g, o + 2, none⟩) hg).trans h.2.2.1, (hb.cell (p := ⟨g, o + 3, none⟩) hg).trans h.2.2.2.1, (hb.cell (p := ⟨g, o + 4, none⟩) hg).trans h.2.2.2.2⟩

/-- The value v is the tree, its memory below block B. -/
inductive Is (B : Nat) (W : World) : Value → VT → Prop where
  | mk (k : Int) (b : Bool) (t : ByteArray) (its : List VT) (ks : List ByteArray) (ad : Option Addr) (cap : Nat) (kv : Value) (g o : Nat) (ik : Nat → Int) (ib : Nat → Bool) (it : Nat → ByteArray) (ii iv : Nat → Value)
      (hk : StrsAt B W kv ks) (hc : its.length ≤ cap) (hn : its.length ≤ 140737488355328)
      (ha : 0 < its.length → ad = some ⟨g, o, none⟩ ∧ g < B)
      (hcell : ∀ j, j < its.length → Five W g (o + j * 5) (.int .i64 (ik j)) (.bool (ib j)) (.string (it j)) (ii j) (iv j))
      (hrec : ∀ j (h : j < its.length), Is B W (.agg #[.int .i64 (ik j), .bool (ib j), .string (it j), ii j, iv j]) its[j]) :
      Is B W (.agg #[.int .i64 k, .bool b, .string t, .slice ad its.length cap, kv]) (.node k b t its ks)

theorem Is.later {B : Nat} {W W' : World} {v : Value} {T : VT} (h : Is B W v T) (hb : Below B W W') : Is B W' v T := by
  induction h with
  | mk k b t its ks ad cap kv g o ik ib it ii iv hk hc hn ha hcell hrec ih =>
    exact Is.mk k b t its ks ad cap kv g o ik ib it ii iv (hk.below hb) hc hn ha (fun j hj => (hcell j hj).below (ha (by omega)).2 hb) (fun j hj => ih j hj)
theorem Is.wide {B B' : Nat} {W : World} {v : Value} {T : VT} (h : Is B W v T) (hB : B ≤ B') : Is B' W v T := by
  induction h with
  | mk k b t its ks ad cap kv g o ik ib it ii iv hk hc hn ha hcell hrec ih =>
    exact Is.mk k b t its ks ad cap kv g o ik ib it ii iv (hk.mono hB) hc hn (fun hp => ⟨(ha hp).1, Nat.lt_of_lt_of_le (ha hp).2 hB⟩) hcell ih
/-- A value's shape. -/
theorem Is.shape {B : Nat} {W : World} {v : Value} {T : VT} (h : Is B W v T) : ∃ k b t ad n cap adk nk capk, v = .agg #[.int .i64 k, .bool b, .string t, .slice ad n cap, .slice adk nk capk] := by
  cases h with
  | mk k b t its ks ad cap kv g o ik ib it ii iv hk hc hn ha hcell hrec =>
    obtain ⟨adk, capk, rfl, -⟩ := hk
    exact ⟨k, b, t, ad, _, cap, adk, _, capk, rfl⟩

/-! ### What the document asks of a tree -/
mutual
/-- How many values. -/
def sizeT : VT → Nat
  | .node _ _ _ its _ => 1 + sizeL its
def sizeL : List VT → Nat
  | [] => 0
  | x :: l => sizeT x + sizeL l
end
mutual
/-- No deeper than n? -/
def deepT (n : Nat) : VT → Bool
  | .node _ _ _ its _ => match n with | 0 => false | m + 1 => deepL m its
def deepL (n : Nat) : List VT → Bool
  | [] => true
  | x :: l => deepT n x && deepL n l
end
/-- Keys rising, none too long. -/
def keysOk : List ByteArray → Bool
  | [] => true
  | [a] => decide (a.size ≤ 16384)
  | a :: b :: l => decide (a.size ≤ 16384) && bLt a b && keysOk (b :: l)
/-- Just what the kind needs, its items aside. -/
def aloneT : VT → Bool
  | .node k b t its ks => (!b || k == 2) && (if k = 0 ∨ k = 1 ∨ k = 2 then t.toList == [] && its.isEmpty && ks.isEmpty else if k = 3 then goodB t.data.toList && its.isEmpty && ks.isEmpty else if k = 4 then decide (t.size ≤ 16384) && its.isEmpty && ks.isEmpty else if k = 5 then t.toList == [] && ks.isEmpty else if k = 6 then t.toList == [] && decide (ks.length = its.length) && keysOk ks else false)
mutual
def plainT : VT → Bool
  | .node k b t its ks => aloneT (.node k b t its ks) && plainL its
def plainL : List VT → Bool
  | [] => true
  | x :: l => plainT x && plainL l
end
end Go.Proofs.YtnmfoedfllmclaaGreatDoor
namespace Go.Proofs.YtnmfoedfllmclaaGreatDoor
open Go.RowKit
set_option linter.unusedVariables false

theorem deepL_all {n : Nat} : ∀ {l : List VT}, (∀ j (h : j < l.length), deepT n l[j] = true) → deepL n l = true
  | [], _ => rfl
  | x :: l, h => by
    have h0 : deepT n x = true := h 0 (by simp)
    unfold deepL
    rw [h0, deepL_all (fun j hj => h (j + 1) (by simpa using hj))]
    rfl
end Go.Proofs.YtnmfoedfllmclaaGreatDoor
namespace Go.Proofs.YtnmfoedfllmclaaGreatDoor
open Go.RowKit
set_option linter.unusedVariables false

theorem sizeL_append : ∀ (a b : List VT), sizeL (a ++ b) = sizeL a + sizeL b
  | [], b => by simp [sizeL]
  | x :: a, b => by
    have h := sizeL_append a b
    show sizeT x + sizeL (a ++ b) = sizeT x + sizeL a + sizeL b
    omega
theorem sizeL_take {l : List VT} {j : Nat} (h : j < l.length) : sizeL (l.take (j + 1)) = sizeL (l.take j) + sizeT l[j] := by
  rw [List.take_succ_eq_append_getElem h, sizeL_append]
  simp [sizeL]
theorem sizeT_pos (T : VT) : 1 ≤ sizeT T := by
  cases T; unfold sizeT; omega
theorem sizeL_ge : ∀ l : List VT, l.length ≤ sizeL l
  | [] => by simp [sizeL]
  | x :: l => by have := sizeL_ge l; have := sizeT_pos x; unfold sizeL; rw [List.length_cons]; omega
theorem sizeL_split (l : List VT) (j : Nat) : sizeL l = sizeL (l.take j) + sizeL (l.drop j) := by rw [← sizeL_append, List.take_append_drop]
theorem deepL_at {n : Nat} : ∀ {l : List VT} {j : Nat} (h : j < l.length), deepL n l = true → deepT n l[j] = true
  | x :: l, 0, _, e => by
    unfold deepL at e
    have := (Bool.and_eq_true_iff.1 e).1
    exact this
  | x :: l, j + 1, h, e => by
    unfold deepL at e
    exact deepL_at (l := l) (by simpa using h) (Bool.and_eq_true_iff.1 e).2

end Go.Proofs.YtnmfoedfllmclaaGreatDoor
