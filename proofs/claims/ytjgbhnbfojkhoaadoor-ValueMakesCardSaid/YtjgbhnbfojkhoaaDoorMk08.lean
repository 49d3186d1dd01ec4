/- num.Cmp, num.Of · Values: the scalars · slices.BinarySearch of texts -/
import Derived.Sort.Walk0
import Derived.Test.YtjgbhnbfojkhoaaDoorMk07
namespace Go.Proofs.YtjgbhnbfojkhoaaDoor
open Go.RowKit
def sgnI (a b : Int) : Int := if a < b then -1 else if b < a then 1 else 0

theorem sgnI_nn {a b : Int} (ha : ¬ a < 0) (hb : ¬ b < 0) : sgn a.natAbs b.natAbs = sgnI a b := by unfold sgn sgnI; repeat' split <;> omega
theorem sgnI_mm {a b : Int} (ha : a < 0) (hb : b < 0) : sgn b.natAbs a.natAbs = sgnI a b := by unfold sgn sgnI; repeat' split <;> omega
theorem sgnI_mn {a b : Int} (ha : a < 0) (hb : ¬ b < 0) : sgnI a b = -1 := by unfold sgnI; rw [if_pos (by omega)]
theorem sgnI_nm {a b : Int} (ha : ¬ a < 0) (hb : b < 0) : sgnI a b = 1 := by unfold sgnI; rw [if_neg (by omega), if_pos (by omega)]

set_option maxHeartbeats 1000000 in
theorem compare_any {w : World} {va vb : Value} {a b : Int} (ha : Wh 0 w va a) (hb : Wh 0 w vb b) (hra : Room a) (hrb : Room b) :
    Calls Tryd.prog 55 #[va, vb] w fun e w' => e = .returned (.int .i64 (sgnI a b)) ∧ Below w.heap.size w w' := by
  obtain ⟨sa, rfl, hsa⟩ := ha
  obtain ⟨sb, rfl, hsb⟩ := hb
  have HA := Lib.hid hsa
  have HB := Lib.hid hsb
  obtain ⟨ada, capa, rfl, -, -, -⟩ := hsa.view
  obtain ⟨adb, capb, rfl, -, -, -⟩ := hsb.view
  obtain ⟨la, hla⟩ : ∃ k, (limbs a.natAbs).length = k := ⟨_, rfl⟩
  obtain ⟨lb, hlb⟩ : ∃ k, (limbs b.natAbs).length = k := ⟨_, rfl⟩
  rw [hla] at HA ⊢
  rw [hlb] at HB ⊢
  clear hsa hsb hla hlb
  by_cases hna : a < 0
  · have e1 : decide (a < 0) = true := by simpa using hna
    by_cases hnb : b < 0
    · have e2 : decide (b < 0) = true := by simpa using hnb
      rw [e1, e2]
      have hb0 : Below w.heap.size w ((w.alloc (.cells #[.bool true, .slice ada la capa] 78)).alloc (.cells #[.bool true, .slice adb lb capb] 78)) := ((Below.refl _ w).alloc (Nat.le_refl _) _).alloc (by simp) _
      have HC := Lib.hid (compareSizes_any (HB.out.below hb0) (HA.out.below hb0) hrb hra)
      have HS := Lib.hid (sgnI_mm hna hnb)
      rw [HS.out] at HC
      clear e1 e2 hna hnb
      go_enter Tryd.func55, Tryd.ntmps55
      go_wp2_with (go_at_call 65; refine HC.out.mono ?_; rintro e W1 ⟨rfl, hb1⟩)
      go_ret
      exact ⟨rfl, hb0.trans (hb1.mono hb0.size)⟩
    · have e2 : decide (b < 0) = false := by simpa using hnb
      rw [e1, e2]
      have HS := Lib.hid (sgnI_mn hna hnb)
      clear e1 e2 hna hnb
      go_enter Tryd.func55, Tryd.ntmps55
      go_wp2
      go_ret
      exact ⟨by rw [HS.out]; rfl, ((Below.refl w.heap.size w).alloc (Nat.le_refl _) _).alloc (by simp) _⟩
  · have e1 : decide (a < 0) = false := by simpa using hna
    by_cases hnb : b < 0
    · have e2 : decide (b < 0) = true := by simpa using hnb
      rw [e1, e2]
      have HS := Lib.hid (sgnI_nm hna hnb)
      clear e1 e2 hna hnb
      go_enter Tryd.func55, Tryd.ntmps55
      go_wp2
      go_ret
      exact ⟨by rw [HS.out]; rfl, ((Below.refl w.heap.size w).alloc (Nat.le_refl _) _).alloc (by simp) _⟩
    · have e2 : decide (b < 0) = false := by simpa using hnb
      rw [e1, e2]
      have hb0 : Below w.heap.size w ((w.alloc (.cells #[.bool false, .slice ada la capa] 78)).alloc (.cells #[.bool false, .slice adb lb capb] 78)) := ((Below.refl _ w).alloc (Nat.le_refl _) _).alloc (by simp) _
      have HC := Lib.hid (compareSizes_any (HA.out.below hb0) (HB.out.below hb0) hra hrb)
      have HS := Lib.hid (sgnI_nn hna hnb)
      rw [HS.out] at HC
      clear e1 e2 hna hnb
      go_enter Tryd.func55, Tryd.ntmps55
      go_wp2_with (go_at_call 65; refine HC.out.mono ?_; rintro e W1 ⟨rfl, hb1⟩)
      go_ret
      exact ⟨rfl, hb0.trans (hb1.mono hb0.size)⟩

set_option maxRecDepth 100000 in
theorem Cmp_bad {s t : ByteArray} {w : World} (h : goodB s.data.toList = false ∨ goodB t.data.toList = false) :
    Calls Tryd.prog 41 #[.string s, .string t] w fun e w' => e = .returned (.int .i64 0) ∧ Below w.heap.size w w' := by
  have G1 := Lib.hid (Good_any s w)
  have G2 := Lib.hid (Good_any t w)
  obtain ⟨g1, hg1⟩ : ∃ g, goodB s.data.toList = g := ⟨_, rfl⟩
  obtain ⟨g2, hg2⟩ : ∃ g, goodB t.data.toList = g := ⟨_, rfl⟩
  rw [hg1] at G1 h
  rw [hg2] at G2 h
  clear hg1 hg2
  cases g1
  · go_enter Tryd.func41, Tryd.ntmps41
    go_wp2_with (go_at_call 54; refine G1.out.mono ?_; rintro e w' ⟨rfl, rfl⟩)
    refine bodyPost_ret (v := .int .i64 0) ?_ rfl ⟨rfl, Below.refl _ _⟩
    simp [results, Tryd.results41, go_sem]
  · obtain rfl : g2 = false := by simpa using h
    go_enter Tryd.func41, Tryd.ntmps41
    go_wp2_with (first | (go_at_call 54; refine G1.out.mono ?_; clear G1; rintro e w' ⟨rfl, rfl⟩) | (go_at_call 54; refine G2.out.mono ?_; rintro e w' ⟨rfl, rfl⟩))
    refine bodyPost_ret (v := .int .i64 0) ?_ rfl ⟨rfl, Below.refl _ _⟩
    simp [results, Tryd.results41, go_sem]

set_option maxRecDepth 100000 in
theorem Cmp_good {a b : Int} (ha : Fits a) (hb : Fits b) {w : World} :
    Calls Tryd.prog 41 #[.string (str a), .string (str b)] w fun e w' => e = .returned (.int .i64 (sgnI a b)) ∧ Below w.heap.size w w' := by
  have G1 := Lib.hid (Good_any (str a) w)
  have G2 := Lib.hid (Good_any (str b) w)
  rw [good_str, decide_eq_true ha] at G1
  rw [good_str, decide_eq_true hb] at G2
  have R1 := Lib.hid (read_str ha w)
  have HB := Lib.hid (fun W => read_str hb W)
  have HC := Lib.hid (fun (W : World) (va vb : Value) (h1 : Wh 0 W va a) (h2 : Wh 0 W vb b) => compare_any h1 h2 ha.room hb.room)
  obtain ⟨s, hs⟩ : ∃ s, str a = s := ⟨_, rfl⟩
  obtain ⟨t, ht⟩ : ∃ s, str b = s := ⟨_, rfl⟩
  rw [hs] at G1 R1 ⊢
  rw [ht] at G2 HB ⊢
  clear hs ht
  go_enter Tryd.func41, Tryd.ntmps41
  go_wp2_with (first
    | (go_at_call 54; refine G1.out.mono ?_; clear G1; rintro e w' ⟨rfl, rfl⟩)
    | (go_at_call 54; refine G2.out.mono ?_; clear G2; rintro e w' ⟨rfl, rfl⟩)
    | (go_at_call 56; refine R1.out.mono ?_; clear R1; rintro e w1 ⟨v1, rfl, h1, hb1⟩)
    | (go_at_call 56; refine (HB.out _).mono ?_; clear HB; rintro e w2 ⟨v2, rfl, h2, hb2⟩)
    | (go_at_call 55; refine (HC.out _ _ _ ((h1.below hb2).mono (Nat.zero_le _)) (h2.mono (Nat.zero_le _))).mono ?_; rintro e w3 ⟨rfl, hb3⟩))
  refine bodyPost_ret (v := .int .i64 (sgnI a b)) ?_ rfl ⟨rfl, (hb1.trans (hb2.mono hb1.size)).trans (hb3.mono (Nat.le_trans hb1.size hb2.size))⟩
  simp [results, Tryd.results41, go_sem]

theorem str_val {s : ByteArray} (h : goodB s.data.toList = true) : s = str (textVal s.data.toList) := by
  rcases good_cases s with hf | ⟨n, -, rfl⟩
  · rw [hf] at h; cases h
  · rw [str_list, textVal_itoa]
theorem str_fits {s : ByteArray} (h : goodB s.data.toList = true) : Fits (textVal s.data.toList) := by
  rcases good_cases s with hf | ⟨n, hn, rfl⟩
  · rw [hf] at h; cases h
  · rw [str_list, textVal_itoa]; exact hn
theorem str_zero : str 0 = ⟨#[48]⟩ := by unfold str; rw [show Lib.itoa 0 = [48] by unfold Lib.itoa; simp [Lib.decDigits_one]]
end Go.Proofs.YtjgbhnbfojkhoaaDoor
namespace Go.Proofs.YtjgbhnbfojkhoaaDoor
open Go.RowKit

/-- A value without items and keys. -/
def scal (k : Int) (b : Bool) (t : ByteArray) : Value := .agg #[.int .i64 k, .bool b, .string t, .slice none 0 0, .slice none 0 0]
theorem below_new (w : World) (o : Obj) : Below w.heap.size w (w.alloc o) := (Below.refl _ _).alloc (Nat.le_refl _) _

theorem vNull_any (w : World) : Calls Tryd.prog 25 #[] w fun e w' => e = .returned (scal 0 false ⟨#[]⟩) ∧ Below w.heap.size w w' := by
  go_enter Tryd.func25, Tryd.ntmps25
  go_wp2
  refine bodyPost_ret (v := scal 0 false ⟨#[]⟩) ?_ rfl ⟨rfl, below_new _ _⟩
  simp [results, Tryd.results25, go_sem, scal]
theorem vText_any (t : ByteArray) (w : World) : Calls Tryd.prog 17 #[.string t] w fun e w' => e = .returned (scal 4 false t) ∧ Below w.heap.size w w' := by
  go_enter Tryd.func17, Tryd.ntmps17
  go_wp2
  refine bodyPost_ret (v := scal 4 false t) ?_ rfl ⟨rfl, below_new _ _⟩
  simp [results, Tryd.results17, go_sem, scal]
theorem vBool_any (b : Bool) (w : World) : Calls Tryd.prog 14 #[.bool b] w fun e w' => e = .returned (scal 2 b ⟨#[]⟩) ∧ Below w.heap.size w w' := by
  go_enter Tryd.func14, Tryd.ntmps14
  go_wp2
  refine bodyPost_ret (v := scal 2 b ⟨#[]⟩) ?_ rfl ⟨rfl, below_new _ _⟩
  simp [results, Tryd.results14, go_sem, scal]


theorem Blk.set5 {W : World} {B : Nat} {a0 a1 a2 a3 a4 : Value} {t : TypeId} (h : Blk W B #[a0, a1, a2, a3, a4] t) (b0 b1 b2 b3 b4 : Value) : Blk (((((W.setCell ⟨B, 0, none⟩ b0).setCell ⟨B, 1, none⟩ b1).setCell ⟨B, 2, none⟩ b2).setCell ⟨B, 3, none⟩ b3).setCell ⟨B, 4, none⟩ b4) B #[b0, b1, b2, b3, b4] t := by
  have := ((((h.set 0 b0).set 1 b1).set 2 b2).set 3 b3).set 4 b4
  simpa using this
theorem below_set5 {lo : Nat} {w W : World} {B : Nat} (h : Below lo w W) (hB : lo ≤ B) (b0 b1 b2 b3 b4 : Value) : Below lo w (((((W.setCell ⟨B, 0, none⟩ b0).setCell ⟨B, 1, none⟩ b1).setCell ⟨B, 2, none⟩ b2).setCell ⟨B, 3, none⟩ b3).setCell ⟨B, 4, none⟩ b4) :=
  ((((h.setCell (p := ⟨B, 0, none⟩) hB b0).setCell (p := ⟨B, 1, none⟩) hB b1).setCell (p := ⟨B, 2, none⟩) hB b2).setCell (p := ⟨B, 3, none⟩) hB b3).setCell (p := ⟨B, 4, none⟩) hB b4

theorem Of_small {n : Nat} (h1 : n < 100) {w : World} :
    Calls Tryd.prog 33 #[.int .i64 (n : Int)] w fun e w' => e = .returned (.string (str (n : Int))) ∧ Below w.heap.size w w' := by
  have HI := Lib.hid (Tryd.strconv_Itoa_small n h1 w)
  have e : (⟨(Lib.decDigits n).toArray⟩ : ByteArray) = str (n : Int) := by unfold str Lib.itoa; rw [if_neg (by omega), Int.toNat_natCast]
  rw [e] at HI
  go_enter Tryd.func33, Tryd.ntmps33
  go_wp2_with (go_at_call 50; refine HI.out.mono ?_; rintro e w' ⟨rfl, rfl⟩)
  go_ret
  exact ⟨rfl, Below.refl _ _⟩
/-- The cells of a null value. -/
def nil5 : Array Value := #[.int .i64 0, .bool false, .string ⟨#[]⟩, .slice none 0 0, .slice none 0 0]
set_option maxHeartbeats 400000 in
/-- Int, where num.Of is as told. -/
theorem vInt_of {n : Int} {t : ByteArray} {w : World} (h : Hid (∀ W, Below w.heap.size w W → Calls Tryd.prog 33 #[.int .i64 n] W fun e w' => e = .returned (.string t) ∧ Below W.heap.size W w')) : Calls Tryd.prog 12 #[.int .i64 n] w fun e w' => e = .returned (scal 3 false t) ∧ Below w.heap.size w w' := by
  have HI := Lib.hid (h.out _ (below_new w (.cells nil5 26)))
  have hk := Blk.new w nil5 26
  have hb0 := below_new w (.cells nil5 26)
  unfold nil5 at HI hk hb0
  go_enter Tryd.func12, Tryd.ntmps12
  go_wp2_with (go_at_call 33; refine HI.out.mono ?_; rintro e w1 ⟨rfl, hb⟩; have hk1 := hk.below hb; have c0 := hk1.cell 0; have c1 := hk1.cell 1; have c2 := hk1.cell 2; have c3 := hk1.cell 3; have c4 := hk1.cell 4; have f0 := hk1.frozen 0; have f1 := hk1.frozen 1; have f2 := hk1.frozen 2; have f3 := hk1.frozen 3; have f4 := hk1.frozen 4)
  have hk2 := hk1.set5 (.int .i64 3) (.bool false) (.string t) (.slice none 0 0) (.slice none 0 0)
  have d0 := hk2.cell 0
  have d1 := hk2.cell 1
  have d2 := hk2.cell 2
  have d3 := hk2.cell 3
  have d4 := hk2.cell 4
  refine bodyPost_ret (v := scal 3 false t) ?_ rfl ⟨rfl, below_set5 (hb0.trans (hb.mono hb0.size)) (Nat.le_refl _) _ _ _ _ _⟩
  simp [results, Tryd.results12, go_sem, scal, d0, d1, d2, d3, d4]
end Go.Proofs.YtjgbhnbfojkhoaaDoor
namespace Go.Proofs.YtjgbhnbfojkhoaaDoor
open Go.RowKit
set_option linter.unusedVariables false

/-- A slice of texts, of whatever memory below block B. -/
def StrsAt (B : Nat) (W : World) (v : Value) (ks : List ByteArray) : Prop := ∃ ad cap, v = .slice ad ks.length cap ∧ ks.length ≤ cap ∧ ks.length ≤ 140737488355328 ∧ (0 < ks.length → ∃ g o, ad = some ⟨g, o, none⟩ ∧ g < B ∧ ∀ j (h : j < ks.length), W.cell? ⟨g, o + j, none⟩ = some (.string ks[j]))
theorem StrsAt.below {B : Nat} {W W' : World} {v : Value} {ks : List ByteArray} (h : StrsAt B W v ks) (hb : Below B W W') : StrsAt B W' v ks := by
  obtain ⟨ad, cap, h1, h2, h3, h4⟩ := h
  refine ⟨ad, cap, h1, h2, h3, fun hp => ?_⟩
  obtain ⟨g, o, h5, h6, h7⟩ := h4 hp
  exact ⟨g, o, h5, h6, fun j hj => (hb.cell (p := ⟨g, o + j, none⟩) h6).trans (h7 j hj)⟩
theorem StrsAt.mono {B B' : Nat} {W : World} {v : Value} {ks : List ByteArray} (h : StrsAt B W v ks) (hB : B ≤ B') : StrsAt B' W v ks := by
  obtain ⟨ad, cap, h1, h2, h3, h4⟩ := h
  refine ⟨ad, cap, h1, h2, h3, fun hp => ?_⟩
  obtain ⟨g, o, h5, h6, h7⟩ := h4 hp
  exact ⟨g, o, h5, by omega, h7⟩
/-- Of two texts: the first is the lesser. -/
def bLt (a b : ByteArray) : Bool := decide (a.data.toList < b.data.toList)
theorem bLess_eq (a b : ByteArray) : Op.bytesLess a.toList b.toList = bLt a b := by rw [bytesLess_eq, ByteArray.toList_eq, ByteArray.toList_eq]; rfl

theorem lessString_any (a b : ByteArray) (w : World) : Calls Tryd.prog 51 #[.string a, .string b] w fun e w' => e = .returned (.bool (bLt a b)) ∧ w = w' := by
  have hb := bLess_eq a b
  go_enter Tryd.func51, Tryd.ntmps51
  go_wp2
  go_ret
  exact ⟨rfl, rfl⟩
/-- Texts rising. -/
def Rising (ks : List ByteArray) : Prop := ∀ i j (hi : i < ks.length) (hj : j < ks.length), i < j → bLt ks[i] ks[j] = true
theorem bLt_trans {a b c : ByteArray} (h1 : bLt a b = true) (h2 : bLt b c = true) : bLt a c = true := by
  unfold bLt at *
  simp only [decide_eq_true_eq] at *
  exact List.lt_trans h1 h2
theorem bLt_trans' {a b c : ByteArray} (h1 : bLt b c = true) (h2 : bLt b a = false) : bLt a c = true := by
  unfold bLt at *
  simp only [decide_eq_true_eq, decide_eq_false_iff_not] at *
  exact List.lt_of_le_of_lt (List.not_lt.1 h2) h1
/-- Where a key stands or would stand. -/
def KeyPlace (ks : List ByteArray) (key : ByteArray) (p : Nat) : Prop := p ≤ ks.length ∧ (∀ x (h : x < ks.length), x < p → bLt ks[x] key = true) ∧ (∀ x (h : x < ks.length), p ≤ x → bLt ks[x] key = false)
/-- Does the key stand at p? -/
def hasAt (ks : List ByteArray) (key : ByteArray) (p : Nat) : Bool := match ks[p]? with | some k => k.toList == key.toList | none => false
theorem hasAt_in {ks : List ByteArray} {key : ByteArray} {p : Nat} (h : p < ks.length) : hasAt ks key p = (ks[p].toList == key.toList) := by unfold hasAt; rw [List.getElem?_eq_getElem h]
theorem hasAt_out {ks : List ByteArray} {key : ByteArray} {p : Nat} (h : ks.length ≤ p) : hasAt ks key p = false := by unfold hasAt; rw [List.getElem?_eq_none h]

theorem nanString_any (a : ByteArray) (w : World) : Calls Tryd.prog 52 #[.string a] w fun e w' => e = .returned (.bool false) ∧ w = w' := by
  go_enter Tryd.func52, Tryd.ntmps52
  go_wp2
  go_ret
  exact ⟨by simp, rfl⟩
/-- What a search finds. -/
def Found (ks : List ByteArray) (key : ByteArray) (w : World) (e : Ending) (w' : World) : Prop := ∃ p : Nat, KeyPlace ks key p ∧ e = .returned (.tuple #[.int .i64 p, .bool (hasAt ks key p)]) ∧ w = w'

set_option maxRecDepth 100000 in
set_option maxHeartbeats 1000000 in
theorem search_any {B : Nat} {w : World} {v : Value} {ks : List ByteArray} (key : ByteArray) (h : StrsAt B w v ks) (hr : Rising ks) : Calls Tryd.prog 38 #[v, .string key] w fun e w' => Found ks key w e w' := by
  obtain ⟨ad, cap, rfl, hnc, hcap, hc⟩ := h
  have HC := Lib.hid hc
  have HR := Lib.hid hr
  have HL := Lib.hid (fun x W => lessString_any x key W)
  have HN := Lib.hid (fun x W => nanString_any x W)
  clear hc hr
  obtain ⟨n, hn⟩ : ∃ n, ks.length = n := ⟨_, rfl⟩
  have HNN := Lib.hid hn
  rw [hn] at hnc hcap ⊢
  clear hn
  go_enter Tryd.func38, Tryd.ntmps38
  go_wp2
  go_loop [7, 8] (fun iv jv => ∃ i j : Nat, iv = .int .i64 i ∧ jv = .int .i64 j ∧ i ≤ j ∧ j ≤ n ∧ Hid ((∀ x (h : x < ks.length), x < i → bLt ks[x] key = true) ∧ (∀ x (h : x < ks.length), j ≤ x → bLt ks[x] key = false))) (fun iv jv => (intOf jv).toNat - (intOf iv).toNat)
  case atStart => exact ⟨0, n, rfl, rfl, by omega, by omega, Lib.hid ⟨fun x _ h => by omega, fun x h h' => by have := HNN.out; omega⟩⟩
  case round =>
    obtain ⟨i, j, rfl, rfl, hij, hjn, HI⟩ := hrel
    by_cases hlt : i < j
    · obtain ⟨m, hm⟩ : ∃ m, (i + j) / 2 = m := ⟨_, rfl⟩
      have hmn : m < n := by omega
      have hml : m < ks.length := by have := HNN.out; omega
      obtain ⟨g, o, rfl, -, hcs⟩ := HC.out (by omega)
      have hcell := hcs m hml
      obtain ⟨km, hkm⟩ : ∃ km, ks[m] = km := ⟨_, rfl⟩
      rw [hkm] at hcell
      have HK := Lib.hid hkm
      have hmi : i ≤ m := by omega
      have hmj : m < j := by omega
      clear hcs hkm
      have HLm := Lib.hid (fun W => HL.out km W)
      cases hb : bLt km key
      · rw [hb] at HLm
        have HB := Lib.hid hb
        clear hb
        go_wp2_with (go_at_call 51; refine (HLm.out _).mono ?_; rintro e w' ⟨rfl, rfl⟩)
        go_round
        case rel => exact ⟨i, m, rfl, by rw [← hm]; go_num, hmi, by omega, Lib.hid ⟨HI.out.1, fun x hx hmx => by
          rcases Nat.eq_or_lt_of_le hmx with h' | h'
          · subst h'; rw [HK.out]; exact HB.out
          · cases hq : bLt ks[x] key
            · rfl
            · have h1 := HR.out m x hml hx h'
              rw [HK.out] at h1
              rw [bLt_trans h1 hq] at HB
              exact absurd HB.out (by decide)⟩⟩
        case measure => simp [intOf]; omega
      · rw [hb] at HLm
        have HB := Lib.hid hb
        clear hb
        go_wp2_with (go_at_call 51; refine (HLm.out _).mono ?_; rintro e w' ⟨rfl, rfl⟩)
        go_round
        case rel => exact ⟨m + 1, j, by rw [← hm]; go_num, rfl, by omega, hjn, Lib.hid ⟨fun x hx hmx => by
          rcases Nat.eq_or_lt_of_le (show x ≤ m by omega) with h' | h'
          · subst h'; rw [HK.out]; exact HB.out
          · have h1 := HR.out x m hx hml h'
            rw [HK.out] at h1
            exact bLt_trans h1 HB.out, HI.out.2⟩⟩
        case measure => simp [intOf]; omega
    · obtain rfl : i = j := by omega
      have HP : Hid (KeyPlace ks key i) := Lib.hid ⟨by have := HNN.out; omega, fun x hx h => HI.out.1 x hx h, fun x hx h => HI.out.2 x hx h⟩
      by_cases hin : i < n
      · have hil : i < ks.length := by have := HNN.out; omega
        have HA := Lib.hid (hasAt_in (key := key) hil)
        obtain ⟨g, o, rfl, -, hcs⟩ := HC.out (by omega)
        have hcell := hcs i hil
        obtain ⟨km, hkm⟩ : ∃ km, ks[i] = km := ⟨_, rfl⟩
        rw [hkm] at hcell HA
        have HN1 := Lib.hid (fun W => HN.out km W)
        clear hcs hkm
        cases hq : (km.toList == key.toList)
        · rw [hq] at HA
          go_wp2_with (go_at_call 52; refine (HN1.out _).mono ?_; rintro e w' ⟨rfl, rfl⟩)
          refine bodyPost_ret (v := .tuple #[.int .i64 i, .bool false]) ?_ rfl ⟨i, HP.out, by rw [HA.out], rfl⟩
          simp [results, Tryd.results38, go_sem]
        · rw [hq] at HA
          go_wp2
          refine bodyPost_ret (v := .tuple #[.int .i64 i, .bool true]) ?_ rfl ⟨i, HP.out, by rw [HA.out], rfl⟩
          simp [results, Tryd.results38, go_sem]
      · have HA := Lib.hid (hasAt_out (ks := ks) (key := key) (p := i) (by have := HNN.out; omega))
        go_wp2
        refine bodyPost_ret (v := .tuple #[.int .i64 i, .bool false]) ?_ rfl ⟨i, HP.out, by rw [HA.out], rfl⟩
        simp [results, Tryd.results38, go_sem]
end Go.Proofs.YtjgbhnbfojkhoaaDoor
