/- Whole numbers: signed, read, text. -/
import Derived.Test.YthmojhfakmdlfaaDoorWalkR
import Derived.Test.YthmojhfakmdlfaaDoorWalkCmp
import Derived.Test.YthmojhfakmdlfaaDoorShelf
import Derived.Test.YthmojhfakmdlfaaDoorMem2

import Derived.WideShapes
namespace Go.Proofs.YthmojhfakmdlfaaDoor
open Go.RowKit

/-- The struct value v is the number n. -/
def Wh (lo : Nat) (w : World) (v : Value) (n : Int) : Prop := ∃ sv, v = .agg #[.bool (decide (n < 0)), sv] ∧ Sz lo w sv n.natAbs
theorem Wh.below {lo : Nat} {w w' : World} {v : Value} {n : Int} (h : Wh lo w v n) (hb : Below w.heap.size w w') : Wh lo w' v n := by
  obtain ⟨sv, h1, h2⟩ := h
  exact ⟨sv, h1, h2.below hb⟩
theorem Wh.mono {lo lo' : Nat} {w : World} {v : Value} {n : Int} (h : Wh lo w v n) (hl : lo' ≤ lo) : Wh lo' w v n := by
  obtain ⟨sv, h1, h2⟩ := h
  exact ⟨sv, h1, h2.mono hl⟩

/-- A call that answers the number n in memory from block lo on. -/
def MakesW (lo B : Nat) (w : World) (n : Int) (e : Ending) (w' : World) : Prop := ∃ v, e = .returned v ∧ Wh lo w' v n ∧ Below B w w'

theorem makesW_of {lo B : Nat} {w w' : World} {n : Int} {m : Nat} {neg : Bool} {sv : Value} (h : Sz lo w' sv m) (h1 : neg = decide (n < 0)) (h2 : n.natAbs = m) (hb : Below B w w') : MakesW lo B w n (.returned (.agg #[.bool neg, sv])) w' :=
  ⟨_, rfl, ⟨sv, by rw [h1], by rw [h2]; exact h⟩, hb⟩

/-- A size with a sign. -/
def sg (b : Bool) (m : Nat) : Int := if b then -(m : Int) else m
theorem sg_abs (b : Bool) (m : Nat) : (sg b m).natAbs = m := by unfold sg; split <;> omega
theorem sg_neg (b : Bool) (m : Nat) : decide (sg b m < 0) = (b && decide (m ≠ 0)) := by
  unfold sg
  cases b
  · simp
  · by_cases hm : m = 0
    · subst hm; simp
    · simp [hm]; omega
theorem sg_self (n : Int) : sg (decide (n < 0)) n.natAbs = n := by
  unfold sg
  by_cases h : n < 0
  · rw [if_pos (by simpa using h)]; omega
  · rw [if_neg (by simpa using h)]; omega

set_option maxHeartbeats 400000 in
theorem signed_any {lo : Nat} {w : World} {sv : Value} {m : Nat} (b : Bool) (hs : Sz lo w sv m) :
    Calls Tryd.prog 67 #[.bool b, sv] w fun e w' => MakesW lo w.heap.size w (sg b m) e w' := by
  have HS := Lib.hid hs
  obtain ⟨ad, cap, rfl, -, -, -⟩ := hs.view
  obtain ⟨n, hn⟩ : ∃ n, (limbs m).length = n := ⟨_, rfl⟩
  have HN := Lib.hid hn
  rw [hn] at HS ⊢
  have hz : Hid (m = 0 ↔ n = 0) := Lib.hid (by rw [← HN.out]; constructor
                                               · intro h; rw [h, limbs_zero]; rfl
                                               · intro h; exact limbs_nil.1 (List.length_eq_zero_iff.1 h))
  clear hs hn
  cases b
  · go_enter Tryd.func67, Tryd.ntmps67
    go_wp2
    refine bodyPost_ret (v := .agg #[.bool false, .slice ad n cap]) ?_ rfl (makesW_of (HS.out.below ((Below.refl w.heap.size w).alloc (Nat.le_refl _) _)) (by rw [sg_neg]; rfl) (sg_abs _ _) ((Below.refl w.heap.size w).alloc (Nat.le_refl _) _))
    simp [results, Tryd.results67, go_sem]
  · by_cases h0 : n = 0
    · subst h0
      have HM : Hid (m = 0) := Lib.hid (limbs_nil.1 (List.length_eq_zero_iff.1 HN.out))
      clear hz
      go_enter Tryd.func67, Tryd.ntmps67
      go_wp2
      refine bodyPost_ret (v := .agg #[.bool false, .slice ad 0 cap]) ?_ rfl (makesW_of (HS.out.below ((Below.refl w.heap.size w).alloc (Nat.le_refl _) _)) (by rw [sg_neg, HM.out]; rfl) (sg_abs _ _) ((Below.refl w.heap.size w).alloc (Nat.le_refl _) _))
      simp [results, Tryd.results67, go_sem]
    · have hp : 0 < n := by omega
      have hm : Hid (decide (m ≠ 0) = true) := Lib.hid (by simp; intro h; exact h0 (hz.out.1 h))
      clear h0
      go_enter Tryd.func67, Tryd.ntmps67
      go_wp2
      refine bodyPost_ret (v := .agg #[.bool true, .slice ad n cap]) ?_ rfl (makesW_of (HS.out.below ((Below.refl w.heap.size w).alloc (Nat.le_refl _) _)) (by rw [sg_neg, hm.out]; rfl) (sg_abs _ _) ((Below.refl w.heap.size w).alloc (Nat.le_refl _) _))
      simp [results, Tryd.results67, go_sem]
      try omega

/-- The digits of a text without its sign. -/
def digitsOf (l : List UInt8) : List UInt8 := Lib.trimPrefix l [45]
/-- A text's number. -/
def textVal (l : List UInt8) : Int := sg (Lib.hasPrefix l [45]) (dval (digitsOf l))

theorem cut_any (s : ByteArray) (w : World) : Calls Tryd.prog 66 #[.string s, .string ⟨#[45]⟩] w fun e w' => e = .returned (.tuple #[.string ⟨(digitsOf s.data.toList).toArray⟩, .bool (Lib.hasPrefix s.data.toList [45])]) ∧ w = w' :=
  (Tryd.strings_CutPrefix _ _ _).mono fun _ _ ⟨h1, h2⟩ => ⟨h1, h2.symm⟩

set_option maxHeartbeats 400000 in
theorem read_any (s : ByteArray) (w : World) (hd : Digs (digitsOf s.data.toList)) (hl : (digitsOf s.data.toList).length ≤ 1000000) :
    Calls Tryd.prog 56 #[.string s] w fun e w' => MakesW w.heap.size w.heap.size w (textVal s.data.toList) e w' := by
  have HC := Lib.hid (fun W => cut_any s W)
  obtain ⟨D, hD⟩ : ∃ D : ByteArray, ⟨(digitsOf s.data.toList).toArray⟩ = D := ⟨_, rfl⟩
  obtain ⟨b, hb⟩ : ∃ b, Lib.hasPrefix s.data.toList [45] = b := ⟨_, rfl⟩
  rw [hD, hb] at HC
  have HR : Hid (∀ W, Calls Tryd.prog 68 #[.string D] W fun e w' => Reads W.heap.size W (dval (digitsOf s.data.toList)) e w') := Lib.hid (fun W => by
    have e : D.data.toList = digitsOf s.data.toList := by rw [← hD]
    rw [← e] at hd hl ⊢
    exact readSize_any D W hd (by rwa [bytes_len] at hl))
  have HV : Hid (textVal s.data.toList = sg b (dval (digitsOf s.data.toList))) := Lib.hid (by unfold textVal; rw [hb])
  obtain ⟨m, hm⟩ : ∃ m, dval (digitsOf s.data.toList) = m := ⟨_, rfl⟩
  obtain ⟨tv, htv⟩ : ∃ tv, textVal s.data.toList = tv := ⟨_, rfl⟩
  rw [hm] at HR HV
  rw [htv] at HV ⊢
  clear hd hl hD hb hm htv
  have hk := Blk.new w #[.bool false, .slice none 0 0] 78
  go_enter Tryd.func56, Tryd.ntmps56
  go_wp2_with (first
    | (go_at_call 66; refine (HC.out _).mono ?_; rintro e w' ⟨rfl, rfl⟩)
    | (go_at_call 68; refine (HR.out _).mono ?_; rintro e W1 ⟨sv, rfl, hsz, hb1⟩; have hk1 := hk.below hb1; have HSI := Lib.hid (signed_any b hsz))
    | (go_at_call 67; refine HSI.out.mono ?_; rintro e W2 ⟨v, rfl, hwh, hb2⟩; obtain ⟨sv2, rfl, hsz2⟩ := hwh; have hk2 := hk1.below hb2; have hc0 := hk2.cell 0; have hc1 := hk2.cell 1; have hf0 := hk2.frozen 0; have hf1 := hk2.frozen 1; have HSZ := Lib.hid hsz2; obtain ⟨ad, cap, rfl, -, -, -⟩ := hsz2.view; clear hsz2))
  have hk4 := hk2.set2 (.bool (decide (sg b m < 0))) (.slice ad (limbs (sg b m).natAbs).length cap)
  have hd0 := hk4.cell 0
  have hd1 := hk4.cell 1
  have hB3 : Below W2.heap.size W2 W2 := Below.refl _ _
  have hb3 : Below w.heap.size w ((W2.setCell ⟨w.heap.size, 0, none⟩ (.bool (decide (sg b m < 0)))).setCell ⟨w.heap.size, 1, none⟩ (.slice ad (limbs (sg b m).natAbs).length cap)) := ((((Below.refl w.heap.size w).alloc (Nat.le_refl _) _).trans (hb1.mono (by simp))).trans (hb2.mono (by have := hb1.size; simp at this; omega))).setCell (p := ⟨w.heap.size, 0, none⟩) (by simp) _ |>.setCell (p := ⟨w.heap.size, 1, none⟩) (by simp) _
  rw [HV.out]
  refine bodyPost_ret (v := .agg #[.bool (decide (sg b m < 0)), .slice ad (limbs (sg b m).natAbs).length cap]) ?_ rfl (makesW_of (m := (sg b m).natAbs) ?_ rfl rfl hb3)
  · simp [results, Tryd.results56, go_sem, hd0, hd1]
  · exact (HSZ.out.mono (by simp)).far2 hk2 (by decide) _ _


theorem nDigits_limbs (x : Nat) : Lib.nDigits x ≤ 9 * (limbs x).length + 1 := by
  have h := lval_lt (low_limbs x)
  rw [lval_limbs] at h
  refine nDigits_le (by omega) (Nat.lt_of_lt_of_le h ?_)
  rw [show (1000000000 : Nat) = 10 ^ 9 by decide, ← Nat.pow_mul]
  exact Nat.pow_le_pow_right (by omega) (by omega)

/-- A number that a text has room for. -/
def Room (n : Int) : Prop := (limbs n.natAbs).length ≤ 1000000

end Go.Proofs.YthmojhfakmdlfaaDoor
