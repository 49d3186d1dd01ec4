/- Whole numbers: signed, read, text · num.Good · The texts of numbers -/
import Derived.WideShapes
import Derived.Test.YtjgbhnbfojkhoaaDoorMk01
import Derived.Test.YtjgbhnbfojkhoaaDoorMk02
import Derived.Test.YtjgbhnbfojkhoaaDoorMk03
import Derived.Test.YtjgbhnbfojkhoaaDoorMk05
import Derived.Test.YtjgbhnbfojkhoaaDoorMk06
namespace Go.Proofs.YtjgbhnbfojkhoaaDoor
open Go.RowKit

/-- The struct value v is the number n. -/
def Wh (lo : Nat) (w : World) (v : Value) (n : Int) : Prop := ∃ sv, v = .agg #[.bool (decide (n < 0)), sv] ∧ Sz lo w sv n.natAbs
theorem Wh.below {lo : Nat} {w w' : World} {v : Value} {n : Int} (h : Wh lo w v n) (hb : Below w.heap.size w w') : Wh lo w' v n := by
  obtain ⟨sv, h1, h2⟩ := h
  exact ⟨sv, h1, h2.below hb⟩
theorem Wh.mono {lo lo' : Nat} {w : World} {v : Value} {n : Int} (h : Wh lo w v n) (hl : lo' ≤ lo) : Wh lo' w v n := by
  obtain ⟨sv, h1, h2⟩ := h
  exact ⟨sv, h1, h2.mono hl⟩

/-- A call that answers the number n in memory from block lo on. -/
def MakesW (lo B : Nat) (w : World) (n : Int) (e : Ending) (w' : World) : Prop := ∃ v, e = .returned v ∧ Wh lo w' v n ∧ Below B w w'

theorem makesW_of {lo B : Nat} {w w' : World} {n : Int} {m : Nat} {neg : Bool} {sv : Value} (h : Sz lo w' sv m) (h1 : neg = decide (n < 0)) (h2 : n.natAbs = m) (hb : Below B w w') : MakesW lo B w n (.returned (.agg #[.bool neg, sv])) w' :=
  ⟨_, rfl, ⟨sv, by rw [h1], by rw [h2]; exact h⟩, hb⟩

/-- A size with a sign. -/
def sg (b : Bool) (m : Nat) : Int := if b then -(m : Int) else m
theorem sg_abs (b : Bool) (m : Nat) : (sg b m).natAbs = m := by unfold sg; split <;> omega
theorem sg_neg (b : Bool) (m : Nat) : decide (sg b m < 0) = (b && decide (m ≠ 0)) := by
  unfold sg
  cases b
  · simp
  · by_cases hm : m = 0
    · subst hm; simp
    · simp [hm]; omega
theorem sg_self (n : Int) : sg (decide (n < 0)) n.natAbs = n := by
  unfold sg
  by_cases h : n < 0
  · rw [if_pos (by simpa using h)]; omega
  · rw [if_neg (by simpa using h)]; omega

set_option maxHeartbeats 400000 in
theorem signed_any {lo : Nat} {w : World} {sv : Value} {m : Nat} (b : Bool) (hs : Sz lo w sv m) :
    Calls Tryd.prog 67 #[.bool b, sv] w fun e w' => MakesW lo w.heap.size w (sg b m) e w' := by
  have HS := Lib.hid hs
  obtain ⟨ad, cap, rfl, -, -, -⟩ := hs.view
  obtain ⟨n, hn⟩ : ∃ n, (limbs m).length = n := ⟨_, rfl⟩
  have HN := Lib.hid hn
  rw [hn] at HS ⊢
  have hz : Hid (m = 0 ↔ n = 0) := Lib.hid (by rw [← HN.out]; constructor
                                               · intro h; rw [h, limbs_zero]; rfl
                                               · intro h; exact limbs_nil.1 (List.length_eq_zero_iff.1 h))
  clear hs hn
  cases b
  · go_enter Tryd.func67, Tryd.ntmps67
    go_wp2
    refine bodyPost_ret (v := .agg #[.bool false, .slice ad n cap]) ?_ rfl (makesW_of (HS.out.below ((Below.refl w.heap.size w).alloc (Nat.le_refl _) _)) (by rw [sg_neg]; rfl) (sg_abs _ _) ((Below.refl w.heap.size w).alloc (Nat.le_refl _) _))
    simp [results, Tryd.results67, go_sem]
  · by_cases h0 : n = 0
    · subst h0
      have HM : Hid (m = 0) := Lib.hid (limbs_nil.1 (List.length_eq_zero_iff.1 HN.out))
      clear hz
      go_enter Tryd.func67, Tryd.ntmps67
      go_wp2
      refine bodyPost_ret (v := .agg #[.bool false, .slice ad 0 cap]) ?_ rfl (makesW_of (HS.out.below ((Below.refl w.heap.size w).alloc (Nat.le_refl _) _)) (by rw [sg_neg, HM.out]; rfl) (sg_abs _ _) ((Below.refl w.heap.size w).alloc (Nat.le_refl _) _))
      simp [results, Tryd.results67, go_sem]
    · have hp : 0 < n := by omega
      have hm : Hid (decide (m ≠ 0) = true) := Lib.hid (by simp; intro h; exact h0 (hz.out.1 h))
      clear h0
      go_enter Tryd.func67, Tryd.ntmps67
      go_wp2
      refine bodyPost_ret (v := .agg #[.bool true, .slice ad n cap]) ?_ rfl (makesW_of (HS.out.below ((Below.refl w.heap.size w).alloc (Nat.le_refl _) _)) (by rw [sg_neg, hm.out]; rfl) (sg_abs _ _) ((Below.refl w.heap.size w).alloc (Nat.le_refl _) _))
      simp [results, Tryd.results67, go_sem]
      try omega

/-- The digits of a text without its sign. -/
def digitsOf (l : List UInt8) : List UInt8 := Lib.trimPrefix l [45]
/-- A text's number. -/
def textVal (l : List UInt8) : Int := sg (Lib.hasPrefix l [45]) (dval (digitsOf l))

theorem cut_any (s : ByteArray) (w : World) : Calls Tryd.prog 66 #[.string s, .string ⟨#[45]⟩] w fun e w' => e = .returned (.tuple #[.string ⟨(digitsOf s.data.toList).toArray⟩, .bool (Lib.hasPrefix s.data.toList [45])]) ∧ w = w' :=
  (Tryd.strings_CutPrefix _ _ _).mono fun _ _ ⟨h1, h2⟩ => ⟨h1, h2.symm⟩

set_option maxHeartbeats 400000 in
theorem read_any (s : ByteArray) (w : World) (hd : Digs (digitsOf s.data.toList)) (hl : (digitsOf s.data.toList).length ≤ 1000000) :
    Calls Tryd.prog 56 #[.string s] w fun e w' => MakesW w.heap.size w.heap.size w (textVal s.data.toList) e w' := by
  have HC := Lib.hid (fun W => cut_any s W)
  obtain ⟨D, hD⟩ : ∃ D : ByteArray, ⟨(digitsOf s.data.toList).toArray⟩ = D := ⟨_, rfl⟩
  obtain ⟨b, hb⟩ : ∃ b, Lib.hasPrefix s.data.toList [45] = b := ⟨_, rfl⟩
  rw [hD, hb] at HC
  have HR : Hid (∀ W, Calls Tryd.prog 68 #[.string D] W fun e w' => Reads W.heap.size W (dval (digitsOf s.data.toList)) e w') := Lib.hid (fun W => by
    have e : D.data.toList = digitsOf s.data.toList := by rw [← hD]
    rw [← e] at hd hl ⊢
    exact readSize_any D W hd (by rwa [bytes_len] at hl))
  have HV : Hid (textVal s.data.toList = sg b (dval (digitsOf s.data.toList))) := Lib.hid (by unfold textVal; rw [hb])
  obtain ⟨m, hm⟩ : ∃ m, dval (digitsOf s.data.toList) = m := ⟨_, rfl⟩
  obtain ⟨tv, htv⟩ : ∃ tv, textVal s.data.toList = tv := ⟨_, rfl⟩
  rw [hm] at HR HV
  rw [htv] at HV ⊢
  clear hd hl hD hb hm htv
  have hk := Blk.new w #[.bool false, .slice none 0 0] 78
  go_enter Tryd.func56, Tryd.ntmps56
  go_wp2_with (first
    | (go_at_call 66; refine (HC.out _).mono ?_; rintro e w' ⟨rfl, rfl⟩)
    | (go_at_call 68; refine (HR.out _).mono ?_; rintro e W1 ⟨sv, rfl, hsz, hb1⟩; have hk1 := hk.below hb1; have HSI := Lib.hid (signed_any b hsz))
    | (go_at_call 67; refine HSI.out.mono ?_; rintro e W2 ⟨v, rfl, hwh, hb2⟩; obtain ⟨sv2, rfl, hsz2⟩ := hwh; have hk2 := hk1.below hb2; have hc0 := hk2.cell 0; have hc1 := hk2.cell 1; have hf0 := hk2.frozen 0; have hf1 := hk2.frozen 1; have HSZ := Lib.hid hsz2; obtain ⟨ad, cap, rfl, -, -, -⟩ := hsz2.view; clear hsz2))
  have hk4 := hk2.set2 (.bool (decide (sg b m < 0))) (.slice ad (limbs (sg b m).natAbs).length cap)
  have hd0 := hk4.cell 0
  have hd1 := hk4.cell 1
  have hB3 : Below W2.heap.size W2 W2 := Below.refl _ _
  have hb3 : Below w.heap.size w ((W2.setCell ⟨w.heap.size, 0, none⟩ (.bool (decide (sg b m < 0)))).setCell ⟨w.heap.size, 1, none⟩ (.slice ad (limbs (sg b m).natAbs).length cap)) := ((((Below.refl w.heap.size w).alloc (Nat.le_refl _) _).trans (hb1.mono (by simp))).trans (hb2.mono (by have := hb1.size; simp at this; omega))).setCell (p := ⟨w.heap.size, 0, none⟩) (by simp) _ |>.setCell (p := ⟨w.heap.size, 1, none⟩) (by simp) _
  rw [HV.out]
  refine bodyPost_ret (v := .agg #[.bool (decide (sg b m < 0)), .slice ad (limbs (sg b m).natAbs).length cap]) ?_ rfl (makesW_of (m := (sg b m).natAbs) ?_ rfl rfl hb3)
  · simp [results, Tryd.results56, go_sem, hd0, hd1]
  · exact (HSZ.out.mono (by simp)).far2 hk2 (by decide) _ _


theorem nDigits_limbs (x : Nat) : Lib.nDigits x ≤ 9 * (limbs x).length + 1 := by
  have h := lval_lt (low_limbs x)
  rw [lval_limbs] at h
  refine nDigits_le (by omega) (Nat.lt_of_lt_of_le h ?_)
  rw [show (1000000000 : Nat) = 10 ^ 9 by decide, ← Nat.pow_mul]
  exact Nat.pow_le_pow_right (by omega) (by omega)

/-- A number that a text has room for. -/
def Room (n : Int) : Prop := (limbs n.natAbs).length ≤ 1000000

end Go.Proofs.YtjgbhnbfojkhoaaDoor
namespace Go.Proofs.YtjgbhnbfojkhoaaDoor
open Go.RowKit

/-- The test of one byte. -/
def digB (c : UInt8) : Bool := decide (48 ≤ c.toNat) && decide (c.toNat ≤ 57)

/-- The text without its sign. -/
def bare (s : ByteArray) : ByteArray := ⟨(Lib.trimPrefix s.data.toList [45]).toArray⟩

theorem trim_any (s : ByteArray) (w : World) : Calls Tryd.prog 64 #[.string s, .string ⟨#[45]⟩] w fun e w' => e = .returned (.string (bare s)) ∧ w = w' :=
  (Tryd.strings_TrimPrefix _ _ _).mono fun _ _ ⟨h1, h2⟩ => ⟨h1, h2.symm⟩

theorem bare_list (s : ByteArray) : (bare s).data.toList = Lib.trimPrefix s.data.toList [45] := by unfold bare; rfl

/-- goodB, told of the text without its sign. -/
theorem good_bare {s D : ByteArray} (h : bare s = D) : goodB s.data.toList = (decide (D.data.toList ≠ []) && decide (D.data.toList.length ≤ 100) && (if D.data.toList.head? = some 48 then decide (s.data.toList = [48]) else D.data.toList.all digB)) := by
  subst h
  rw [bare_list]
  rfl
theorem head_byte {D : ByteArray} (h : 0 < D.size) : D.data.toList.head? = some D[0] := by
  rw [List.head?_eq_getElem?, List.getElem?_eq_getElem (by rw [bytes_len]; exact h)]
  rfl

set_option maxHeartbeats 400000 in
theorem Good_any (s : ByteArray) (w : World) :
    Calls Tryd.prog 54 #[.string s] w fun e w' => e = .returned (.bool (goodB s.data.toList)) ∧ w = w' := by
  obtain ⟨D, hD⟩ : ∃ D, bare s = D := ⟨_, rfl⟩
  have HG := Lib.hid (good_bare hD)
  have HT : Calls Tryd.prog 64 #[.string s, .string ⟨#[45]⟩] w fun e w' => e = .returned (.string D) ∧ w = w' := by rw [← hD]; exact trim_any s w
  have HL := Lib.hid (bytes_len D)
  clear hD
  rcases Nat.eq_zero_or_pos D.size with h0 | h0
  · have e1 : ((D.size : Int) == 0) = true := beq_iff_eq.2 (by omega)
    have HF : Hid (goodB s.data.toList = false) := Lib.hid (by
      rw [HG.out]
      have : D.data.toList = [] := List.length_eq_zero_iff.1 (by rw [HL.out]; exact h0)
      rw [this]; rfl)
    clear h0
    go_enter Tryd.func54, Tryd.ntmps54
    go_wp2_with (go_at_call 64; refine HT.mono ?_; rintro e w' ⟨rfl, rfl⟩)
    go_ret
    exact ⟨by rw [HF.out]; rfl, rfl⟩
  · have e1 : ((D.size : Int) == 0) = false := beq_eq_false_iff_ne.2 (by omega)
    by_cases h1 : 100 < D.size
    · have HF : Hid (goodB s.data.toList = false) := Lib.hid (by
        rw [HG.out, HL.out]
        have : decide (D.size ≤ 100) = false := by simp; omega
        rw [this]; simp)

      go_enter Tryd.func54, Tryd.ntmps54
      go_wp2_with (go_at_call 64; refine HT.mono ?_; rintro e w' ⟨rfl, rfl⟩)
      go_ret
      exact ⟨by rw [HF.out]; rfl, rfl⟩
    · have h2 : D.size ≤ 100 := by omega
      have hn : decide (D.data.toList ≠ []) = true := by
        simp only [decide_eq_true_eq]; intro h; have := HL.out; rw [h] at this; simp at this; omega
      have hl : decide (D.data.toList.length ≤ 100) = true := by simp only [decide_eq_true_eq]; rw [HL.out]; exact h2
      have hh := head_byte h0
      by_cases h3 : D[0].toNat = 48
      · have e3 : ((D[0].toNat : Int) == 48) = true := beq_iff_eq.2 (by omega)
        have HF : Hid (goodB s.data.toList = (s.toList == [48])) := Lib.hid (by
          rw [HG.out, hn, hl, hh]
          have : D[0] = 48 := UInt8.toNat_inj.1 h3
          rw [this]
          rw [ByteArray.toList_eq]
          simp
          rw [Bool.eq_iff_iff]
          simp)
        clear hn hl hh h1 h3
        go_enter Tryd.func54, Tryd.ntmps54
        go_wp2_with (go_at_call 64; refine HT.mono ?_; rintro e w' ⟨rfl, rfl⟩)
        go_ret
        exact ⟨by rw [HF.out]; rfl, rfl⟩
      · have e3 : ((D[0].toNat : Int) == 48) = false := beq_eq_false_iff_ne.2 (by omega)
        have HF : Hid (goodB s.data.toList = D.data.toList.all digB) := Lib.hid (by
          rw [HG.out, hn, hl, hh, if_neg (by intro h; simp at h; rw [h] at h3; exact h3 rfl)]
          rfl)
        clear hn hl hh h1 h3
        go_enter Tryd.func54, Tryd.ntmps54
        go_wp2_with (go_at_call 64; refine HT.mono ?_; rintro e w' ⟨rfl, rfl⟩)
        go_loop [22] (fun i => ∃ k : Nat, k ≤ D.size ∧ i = .int .i64 k ∧ Hid ((D.data.toList.take k).all digB = true)) (fun i => D.size - (intOf i).toNat)
        case atStart => exact ⟨0, Nat.zero_le _, rfl, Lib.hid rfl⟩
        case round =>
          obtain ⟨k, hk, rfl, HK⟩ := hrel
          by_cases hlt : k < D.size
          · have HS : Hid ((D.data.toList.take (k + 1)).all digB = digB D[k]) := Lib.hid (by
              rw [List.take_succ_eq_append_getElem (by rw [HL.out]; exact hlt), List.all_append, HK.out]
              simp
              rfl)
            by_cases hd : 48 ≤ D[k].toNat ∧ D[k].toNat ≤ 57
            · obtain ⟨hd1, hd2⟩ := hd
              have HS2 : Hid (digB D[k] = true) := Lib.hid (by unfold digB; simp [hd1, hd2])
              go_wp2
              go_round
              case rel => exact ⟨k + 1, by omega, by go_num, Lib.hid (by rw [HS.out, HS2.out])⟩
              case measure => simp [intOf]; omega
            · have HF2 : Hid (D.data.toList.all digB = false) := Lib.hid (by
                rw [List.all_eq_false]
                refine ⟨D[k], ?_, ?_⟩
                · exact bytes_mem D k hlt
                · unfold digB; simp; omega)
              rcases (show D[k].toNat < 48 ∨ (48 ≤ D[k].toNat ∧ 57 < D[k].toNat) by omega) with h | ⟨h, h'⟩
              all_goals
                clear hd
                go_wp2
                go_ret
                exact ⟨by rw [HF.out, HF2.out]; rfl, rfl⟩
          · go_wp2
            go_ret
            exact ⟨by rw [HF.out]; have := HK.out; rw [List.take_of_length_le (by rw [HL.out]; omega)] at this; rw [this]; rfl, rfl⟩

end Go.Proofs.YtjgbhnbfojkhoaaDoor
namespace Go.Proofs.YtjgbhnbfojkhoaaDoor
open Go.RowKit

/-- A number's text. -/
def str (n : Int) : ByteArray := ⟨(Lib.itoa n).toArray⟩
theorem str_list (n : Int) : (str n).data.toList = Lib.itoa n := by simp [str]
theorem str_of {s : ByteArray} {n : Int} (h : s.data.toList = Lib.itoa n) : s = str n := by
  unfold str
  rw [← h]
theorem digitsOf_itoa (n : Int) : digitsOf (Lib.itoa n) = Lib.decDigits n.natAbs := by
  unfold digitsOf Lib.itoa
  split
  · rfl
  · rename_i h0
    rw [show n.toNat = n.natAbs by omega]
    rcases trim_minus (Lib.decDigits n.natAbs) with ⟨r, h, -, -⟩ | ⟨-, h, -⟩
    · exact absurd (by rw [h]; rfl) (dec_minus n.natAbs)
    · exact h
theorem prefix_itoa (n : Int) : Lib.hasPrefix (Lib.itoa n) [45] = decide (n < 0) := by
  unfold Lib.itoa
  split
  · rename_i h; rw [decide_eq_true h]; rfl
  · rename_i h
    rw [decide_eq_false h, show n.toNat = n.natAbs by omega]
    rcases trim_minus (Lib.decDigits n.natAbs) with ⟨r, h, -, -⟩ | ⟨-, -, h⟩
    · exact absurd (by rw [h]; rfl) (dec_minus n.natAbs)
    · exact h
theorem textVal_itoa (n : Int) : textVal (Lib.itoa n) = n := by
  unfold textVal
  rw [prefix_itoa, digitsOf_itoa, dval_decDigits, sg_self]
theorem itoa_inj {a b : Int} (h : Lib.itoa a = Lib.itoa b) : a = b := by rw [← textVal_itoa a, h, textVal_itoa]
theorem str_inj {a b : Int} (h : str a = str b) : a = b := itoa_inj (by rw [← str_list, h, str_list])
theorem fits_digits {n : Int} (h : Fits n) : Lib.nDigits n.natAbs ≤ 100 := nDigits_le (by omega) h
theorem fits_limbs {x k : Nat} (h : x < 10 ^ (9 * k)) : (limbs x).length ≤ k := limbs_length (by rw [show (1000000000 : Nat) = 10 ^ 9 by rfl, ← Nat.pow_mul]; exact h)
theorem Fits.limbs {n : Int} (h : Fits n) : (limbs n.natAbs).length ≤ 12 := fits_limbs (Nat.lt_of_lt_of_le h (Nat.pow_le_pow_right (by omega) (by omega)))
theorem Fits.room {n : Int} (h : Fits n) : Room n := Nat.le_trans h.limbs (by omega)
instance (n : Int) : Decidable (Fits n) := by unfold Fits; infer_instance
theorem good_str (n : Int) : goodB (str n).data.toList = decide (Fits n) := by
  rw [str_list]
  by_cases h : Fits n
  · rw [decide_eq_true h]; exact (good_iff _).2 ⟨n, h, rfl⟩
  · rw [decide_eq_false h]
    cases hg : goodB (Lib.itoa n) with
    | false => rfl
    | true =>
      obtain ⟨m, hm, e⟩ := (good_iff _).1 hg
      rw [itoa_inj e] at h
      exact absurd hm h
theorem good_cases (s : ByteArray) : goodB s.data.toList = false ∨ ∃ n, Fits n ∧ s = str n := by
  cases hg : goodB s.data.toList with
  | false => exact .inl rfl
  | true =>
    obtain ⟨m, hm, e⟩ := (good_iff _).1 hg
    exact .inr ⟨m, hm, str_of e⟩
theorem read_str {n : Int} (h : Fits n) (w : World) : Calls Tryd.prog 56 #[.string (str n)] w fun e w' => MakesW w.heap.size w.heap.size w n e w' := by
  have := read_any (str n) w (by rw [str_list, digitsOf_itoa]; exact digs_decDigits _) (by rw [str_list, digitsOf_itoa, Lib.decDigits_length]; exact Nat.le_trans (fits_digits h) (by omega))
  rw [str_list, textVal_itoa] at this
  exact this
theorem Fits.add {a b : Int} (ha : Fits a) (hb : Fits b) : Room (a + b) := by
  refine Nat.le_trans (fits_limbs (k := 12) ?_) (by omega)
  have h1 : (a + b).natAbs < 10 ^ 101 := by unfold Fits at ha hb; omega
  exact Nat.lt_of_lt_of_le h1 (Nat.pow_le_pow_right (by omega) (by omega))
theorem Fits.sub {a b : Int} (ha : Fits a) (hb : Fits b) : Room (a - b) := by
  refine Nat.le_trans (fits_limbs (k := 12) ?_) (by omega)
  have h1 : (a - b).natAbs < 10 ^ 101 := by unfold Fits at ha hb; omega
  exact Nat.lt_of_lt_of_le h1 (Nat.pow_le_pow_right (by omega) (by omega))
theorem Fits.mul {a b : Int} (ha : Fits a) (hb : Fits b) : Room (a * b) := by
  refine Nat.le_trans (fits_limbs (k := 23) ?_) (by omega)
  have h1 : (a * b).natAbs < 10 ^ 100 * 10 ^ 100 := by rw [Int.natAbs_mul]; exact Nat.mul_lt_mul'' ha hb
  exact Nat.lt_of_lt_of_le (by rw [← Nat.pow_add] at h1; exact h1) (Nat.pow_le_pow_right (by omega) (by omega))
theorem Fits.tdiv {a b : Int} (ha : Fits a) : Fits (a.tdiv b) := by
  unfold Fits at *
  rw [Int.natAbs_tdiv]
  exact Nat.lt_of_le_of_lt (Nat.div_le_self _ _) ha
theorem Fits.tmod {a b : Int} (ha : Fits a) : Fits (a.tmod b) := by
  unfold Fits at *
  rw [Int.natAbs_tmod]
  exact Nat.lt_of_le_of_lt (Nat.mod_le _ _) ha
end Go.Proofs.YtjgbhnbfojkhoaaDoor
