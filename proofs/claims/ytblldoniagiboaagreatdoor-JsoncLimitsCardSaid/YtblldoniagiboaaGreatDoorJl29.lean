/- value.List; a list of two values · digits -/
import Derived.Test.YtblldoniagiboaaGreatDoorJl09
import Derived.Test.YtblldoniagiboaaGreatDoorJl17
namespace Go.Proofs.YtblldoniagiboaaGreatDoor
open Go.RowKit
set_option linter.unusedVariables false

set_option maxRecDepth 100000 in
set_option maxHeartbeats 4000000 in
theorem list_any {B : Nat} {w : World} {its : List VT} {ad : Option Addr} {cap g o : Nat} {ik : Nat → Int} {ib : Nat → Bool} {it : Nat → ByteArray} {ii iv : Nat → Value} (hsm : its.length ≤ 1000000) (hsi : ∀ x ∈ its, smallT x)
    (ha : 0 < its.length → ad = some ⟨g, o, none⟩ ∧ g < B)
    (hcell : ∀ j, j < its.length → Five w g (o + j * 5) (.int .i64 (ik j)) (.bool (ib j)) (.string (it j)) (ii j) (iv j))
    (hrec : ∀ j (h : j < its.length), Is B w (.agg #[.int .i64 (ik j), .bool (ib j), .string (it j), ii j, iv j]) its[j])
    (W : World) (hb : Below B w W) (hBW : B ≤ W.heap.size) : Calls Tryz.prog 139 #[.slice ad its.length cap] W (Clones (.node 5 false ⟨#[]⟩ its []) W) := by
  have en : nil5 = #[.int .i64 0, .bool false, .string ⟨#[]⟩, .slice none 0 0, .slice none 0 0] := rfl
  have hb0 := below_new W (.cells nil5 26)
  have hr0 := Blk.new W nil5 26
  have HZ0 : Hid ((W.alloc (.cells nil5 26)).heap.size = W.heap.size + 1) := Lib.hid (by simp)
  have HAll := Lib.hid (cloneAll_of (cap := cap) hsm ha hcell hrec (fun j hj => clone_any (hrec j hj) (hsi _ (List.getElem_mem hj))) (W.alloc (.cells nil5 26)) (hb.trans (hb0.mono hBW)) (Nat.le_trans hBW hb0.size))
  obtain ⟨len, hlen⟩ : ∃ len, its.length = len := ⟨_, rfl⟩
  have HL := Lib.hid hlen
  rw [hlen] at HAll ⊢
  have HSM := Lib.hid hsm
  rw [en] at hb0 hr0 HZ0 HAll
  have HB0 := Lib.hid hb0
  have HR0 := Lib.hid hr0
  clear hsm hsi ha hcell hrec hlen hb0 hr0 hb hBW
  go_enter Tryz.func139, Tryz.ntmps139
  go_wp2_with fail
  go_at_call 173; refine HAll.out.mono ?_; rintro e w1 ⟨ad', cap', rfl, hitf, hb1⟩
  rw [HL.out]
  have HIT := Lib.hid hitf
  have HBx1 := Lib.hid hb1
  have HB1 := Lib.hid (HB0.out.trans (hb1.mono HB0.out.size))
  have hr1 := HR0.out.below hb1
  have HR1 := Lib.hid hr1
  have r0 := hr1.cell 0
  have r1 := hr1.cell 1
  have r2 := hr1.cell 2
  have r3 := hr1.cell 3
  have r4 := hr1.cell 4
  have s0 := hr1.frozen 0
  have s1 := hr1.frozen 1
  have s2 := hr1.frozen 2
  have s3 := hr1.frozen 3
  have s4 := hr1.frozen 4
  clear hitf hb1 hr1
  go_wp2_with fail
  have HR3 := HR1.out.set5 (.int .i64 5) (.bool false) (.string ⟨#[]⟩) (.slice ad' len cap') (.slice none 0 0)
  have d0 := HR3.cell 0
  have d1 := HR3.cell 1
  have d2 := HR3.cell 2
  have d3 := HR3.cell 3
  have d4 := HR3.cell 4
  have hfin : Clones (.node 5 false ⟨#[]⟩ its []) W (.returned (.agg #[.int .i64 5, .bool false, .string ⟨#[]⟩, .slice ad' len cap', .slice none 0 0])) (set5 w1 W.heap.size 0 (.int .i64 5) (.bool false) (.string ⟨#[]⟩) (.slice ad' len cap') (.slice none 0 0)) := by
    refine ⟨_, rfl, ?_, below_set5at HB1.out (Nat.le_refl _) _ _ _ _ _ _⟩
    have hz := HZ0.out
    have hx1 := HBx1.out.size
    have hks : StrsF W.heap.size W.heap.size W (.slice none 0 0) [] := ⟨none, 0, rfl, by simp, by simp, fun h => absurd h (by simp)⟩
    have hf := fresh_of (lo0 := W.heap.size) (k := 5) (b := false) (t := ⟨#[]⟩) (w3 := set5 w1 W.heap.size 0 (.int .i64 5) (.bool false) (.string ⟨#[]⟩) (.slice ad' len cap') (.slice none 0 0)) hks HIT.out (by have := HSM.out; have := HL.out; omega) (fun g h1 h2 => by omega) (fun g h1 h2 => set5_other _ _ _ _ _ _ _ _ (by omega)) (Nat.le_refl _) (by omega) (by rw [set5_size]; have := HB1.out.size; omega) (by rw [set5_size]; exact Nat.le_refl _)
    rw [HL.out] at hf
    exact hf
  refine bodyPost_ret (v := .agg #[.int .i64 5, .bool false, .string ⟨#[]⟩, .slice ad' len cap', .slice none 0 0]) ?_ rfl hfin
  simp [results, Tryz.results139, go_sem, d0, d1, d2, d3, d4]

/-- A list of two values. -/
theorem list_pair {B : Nat} {w : World} {k k' : Int} {b b' : Bool} {t t' : ByteArray} {x y x' y' : Value} {T T' : VT} (h : Is B w (.agg #[.int .i64 k, .bool b, .string t, x, y]) T) (h' : Is B w (.agg #[.int .i64 k', .bool b', .string t', x', y']) T') (hs : smallT T) (hs' : smallT T') (W : World) (hb : Below B w W) (hBW : B ≤ W.heap.size) (X : Nat) (hX : Blk W X #[.int .i64 k, .bool b, .string t, x, y, .int .i64 k', .bool b', .string t', x', y'] 26) :
    Calls Tryz.prog 139 #[.slice (some ⟨X, 0, none⟩) 2 2] W (Clones (.node 5 false ⟨#[]⟩ [T, T'] []) W) := by
  have hI : Is W.heap.size W (.agg #[.int .i64 k, .bool b, .string t, x, y]) T := (h.later hb).wide hBW
  have hI' : Is W.heap.size W (.agg #[.int .i64 k', .bool b', .string t', x', y']) T' := (h'.later hb).wide hBW
  refine list_any (its := [T, T']) (g := X) (o := 0) (ik := fun j => if j = 0 then k else k') (ib := fun j => if j = 0 then b else b') (it := fun j => if j = 0 then t else t') (ii := fun j => if j = 0 then x else x') (iv := fun j => if j = 0 then y else y') (B := W.heap.size) (w := W) (by simp) (fun z hz => by simp at hz; rcases hz with rfl | rfl <;> assumption) (fun _ => ⟨rfl, hX.lt⟩) (fun j hj => ?_) (fun j hj => ?_) W (Below.refl _ _) (Nat.le_refl _)
  · have hj2 : j < 2 := hj
    rcases (show j = 0 ∨ j = 1 by omega) with rfl | rfl
    · exact ⟨hX.cell 0, hX.cell 1, hX.cell 2, hX.cell 3, hX.cell 4⟩
    · exact ⟨hX.cell 5, hX.cell 6, hX.cell 7, hX.cell 8, hX.cell 9⟩
  · have hj2 : j < 2 := hj
    rcases (show j = 0 ∨ j = 1 by omega) with rfl | rfl
    · exact hI
    · exact hI'
end Go.Proofs.YtblldoniagiboaaGreatDoor
namespace Go.Proofs.YtblldoniagiboaaGreatDoor
open Go.RowKit
set_option linter.unusedVariables false

def digN (x : Nat) : Bool := decide (48 ≤ x) && decide (x ≤ 57)
theorem digJ_nat (c : UInt8) : digJ c = digN c.toNat := by
  unfold digJ digN
  rw [Bool.eq_iff_iff]
  simp [UInt8.le_iff_toNat_le]
set_option maxHeartbeats 1000000 in
theorem isDigit_b (x : Nat) {b : Bool} (hb : digN x = b) (w : World) : Calls Tryz.prog 106 #[.int .u8 (x : Int)] w fun e w' => e = .returned (.bool b) ∧ w = w' := by
  unfold digN at hb
  by_cases h1 : 48 ≤ x
  · have i1 : (48 : Int) ≤ (x : Int) := by omega
    by_cases h2 : x ≤ 57
    · have i2 : (x : Int) ≤ 57 := by omega
      obtain rfl : b = true := by rw [← hb]; simp [h1, h2]
      clear hb
      go_enter Tryz.func106, Tryz.ntmps106
      go_wp2
      go_ret
      exact ⟨rfl, rfl⟩
    · have i2 : ¬ (x : Int) ≤ 57 := by omega
      obtain rfl : b = false := by rw [← hb]; simp [h2]
      clear hb
      go_enter Tryz.func106, Tryz.ntmps106
      go_wp2
      go_ret
      exact ⟨rfl, rfl⟩
  · have i1 : ¬ (48 : Int) ≤ (x : Int) := by omega
    obtain rfl : b = false := by rw [← hb]; simp [h1]
    clear hb
    go_enter Tryz.func106, Tryz.ntmps106
    go_wp2
    go_ret
    exact ⟨rfl, rfl⟩
theorem headN_any (R : List UInt8) : R.head?.any digJ = digN (headN R) := by
  cases R with
  | nil => rfl
  | cons c r => exact digJ_nat c
theorem digsJ_len (D : List UInt8) : (digsJ D).length ≤ D.length := by
  unfold digsJ
  split
  · rename_i h
    obtain ⟨r, rfl⟩ := pre_head.1 h
    simp
  · exact (List.takeWhile_prefix _).length_le
theorem digsJ_take (D : List UInt8) : digsJ D = D.take (digsJ D).length := by
  unfold digsJ
  split
  · rename_i h
    obtain ⟨r, rfl⟩ := pre_head.1 h
    rfl
  · exact (List.prefix_iff_eq_take.1 (List.takeWhile_prefix _))
theorem extract_len {t : ByteArray} {a b : Nat} (h1 : a ≤ b) : (t.extract a b).data.toList = (rest t a).take (b - a) := by
  obtain ⟨m, rfl⟩ : ∃ m, b = a + m := ⟨b - a, by omega⟩
  unfold rest
  rw [ByteArray.data_extract, Array.toList_extract, List.extract_eq_take_drop]
set_option maxRecDepth 100000 in
set_option maxHeartbeats 2000000 in
theorem digits_no {W : World} {P a n : Nat} {t : ByteArray} (h : Rdr W P t a n) (hd : (rest t a).head?.any digJ = false) : Calls Tryz.prog 144 #[.pointer (some ⟨P, 0, none⟩)] W fun e w' => Thrown W P t (30, (rest t a).length) e w' := by
  have HP := Lib.hid (peek_any h)
  have HD := Lib.hid (fun w => isDigit_b (headN (rest t a)) ((headN_any _).symm.trans hd) w)
  have k1 := h.1.cell 1
  have HS := Lib.hid h
  clear h hd
  go_enter Tryz.func144, Tryz.ntmps144
  go_wp2_with fail
  go_at_call 101; refine HP.out.mono ?_; rintro e w1 ⟨rfl, hb1⟩
  have HW := Lib.hid (HS.out.stays hb1)
  clear hb1 k1
  go_wp2_with (first | (go_at_call 106; refine (HD.out _).mono ?_; rintro e w2 ⟨rfl, rfl⟩) | (go_at_call 66; refine (diag_any _ _ _).mono ?_; rintro e w2 ⟨rfl, rfl⟩))
  exact ⟨rfl, thrown_new (c := 30) HW.out (l := (rest t a).length) (rest_back HW.out.2.2.1)⟩
/-- digits ends behind them. -/
def DigsEnd (W : World) (P : Nat) (t : ByteArray) (a n : Nat) (e : Ending) (w' : World) : Prop := ∃ b, e = .returned (.string (t.extract a b)) ∧ b = a + (digsJ (rest t a)).length ∧ Went W w' P t b n
set_option maxRecDepth 100000 in
set_option maxHeartbeats 4000000 in
theorem digits_yes {W : World} {P a n : Nat} {t : ByteArray} (h : Rdr W P t a n) (hd : (rest t a).head?.any digJ = true) : Calls Tryz.prog 144 #[.pointer (some ⟨P, 0, none⟩)] W (DigsEnd W P t a n) := by
  have HP := Lib.hid (peek_any h)
  have HD := Lib.hid (fun w => isDigit_b (headN (rest t a)) ((headN_any _).symm.trans hd) w)
  have k1 := h.1.cell 1
  have HS := Lib.hid h
  have hsz := h.2
  cases h48 : Lib.hasPrefix (rest t a) [48]
  · have HE0 := Lib.hid (show digsJ (rest t a) = (rest t a).takeWhile digJ by unfold digsJ; rw [if_neg (by rw [h48]; decide)])
    have H48 := Lib.hid h48
    clear h hd h48
    go_enter Tryz.func144, Tryz.ntmps144
    go_wp2_with fail
    go_at_call 101; refine HP.out.mono ?_; rintro e w1 ⟨rfl, hb1⟩
    have HW := Lib.hid (HS.out.stays hb1)
    clear hb1 k1
    go_wp2_with (go_at_call 106; refine (HD.out _).mono ?_; rintro e w2 ⟨rfl, rfl⟩)
    go_at_call 109; refine (skip_b HW.out.2 ⟨#[48]⟩ H48.out).mono ?_; rintro e w2 ⟨rfl, hw2⟩
    have HW2 := Lib.hid (HW.out.trans hw2)
    clear hw2
    go_wp2_with fail
    go_loopg [] t.size (fun gf wx => ∃ c : Nat, Hid (Went W wx P t c n) ∧ Hid (a ≤ c ∧ (rest t a).takeWhile digJ = (rest t a).take (c - a) ++ (rest t c).takeWhile digJ) ∧ t.size - c ≤ gf)
    case atStart => exact ⟨a, HW2, Lib.hid ⟨Nat.le_refl _, by simp⟩, by omega⟩
    case round =>
      obtain ⟨c, HX, HT, hc⟩ := hrel
      have HPc := Lib.hid (peek_any HX.out.2)
      have hcs := HX.out.2.2.1
      have hac := HT.out.1
      by_cases hlt : digN (headN (rest t c)) = true
      · have hcl : c < t.size := by
          rcases Nat.lt_or_ge c t.size with h | h
          · exact h
          · rw [rest_nil h] at hlt; cases hlt
        have HDc := Lib.hid (fun w => isDigit_b (headN (rest t c)) hlt w)
        obtain ⟨g', rfl⟩ : ∃ g', gk = g' + 1 := ⟨gk - 1, by omega⟩
        have hrc := rest_cons hcl
        have hdc : digJ (t[c]'hcl) = true := by rw [digJ_nat]; rw [hrc] at hlt; exact hlt
        have HN := Lib.hid (show a ≤ c + 1 ∧ (rest t a).takeWhile digJ = (rest t a).take (c + 1 - a) ++ (rest t (c + 1)).takeWhile digJ from ⟨by omega, by
          have h1 := HT.out.2
          rw [hrc, List.takeWhile_cons_of_pos hdc] at h1
          have h2 : (rest t a).take (c + 1 - a) = (rest t a).take (c - a) ++ [t[c]'hcl] := by
            rw [show c + 1 - a = (c - a) + 1 by omega, List.take_succ_eq_append_getElem (by rw [rest_length]; omega)]
            congr 1
            have : rest t c = (rest t a).drop (c - a) := by rw [← rest_add, show a + (c - a) = c by omega]
            rw [hrc, List.drop_eq_getElem_cons (by rw [rest_length]; omega)] at this
            rw [(List.cons.inj this).1]
          rw [h2, List.append_assoc]
          exact h1⟩)
        clear hrc hdc hlt
        have i0 : (0 : Int) ≤ (c : Int) := by omega
        have i1 : (c : Int) < (t.size : Int) := by omega
        go_wp2_with fail
        go_at_call 101; refine HPc.out.mono ?_; rintro e w3 ⟨rfl, hb3⟩
        have HX3 := Lib.hid (HX.out.trans (HX.out.2.stays hb3))
        have q1 := HX3.out.2.1.cell 1
        have f1 := HX3.out.2.1.frozen 1
        clear hb3
        go_wp2_with (go_at_call 106; refine (HDc.out _).mono ?_; rintro e w4 ⟨rfl, rfl⟩)
        have HX4 := Lib.hid (HX3.out.trans (HX3.out.2.moves (b := c + 1) (by omega)))
        go_roundg g'
        case measure => omega
        case rel => exact ⟨c + 1, by simpa using HX4, HN, by omega⟩
      · have hlt : digN (headN (rest t c)) = false := by simpa using hlt
        have HDc := Lib.hid (fun w => isDigit_b (headN (rest t c)) hlt w)
        have HE := Lib.hid (show c = a + (digsJ (rest t a)).length by
          have h1 := HT.out.2
          have h2 : (rest t c).takeWhile digJ = [] := by
            cases hr : rest t c with
            | nil => rfl
            | cons x r =>
              rw [hr] at hlt
              rw [List.takeWhile_cons_of_neg (by rw [digJ_nat]; show ¬ digN x.toNat = true; rw [show digN x.toNat = false from hlt]; decide)]
          rw [HE0.out, h1, h2, List.append_nil, List.length_take, rest_length]
          omega)
        clear hlt
        have i0 : (0 : Int) ≤ (a : Int) := by omega
        have i1 : (a : Int) ≤ (c : Int) := by omega
        have i2 : (c : Int) ≤ (t.size : Int) := by omega
        go_wp2_with fail
        go_at_call 101; refine HPc.out.mono ?_; rintro e w3 ⟨rfl, hb3⟩
        have HX3 := Lib.hid (HX.out.trans (HX.out.2.stays hb3))
        have q0 := HX3.out.2.1.cell 0
        have q1 := HX3.out.2.1.cell 1
        clear hb3
        go_wp2_with (go_at_call 106; refine (HDc.out _).mono ?_; rintro e w4 ⟨rfl, rfl⟩)
        go_quiet (fail)
        go_wp2
        go_ret
        exact ⟨c, rfl, HE.out, HX3.out.trans (HX3.out.2.stays (below_drewN _ _))⟩
  · have HE0 := Lib.hid (show (digsJ (rest t a)).length = 1 by unfold digsJ; rw [if_pos h48]; rfl)
    have H48 := Lib.hid h48
    have hlen := pre_le (p := ⟨#[48]⟩) h48
    have hl1 : a + 1 ≤ t.size := by
      have : (⟨#[48]⟩ : ByteArray).size = 1 := rfl
      omega
    clear h hd h48 hlen
    have i0 : (0 : Int) ≤ (a : Int) := by omega
    have i2 : (a : Int) + 1 ≤ (t.size : Int) := by omega
    go_enter Tryz.func144, Tryz.ntmps144
    go_wp2_with fail
    go_at_call 101; refine HP.out.mono ?_; rintro e w1 ⟨rfl, hb1⟩
    have HW := Lib.hid (HS.out.stays hb1)
    clear hb1 k1
    go_wp2_with (go_at_call 106; refine (HD.out _).mono ?_; rintro e w2 ⟨rfl, rfl⟩)
    go_at_call 109; refine (skip_b HW.out.2 ⟨#[48]⟩ H48.out).mono ?_; rintro e w2 ⟨rfl, hw2⟩
    have HW2 := Lib.hid (show Went W w2 P t (a + 1) n from HW.out.trans hw2)
    clear hw2
    have q0 := HW2.out.2.1.cell 0
    have q1 := HW2.out.2.1.cell 1
    go_wp2_with fail
    go_quiet (fail)
    go_wp2
    go_ret
    exact ⟨a + 1, rfl, by rw [HE0.out], HW2.out.trans (HW2.out.2.stays (below_drewN _ _))⟩
end Go.Proofs.YtblldoniagiboaaGreatDoor
