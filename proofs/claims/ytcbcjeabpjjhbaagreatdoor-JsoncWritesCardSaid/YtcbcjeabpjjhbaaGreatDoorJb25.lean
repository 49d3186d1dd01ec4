/- A rune's bytes: the document's Rune is the library's; what is written of a rune is read as it · A number, a word -/
import Derived.Lib.MapLaws
import Derived.Lib.ValidLaws
import Derived.StillTailTactics
import Derived.Deep.RegionHeld3
import Derived.Test.YtcbcjeabpjjhbaaGreatDoorJb23
import Derived.Test.YtcbcjeabpjjhbaaGreatDoorJb24
namespace Go.Proofs.YtcbcjeabpjjhbaaGreatDoor
set_option linter.unusedVariables false

theorem headZ_getD {R : List UInt8} {i : Nat} (h : i < R.length) : headZ (R.drop i) = ((R.getD i 0).toNat : Int) := by
  rw [List.drop_eq_getElem_cons h]
  simp [headZ, List.getD, h]
theorem headZ_past {R : List UInt8} {i : Nat} (h : ¬ i < R.length) : headZ (R.drop i) = -1 := by
  rw [List.drop_of_length_le (by omega)]
  rfl
set_option maxRecDepth 100000 in
theorem docRune_N {n b0 b1 b2 b3 : Nat} {z1 z2 z3 : Int} (hn : 1 ≤ n) (h0 : b0 < 256) (h1 : b1 < 256) (h2 : b2 < 256) (h3 : b3 < 256) (e1 : z1 = if 1 < n then (b1 : Int) else -1) (e2 : z2 = if 2 < n then (b2 : Int) else -1) (e3 : z3 = if 3 < n then (b3 : Int) else -1) :
    docRune (b0 : Int) z1 z2 z3 = if Lib.decodeN n b0 b1 b2 b3 = (65533, 1) then 0 else (Lib.decodeN n b0 b1 b2 b3).2 := by
  have m1 : moreZ z1 = decide (1 < n ∧ b1 / 64 = 2) := by
    rw [Bool.eq_iff_iff]; unfold moreZ; subst e1; simp; split <;> omega
  have m2 : moreZ z2 = decide (2 < n ∧ b2 / 64 = 2) := by
    rw [Bool.eq_iff_iff]; unfold moreZ; subst e2; simp; split <;> omega
  have m3 : moreZ z3 = decide (3 < n ∧ b3 / 64 = 2) := by
    rw [Bool.eq_iff_iff]; unfold moreZ; subst e3; simp; split <;> omega
  unfold docRune
  rw [m1, m2, m3]
  by_cases c0 : b0 < 128
  · rw [if_neg (by omega), if_pos (by omega)]
    have : Lib.decodeN n b0 b1 b2 b3 = (b0, 1) := by unfold Lib.decodeN; rw [if_pos c0]
    rw [this, if_neg (by simp; omega)]
  rw [if_neg (by omega), if_neg (by omega)]
  by_cases c1 : b0 < 194
  · rw [if_pos (by omega), Lib.decodeN_bad n b0 b1 b2 b3 (by omega), if_pos rfl]
  rw [if_neg (by omega)]
  by_cases c2 : b0 < 224
  · rw [if_pos (by omega)]
    by_cases hm : 1 < n ∧ b1 / 64 = 2
    · have : Lib.decodeN n b0 b1 b2 b3 = (b0 % 32 * 64 + b1 % 64, 2) := by
        unfold Lib.decodeN
        repeat' split
        all_goals first | rfl | omega
      rw [this, if_pos (by simpa using hm), if_neg (by simp)]
    · have : Lib.decodeN n b0 b1 b2 b3 = (65533, 1) := by
        unfold Lib.decodeN
        repeat' split
        all_goals first | rfl | omega
      rw [this, if_neg (by simpa using hm), if_pos rfl]
  rw [if_neg (by omega)]
  by_cases c3 : b0 < 240
  · rw [if_pos (by omega)]
    by_cases hm : (1 < n ∧ b1 / 64 = 2) ∧ (2 < n ∧ b2 / 64 = 2)
    · rw [if_pos (by simpa using hm)]
      have ez : threeZ (b0 : Int) z1 z2 = ((b0 % 16 * 4096 + b1 % 64 * 64 + b2 % 64 : Nat) : Int) := by
        unfold threeZ; rw [e1, e2, if_pos hm.1.1, if_pos hm.2.1]; omega
      rw [ez]
      by_cases hv : 2048 ≤ b0 % 16 * 4096 + b1 % 64 * 64 + b2 % 64 ∧ (b0 % 16 * 4096 + b1 % 64 * 64 + b2 % 64 < 55296 ∨ 57344 ≤ b0 % 16 * 4096 + b1 % 64 * 64 + b2 % 64)
      · have : Lib.decodeN n b0 b1 b2 b3 = (b0 % 16 * 4096 + b1 % 64 * 64 + b2 % 64, 3) := by
          unfold Lib.decodeN
          repeat' split
          all_goals first | rfl | omega
        rw [this, if_pos (by omega), if_neg (by simp)]
      · have : Lib.decodeN n b0 b1 b2 b3 = (65533, 1) := by
          unfold Lib.decodeN
          repeat' split
          all_goals first | rfl | omega
        rw [this, if_neg (by omega), if_pos rfl]
    · have : Lib.decodeN n b0 b1 b2 b3 = (65533, 1) := by
        unfold Lib.decodeN
        repeat' split
        all_goals first | rfl | omega
      rw [this, if_neg (by simpa using hm), if_pos rfl]
  rw [if_neg (by omega)]
  by_cases c4 : b0 < 245
  · rw [if_pos (by omega)]
    by_cases hm : ((1 < n ∧ b1 / 64 = 2) ∧ (2 < n ∧ b2 / 64 = 2)) ∧ (3 < n ∧ b3 / 64 = 2)
    · rw [if_pos (by simpa using hm)]
      have ez : fourZ (b0 : Int) z1 z2 z3 = ((b0 % 8 * 262144 + b1 % 64 * 4096 + b2 % 64 * 64 + b3 % 64 : Nat) : Int) := by
        unfold fourZ; rw [e1, e2, e3, if_pos hm.1.1.1, if_pos hm.1.2.1, if_pos hm.2.1]; omega
      rw [ez]
      by_cases hv : 65536 ≤ b0 % 8 * 262144 + b1 % 64 * 4096 + b2 % 64 * 64 + b3 % 64 ∧ b0 % 8 * 262144 + b1 % 64 * 4096 + b2 % 64 * 64 + b3 % 64 ≤ 1114111
      · have : Lib.decodeN n b0 b1 b2 b3 = (b0 % 8 * 262144 + b1 % 64 * 4096 + b2 % 64 * 64 + b3 % 64, 4) := by
          unfold Lib.decodeN
          repeat' split
          all_goals first | rfl | omega
        rw [this, if_pos (by omega), if_neg (by simp)]
      · have : Lib.decodeN n b0 b1 b2 b3 = (65533, 1) := by
          unfold Lib.decodeN
          repeat' split
          all_goals first | rfl | omega
        rw [this, if_neg (by omega), if_pos rfl]
    · have : Lib.decodeN n b0 b1 b2 b3 = (65533, 1) := by
        unfold Lib.decodeN
        repeat' split
        all_goals first | rfl | omega
      rw [this, if_neg (by simpa using hm), if_pos rfl]
  rw [if_neg (by omega), Lib.decodeN_bad n b0 b1 b2 b3 (by omega), if_pos rfl]
theorem docRune_L (R : List UInt8) : docRune (headZ R) (headZ (R.drop 1)) (headZ (R.drop 2)) (headZ (R.drop 3)) = if R = [] then 0 else if Lib.decodeL R = (65533, 1) then 0 else (Lib.decodeL R).2 := by
  by_cases hne : R = []
  · subst hne; rfl
  · have hl : 1 ≤ R.length := List.length_pos_iff.2 hne
    rw [if_neg hne, Lib.decodeL_N]
    have e0 : headZ R = ((R.getD 0 0).toNat : Int) := by have := headZ_getD (R := R) (i := 0) (by omega); simpa using this
    rw [e0]
    refine docRune_N hl (UInt8.toNat_lt _) (UInt8.toNat_lt _) (UInt8.toNat_lt _) (UInt8.toNat_lt _) ?_ ?_ ?_
    all_goals (split <;> rename_i h <;> first | exact headZ_getD h | exact headZ_past h)
theorem byte_nat {z : Int} (h0 : 0 ≤ z) (h1 : z < 256) : ((z.toNat.toUInt8).toNat : Nat) = z.toNat := by
  simp
  omega
set_option maxRecDepth 100000 in
/-- What is written of a rune is read as it. -/
theorem decode_encode {r : Int} (hv : Utf8.valid r = true) (Y : List UInt8) : Lib.decodeL (Lib.encodeRune r ++ Y) = (r.toNat, (Lib.encodeRune r).length) := by
  have hv2 : (0 ≤ r ∧ r < 55296) ∨ (57344 ≤ r ∧ r ≤ 1114111) := by
    unfold Utf8.valid at hv
    simpa using hv
  rw [Lib.decodeL_N]
  unfold Lib.encodeRune Lib.encodeRuneZ
  by_cases c1 : 0 ≤ r ∧ r ≤ 127
  · rw [if_pos c1]
    simp only [List.map_cons, List.map_nil, List.cons_append, List.nil_append, List.length_cons, List.length_nil, List.getD_cons_zero]
    rw [byte_nat (by omega) (by omega)]
    unfold Lib.decodeN
    rw [if_pos (by omega)]
  rw [if_neg c1]
  by_cases c2 : 128 ≤ r ∧ r ≤ 2047
  · rw [if_pos c2]
    simp only [List.map_cons, List.map_nil, List.cons_append, List.nil_append, List.length_cons, List.length_nil, List.getD_cons_zero, List.getD_cons_succ]
    rw [byte_nat (by omega) (by omega), byte_nat (by omega) (by omega)]
    generalize (List.getD Y 0 0).toNat = y0
    generalize (List.getD Y 1 0).toNat = y1
    unfold Lib.decodeN
    repeat' split
    all_goals first | (refine Prod.ext ?_ ?_ <;> simp <;> omega) | omega
  rw [if_neg c2]
  by_cases c3 : (2048 ≤ r ∧ r < 55296) ∨ (57343 < r ∧ r ≤ 65535)
  · rw [if_pos c3]
    simp only [List.map_cons, List.map_nil, List.cons_append, List.nil_append, List.length_cons, List.length_nil, List.getD_cons_zero, List.getD_cons_succ]
    rw [byte_nat (by omega) (by omega), byte_nat (by omega) (by omega), byte_nat (by omega) (by omega)]
    generalize (List.getD Y 0 0).toNat = y0
    unfold Lib.decodeN
    repeat' split
    all_goals first | (refine Prod.ext ?_ ?_ <;> simp <;> omega) | omega
  rw [if_neg c3]
  rw [if_pos (by omega)]
  simp only [List.map_cons, List.map_nil, List.cons_append, List.nil_append, List.length_cons, List.length_nil, List.getD_cons_zero, List.getD_cons_succ]
  rw [byte_nat (by omega) (by omega), byte_nat (by omega) (by omega), byte_nat (by omega) (by omega), byte_nat (by omega) (by omega)]
  unfold Lib.decodeN
  repeat' split
  all_goals first | (refine Prod.ext ?_ ?_ <;> simp <;> omega) | omega
end Go.Proofs.YtcbcjeabpjjhbaaGreatDoor
namespace Go.Proofs.YtcbcjeabpjjhbaaGreatDoor
open Go.RowKit
set_option linter.unusedVariables false

set_option maxRecDepth 100000 in
theorem sclone_any {s : ByteArray} (hs : s.size ≤ 1000000) (w : World) : Calls Tryz.prog 84 #[.string s] w fun e w' => e = .returned (.string s) ∧ Below w.heap.size w w' := by
  have HC := Lib.hid (Tryz.stringslite_Clone s w (by omega))
  go_enter Tryz.func84, Tryz.ntmps84
  go_wp2_with (go_at_call 103; refine HC.out.mono ?_; rintro e w1 ⟨rfl, hb⟩)
  go_ret
  exact ⟨rfl, hb⟩
theorem Is.scal (B : Nat) (W : World) (k : Int) (b : Bool) (t : ByteArray) : Is B W (scal k b t) (.node k b t [] []) :=
  Is.mk k b t [] [] none 0 (.slice none 0 0) 0 0 (fun _ => 0) (fun _ => false) (fun _ => ⟨#[]⟩) (fun _ => undef) (fun _ => undef) ⟨none, 0, rfl, by simp, by simp, fun h => absurd h (by simp)⟩ (by simp) (by simp) (fun h => absurd h (by simp)) (fun j h => absurd h (by simp)) (fun j h => absurd h (by simp))
/-- How number and word end. -/
def OneEnds (W : World) (P : Nat) (t : ByteArray) (n : Nat) (r : Except Bad (VT × List UInt8)) (e : Ending) (w' : World) : Prop :=
  match r with
  | .ok (T, R') => ∃ k b s a', T = .node k b s [] [] ∧ e = .returned (scal k b s) ∧ Went W w' P t a' n ∧ rest t a' = R'
  | .error b => Thrown W P t b e w'
theorem OneEnds.after {W W1 w' : World} {P a n m : Nat} {t : ByteArray} {r : Except Bad (VT × List UInt8)} {e : Ending} (hw : Went W W1 P t a m) (h : OneEnds W1 P t n r e w') : OneEnds W P t n r e w' := by
  cases r with
  | error b => exact Thrown.after h hw.1
  | ok y =>
    obtain ⟨k, b, s, a', h1, h2, h3, h4⟩ := h
    exact ⟨k, b, s, a', h1, h2, hw.trans h3, h4⟩
def intR (r : Except Bad (ByteArray × List UInt8)) : Except Bad (VT × List UInt8) := match r with | .error e => .error e | .ok (s, R') => .ok (intT s, R')
/-- Where the digits begin. -/
def digsAt (R : List UInt8) : List UInt8 := if Lib.hasPrefix R [45] then R.drop 1 else R
theorem numJ_no {R : List UInt8} (h : (digsAt R).head?.any digJ = false) : numJ R = .error (30, (digsAt R).length) := by
  unfold digsAt at *
  unfold numJ
  simp only [h]
  rfl
theorem numJ_long {R : List UInt8} (h : (digsAt R).head?.any digJ = true) (hl : 100 < (digsJ (digsAt R)).length) : numJ R = .error (3, R.length) := by
  unfold digsAt at *
  unfold numJ
  simp only [h]
  rw [if_pos trivial, if_pos hl]
theorem numJ_ok {R : List UInt8} (h : (digsAt R).head?.any digJ = true) (hl : ¬ 100 < (digsJ (digsAt R)).length) : numJ R = .ok (⟨(if digsJ (digsAt R) = [48] then [48] else R.take (R.length - (digsAt R).length + (digsJ (digsAt R)).length)).toArray⟩, (digsAt R).drop (digsJ (digsAt R)).length) := by
  unfold digsAt at *
  unfold numJ
  simp only [h]
  rw [if_pos trivial, if_neg hl]
theorem skip_digs {W : World} {P a n : Nat} {t : ByteArray} (h : Rdr W P t a n) : Calls Tryz.prog 65 #[.pointer (some ⟨P, 0, none⟩), .string ⟨#[45]⟩] W fun e w' => (∃ b, e = .returned (.bool b)) ∧ ∃ c, Went W w' P t c n ∧ rest t c = digsAt (rest t a) ∧ a ≤ c ∧ c - a = (rest t a).length - (digsAt (rest t a)).length := by
  cases hb : Lib.hasPrefix (rest t a) [45]
  · refine (skip_b h ⟨#[45]⟩ hb).mono ?_
    rintro e w' ⟨rfl, hw⟩
    exact ⟨⟨_, rfl⟩, a, hw, by unfold digsAt; rw [hb]; rfl, Nat.le_refl _, by unfold digsAt; rw [hb]; simp⟩
  · refine (skip_b h ⟨#[45]⟩ hb).mono ?_
    rintro e w' ⟨rfl, hw⟩
    have hle := pre_le (p := ⟨#[45]⟩) hb
    have h1 : (⟨#[45]⟩ : ByteArray).size = 1 := rfl
    refine ⟨⟨_, rfl⟩, a + 1, hw, by unfold digsAt; rw [hb, if_pos rfl, rest_add], by omega, ?_⟩
    unfold digsAt
    rw [hb, if_pos rfl, List.length_drop, rest_length]
    omega
theorem Aside.setFar {R : Nat} {W w : World} {p : Addr} (h : Aside R W w) (hB : W.heap.size ≤ p.block) (u : Value) : Aside R W (w.setCell p u) :=
  ⟨h.os, h.tape, h.output, by simpa using h.size, fun k hk hr => by rw [Below.heap_setCell w p u k (by omega)]; exact h.block k hk hr⟩
theorem Aside.set5 {R B : Nat} {W w : World} (h : Aside R W w) (hB : W.heap.size ≤ B) (b0 b1 b2 b3 b4 : Value) : Aside R W (((((w.setCell ⟨B, 0, none⟩ b0).setCell ⟨B, 1, none⟩ b1).setCell ⟨B, 2, none⟩ b2).setCell ⟨B, 3, none⟩ b3).setCell ⟨B, 4, none⟩ b4) :=
  ((((h.setFar (p := ⟨B, 0, none⟩) hB b0).setFar (p := ⟨B, 1, none⟩) hB b1).setFar (p := ⟨B, 2, none⟩) hB b2).setFar (p := ⟨B, 3, none⟩) hB b3).setFar (p := ⟨B, 4, none⟩) hB b4
theorem Blk.other5 {Q B : Nat} {w : World} {cs : Array Value} {ty : TypeId} (h : Blk w Q cs ty) (hne : Q ≠ B) (b0 b1 b2 b3 b4 : Value) : Blk (((((w.setCell ⟨B, 0, none⟩ b0).setCell ⟨B, 1, none⟩ b1).setCell ⟨B, 2, none⟩ b2).setCell ⟨B, 3, none⟩ b3).setCell ⟨B, 4, none⟩ b4) Q cs ty :=
  ((((h.other (p := ⟨B, 0, none⟩) hne b0).other (p := ⟨B, 1, none⟩) hne b1).other (p := ⟨B, 2, none⟩) hne b2).other (p := ⟨B, 3, none⟩) hne b3).other (p := ⟨B, 4, none⟩) hne b4
theorem Went.set5 {P a n B : Nat} {W w : World} {t : ByteArray} (h : Went W w P t a n) (hP : P < W.heap.size) (hB : W.heap.size ≤ B) (b0 b1 b2 b3 b4 : Value) : Went W (((((w.setCell ⟨B, 0, none⟩ b0).setCell ⟨B, 1, none⟩ b1).setCell ⟨B, 2, none⟩ b2).setCell ⟨B, 3, none⟩ b3).setCell ⟨B, 4, none⟩ b4) P t a n :=
  ⟨h.1.set5 hB b0 b1 b2 b3 b4, h.2.1.other5 (by omega) b0 b1 b2 b3 b4, h.2.2⟩
set_option maxRecDepth 100000 in
set_option maxHeartbeats 4000000 in
theorem number_any {W : World} {P a n : Nat} {t : ByteArray} (h : Rdr W P t a n) : Calls Tryz.prog 63 #[.pointer (some ⟨P, 0, none⟩)] W (OneEnds W P t n (intR (numJ (rest t a)))) := by
  have hb0 := below_new0 W (.cells #[.int .i64 0, .bool false, .string ⟨#[]⟩, .slice none 0 0, .slice none 0 0] 26)
  have HK := Lib.hid (skip_digs (h.below hb0))
  have HW0 := Lib.hid (h.stays hb0)
  have hBN := Blk.new W #[.int .i64 0, .bool false, .string ⟨#[]⟩, .slice none 0 0, .slice none 0 0] 26
  have k1 := h.1.cell 1
  have hP := h.1.lt
  have HBN := Lib.hid hBN
  have HA := Lib.hid (rest_back h.2.1)
  clear h hb0 hBN
  go_enter Tryz.func63, Tryz.ntmps63
  go_wp2_with fail
  go_at_call 65; refine HK.out.mono ?_; rintro e w1 ⟨⟨bs, rfl⟩, c, hw1, hc, hac, hca⟩
  have HW1 := Lib.hid (HW0.out.trans hw1)
  have HN1 := Lib.hid (HBN.out.aside hw1.1 (by omega))
  have HC := Lib.hid hc
  have HCA := Lib.hid hca
  clear hw1 hc k1 HK HW0 HBN hca
  cases hd : (digsAt (rest t a)).head?.any digJ
  · have HD := Lib.hid (digits_no HW1.out.2 (by rw [HC.out]; exact hd))
    have HX := Lib.hid (numJ_no hd)
    clear hd
    go_wp2_with (go_at_call 83; refine HD.out.mono ?_; rintro e w2 ⟨D, rfl, h1, h2, h3⟩)
    refine ⟨rfl, ?_⟩
    rw [HX.out]
    rw [HC.out] at h2
    exact ⟨D, rfl, Nat.le_trans HW1.out.1.size h1, h2, HW1.out.1.trans h3⟩
  · have HD := Lib.hid (digits_yes HW1.out.2 (by rw [HC.out]; exact hd))
    have hcs := HW1.out.2.2.1
    have hsz := HW1.out.2.2.2.1
    obtain ⟨G, hG⟩ : ∃ G, digsJ (digsAt (rest t a)) = G := ⟨_, rfl⟩
    have HD2 := Lib.hid (HD.out.mono fun e w' (x : DigsEnd w1 P t c n e w') => (by
      obtain ⟨b, h1, h2, h3⟩ := x
      rw [HC.out, hG] at h2
      exact ⟨b, h1, h2, h3⟩ : ∃ b, e = .returned (.string (t.extract c b)) ∧ b = c + G.length ∧ Went w1 w' P t b n))
    clear HD
    have hGl := digsJ_len (digsAt (rest t a))
    rw [hG, ← HC.out, rest_length] at hGl
    have HGT := Lib.hid (show (t.extract c (c + G.length)).data.toList = G by
      rw [extract_len (Nat.le_add_right _ _), HC.out, Nat.add_sub_cancel_left, ← hG]
      exact (digsJ_take _).symm)
    obtain ⟨s, hs⟩ : ∃ s, t.extract c (c + G.length) = s := ⟨_, rfl⟩
    rw [hs] at HGT
    have hsl : s.size = G.length := by rw [Lib.size_eq, HGT.out]
    have HS := Lib.hid hs
    by_cases hl : 100 < G.length
    · have HX := Lib.hid (numJ_long hd (by rw [hG]; exact hl))
      have i1 : (100 : Int) < (s.size : Int) := by omega
      clear hd hG hs hsl hl hGl
      go_wp2_with fail
      go_at_call 83; refine HD2.out.mono ?_; rintro e w2 ⟨b, rfl, rfl, hw2⟩
      rw [HS.out]
      have HW2 := Lib.hid (HW1.out.trans hw2)
      clear hw2
      go_wp2_with (go_at_call 40; refine (diag_any _ _ _).mono ?_; rintro e w3 ⟨rfl, rfl⟩)
      refine ⟨rfl, ?_⟩
      rw [HX.out]
      exact ⟨w2.heap.size, rfl, HW2.out.1.size, by have := Blk.new w2 #[.int .i64 3, .string ⟨#[]⟩, .int .i64 (a : Int)] 48; simpa [HA.out] using this, HW2.out.1.trans (Aside.of (below_new0 _ _))⟩
    · have HX := Lib.hid (numJ_ok hd (by rw [hG]; exact hl))
      have i1 : ¬ (100 : Int) < (s.size : Int) := by omega
      by_cases h0 : G = [48]
      · subst h0
        obtain rfl : s = ⟨#[48]⟩ := str_eq HGT.out
        have i2 : (c : Int) + 1 ≤ (t.size : Int) := by simp at hGl; omega
        have i0 : (0 : Int) ≤ (c : Int) := by omega
        have hcut : t.extract c (c + 1) = ⟨#[48]⟩ := HS.out
        have hsl1 : ∀ W, (Instr.sliceAt 9 (.string t) (some (.int .i64 (c : Int))) (some (.int .i64 ((c : Int) + 1))) none).run Tryz.prog W = .ok (.string ⟨#[48]⟩) W := fun W => by
          have i5 : ((c : Int) + 1).toNat = c + 1 := by omega
          have i4 : (c : Int) ≤ (c : Int) + 1 := by omega
          go_simp
        clear hcut
        have HY : Hid (numJ (rest t a) = .ok (⟨#[48]⟩, (rest t c).drop 1)) := Lib.hid (by rw [HX.out, hG, if_pos rfl, HC.out]; rfl)
        have HCL := Lib.hid (sclone_any (s := ⟨#[48]⟩) (by decide))
        clear hd hG hs hsl hl hGl HX
        go_wp2_with fail
        go_at_call 83; refine HD2.out.mono ?_; rintro e w2 ⟨b, rfl, hb, hw2⟩
        obtain rfl : b = c + 1 := hb
        have HS' := Lib.hid (show t.extract c (c + 1) = ⟨#[48]⟩ from HS.out)
        rw [HS'.out]
        have HW2 := Lib.hid (HW1.out.trans hw2)
        have HN2 := Lib.hid (HN1.out.aside hw2.1 (by omega))
        have q0 := hw2.2.1.cell 0
        have q1 := hw2.2.1.cell 1
        clear hw2
        go_wp2_with fail
        go_still_tail 10, (by kernel_rfl)
        change wpList _ _ _ _ _ w2.drew
        have HW3 := Lib.hid (HW2.out.trans (HW2.out.2.stays (below_drew w2)))
        have HN3 := Lib.hid (show Blk w2.drew W.heap.size _ _ from HN2.out)
        generalize w2.drew = w3 at *
        go_wp2_with fail
        go_at_call 84
        refine (HCL.out _).mono ?_; rintro e w4 ⟨rfl, hb4⟩
        have HW4 := Lib.hid (HW3.out.trans (HW3.out.2.stays hb4))
        have hn4 := HN3.out.below hb4
        have z0 := hn4.cell 0
        have z1 := hn4.cell 1
        have z2 := hn4.cell 2
        have z3 := hn4.cell 3
        have z4 := hn4.cell 4
        have y0 := hn4.frozen 0
        have y1 := hn4.frozen 1
        have y2 := hn4.frozen 2
        have y3 := hn4.frozen 3
        have y4 := hn4.frozen 4
        have HN4 := Lib.hid hn4
        clear hn4 hb4
        go_wp2_with fail
        have hd4 := HN4.out.set5 (.int .i64 3) (.bool false) (.string ⟨#[48]⟩) (.slice none 0 0) (.slice none 0 0)
        have d0 := hd4.cell 0
        have d1 := hd4.cell 1
        have d2 := hd4.cell 2
        have d3 := hd4.cell 3
        have d4 := hd4.cell 4
        refine bodyPost_ret (v := scal 3 false ⟨#[48]⟩) (by simp [results, Tryz.results63, go_sem, scal, d0, d1, d2, d3, d4]) rfl ?_
        rw [HY.out]
        exact ⟨3, false, ⟨#[48]⟩, c + 1, rfl, rfl, HW4.out.set5 hP (Nat.le_refl _) _ _ _ _ _, by rw [rest_add]⟩
      · have q48 : (s.toList == [48]) = false := by
          rw [beq_eq_false_iff_ne, ByteArray.toList_eq, HGT.out]
          exact h0
        have HY : Hid (numJ (rest t a) = .ok (⟨((rest t a).take (c - a + G.length)).toArray⟩, (rest t c).drop G.length)) := Lib.hid (by rw [HX.out, hG, if_neg h0, HCA.out, HC.out])
        have i0 : (0 : Int) ≤ (a : Int) := by omega
        have i2 : (a : Int) ≤ ((c + G.length : Nat) : Int) := by omega
        have i3 : ((c + G.length : Nat) : Int) ≤ (t.size : Int) := by omega
        obtain ⟨b0, hb0⟩ : ∃ b0, c + G.length = b0 := ⟨_, rfl⟩
        have HB0 := Lib.hid hb0
        have HST := Lib.hid (show (t.extract a b0).data.toList = (rest t a).take (c - a + G.length) by rw [extract_len (by omega), show b0 - a = c - a + G.length by omega])
        have hsz2 : (t.extract a b0).size ≤ 1000000 := by rw [Lib.size_eq, HST.out]; simp [rest_length]; omega
        have HCL := Lib.hid (sclone_any hsz2)
        rw [hb0] at HS i2 i3
        clear hd hG hs hsl hl hGl HX h0 hb0 hsz2
        go_wp2_with fail
        go_at_call 83; refine HD2.out.mono ?_; rintro e w2 ⟨b, rfl, hb, hw2⟩
        obtain rfl : b = b0 := hb.trans HB0.out
        rw [HS.out]
        have HW2 := Lib.hid (HW1.out.trans hw2)
        have HN2 := Lib.hid (HN1.out.aside hw2.1 (by omega))
        have q0 := hw2.2.1.cell 0
        have q1 := hw2.2.1.cell 1
        clear hw2 hb
        go_wp2_with fail
        go_still_tail 10, (by kernel_rfl)
        change wpList _ _ _ _ _ w2.drew
        have HW3 := Lib.hid (HW2.out.trans (HW2.out.2.stays (below_drew w2)))
        have HN3 := Lib.hid (show Blk w2.drew W.heap.size _ _ from HN2.out)
        generalize w2.drew = w3 at *
        go_wp2_with fail
        go_at_call 84; refine (HCL.out _).mono ?_; rintro e w4 ⟨rfl, hb4⟩
        have HW4 := Lib.hid (HW3.out.trans (HW3.out.2.stays hb4))
        have hn4 := HN3.out.below hb4
        have z0 := hn4.cell 0
        have z1 := hn4.cell 1
        have z2 := hn4.cell 2
        have z3 := hn4.cell 3
        have z4 := hn4.cell 4
        have y0 := hn4.frozen 0
        have y1 := hn4.frozen 1
        have y2 := hn4.frozen 2
        have y3 := hn4.frozen 3
        have y4 := hn4.frozen 4
        have HN4 := Lib.hid hn4
        clear hn4 hb4
        go_wp2_with fail
        have hd4 := HN4.out.set5 (.int .i64 3) (.bool false) (.string (t.extract a b)) (.slice none 0 0) (.slice none 0 0)
        have d0 := hd4.cell 0
        have d1 := hd4.cell 1
        have d2 := hd4.cell 2
        have d3 := hd4.cell 3
        have d4 := hd4.cell 4
        refine bodyPost_ret (v := scal 3 false (t.extract a b)) (by simp [results, Tryz.results63, go_sem, scal, d0, d1, d2, d3, d4]) rfl ?_
        rw [HY.out]
        exact ⟨3, false, t.extract a b, b, by rw [← HST.out]; rfl, rfl, HW4.out.set5 hP (Nat.le_refl _) _ _ _ _ _, by rw [← HB0.out, rest_add]⟩

set_option maxRecDepth 100000 in
set_option maxHeartbeats 4000000 in
theorem word_any {W : World} {P a n : Nat} {t : ByteArray} (h : Rdr W P t a n) : Calls Tryz.prog 64 #[.pointer (some ⟨P, 0, none⟩)] W (OneEnds W P t n (wordJ (rest t a))) := by
  have hb0 := below_new0 W (.cells #[.int .i64 0, .bool false, .string ⟨#[]⟩, .slice none 0 0, .slice none 0 0] 26)
  have hR0 := h.below hb0
  have HW0 := Lib.hid (h.stays hb0)
  have HN0 := Lib.hid (Blk.new W #[.int .i64 0, .bool false, .string ⟨#[]⟩, .slice none 0 0, .slice none 0 0] 26)
  have hP := h.1.lt
  have HA := Lib.hid (rest_back h.2.1)
  clear h hb0
  cases hv0 : Lib.hasPrefix (rest t a) [110, 117, 108, 108]
  · have HK0 := Lib.hid (skip_b hR0 ⟨#[110, 117, 108, 108]⟩ hv0)
    have HV0 := Lib.hid hv0
    clear hv0
    go_enter Tryz.func64, Tryz.ntmps64
    go_wp2_with fail
    go_at_call 65; refine HK0.out.mono ?_; rintro e w1 ⟨rfl, hw1⟩
    have HN1 := Lib.hid (HN0.out.aside hw1.1 (by omega))
    have HW1 := Lib.hid (HW0.out.trans hw1)
    clear hw1
    cases hv1 : Lib.hasPrefix (rest t a) [116, 114, 117, 101]
    · have HK1 := Lib.hid (skip_b HW1.out.2 ⟨#[116, 114, 117, 101]⟩ hv1)
      have HV1 := Lib.hid hv1
      clear hv1
      go_wp2_with fail
      go_at_call 65; refine HK1.out.mono ?_; rintro e w2 ⟨rfl, hw2⟩
      have HN2 := Lib.hid (HN1.out.aside hw2.1 (by omega))
      have HW2 := Lib.hid (HW1.out.trans hw2)
      clear hw2
      cases hv2 : Lib.hasPrefix (rest t a) [102, 97, 108, 115, 101]
      · have HK2 := Lib.hid (skip_b HW2.out.2 ⟨#[102, 97, 108, 115, 101]⟩ hv2)
        have HV2 := Lib.hid hv2
        clear hv2
        go_wp2_with fail
        go_at_call 65; refine HK2.out.mono ?_; rintro e w3 ⟨rfl, hw3⟩
        have HN3 := Lib.hid (HN2.out.aside hw3.1 (by omega))
        have HW3 := Lib.hid (HW2.out.trans hw3)
        clear hw3
        have HX : Hid (wordJ (rest t a) = .error (30, (rest t a).length)) := Lib.hid (by unfold wordJ; rw [HV0.out, HV1.out, HV2.out]; rfl)
        have q1 := HW3.out.2.1.cell 1
        go_wp2_with (go_at_call 40; refine (diag_any _ _ _).mono ?_; rintro e w9 ⟨rfl, rfl⟩)
        refine ⟨rfl, ?_⟩
        rw [HX.out]
        exact thrown_new (c := 30) HW3.out (l := (rest t a).length) HA.out
      · have HK2 := Lib.hid (skip_b HW2.out.2 ⟨#[102, 97, 108, 115, 101]⟩ hv2)
        have HV2 := Lib.hid hv2
        clear hv2
        go_wp2_with fail
        go_at_call 65; refine HK2.out.mono ?_; rintro e w3 ⟨rfl, hw3⟩
        have HN3 := Lib.hid (HN2.out.aside hw3.1 (by omega))
        have HW3 := Lib.hid (HW2.out.trans hw3)
        clear hw3
        have HX : Hid (wordJ (rest t a) = .ok (.node 2 false ⟨#[]⟩ [] [], (rest t a).drop 5)) := Lib.hid (by unfold wordJ; rw [HV0.out]; rw [HV1.out]; rw [HV2.out]; rfl)
        go_wp2_with fail
        have hc8 := vBool_any
        unfold scal at hc8
        have HC8 := Lib.hid hc8
        clear hc8
        go_at_call 86; refine (HC8.out _ _).mono ?_; rintro e w8 ⟨rfl, hb8⟩
        have HW8 := Lib.hid (HW3.out.trans (HW3.out.2.stays hb8))
        have hn4 := HN3.out.below hb8
        have z0 := hn4.cell 0
        have z1 := hn4.cell 1
        have z2 := hn4.cell 2
        have z3 := hn4.cell 3
        have z4 := hn4.cell 4
        have y0 := hn4.frozen 0
        have y1 := hn4.frozen 1
        have y2 := hn4.frozen 2
        have y3 := hn4.frozen 3
        have y4 := hn4.frozen 4
        have HN4 := Lib.hid hn4
        clear hn4 hb8
        go_wp2_with fail
        have hd4 := HN4.out.set5 (.int .i64 2) (.bool false) (.string ⟨#[]⟩) (.slice none 0 0) (.slice none 0 0)
        have d0 := hd4.cell 0
        have d1 := hd4.cell 1
        have d2 := hd4.cell 2
        have d3 := hd4.cell 3
        have d4 := hd4.cell 4
        refine bodyPost_ret (v := scal 2 false ⟨#[]⟩) (by simp [results, Tryz.results64, go_sem, scal, d0, d1, d2, d3, d4]) rfl ?_
        rw [HX.out]
        exact ⟨2, false, ⟨#[]⟩, a + 5, rfl, rfl, HW8.out.set5 hP (Nat.le_refl _) _ _ _ _ _, by rw [rest_add]⟩
    · have HK1 := Lib.hid (skip_b HW1.out.2 ⟨#[116, 114, 117, 101]⟩ hv1)
      have HV1 := Lib.hid hv1
      clear hv1
      go_wp2_with fail
      go_at_call 65; refine HK1.out.mono ?_; rintro e w2 ⟨rfl, hw2⟩
      have HN2 := Lib.hid (HN1.out.aside hw2.1 (by omega))
      have HW2 := Lib.hid (HW1.out.trans hw2)
      clear hw2
      have HX : Hid (wordJ (rest t a) = .ok (.node 2 true ⟨#[]⟩ [] [], (rest t a).drop 4)) := Lib.hid (by unfold wordJ; rw [HV0.out]; rw [HV1.out]; rfl)
      go_wp2_with fail
      have hc8 := vBool_any
      unfold scal at hc8
      have HC8 := Lib.hid hc8
      clear hc8
      go_at_call 86; refine (HC8.out _ _).mono ?_; rintro e w8 ⟨rfl, hb8⟩
      have HW8 := Lib.hid (HW2.out.trans (HW2.out.2.stays hb8))
      have hn4 := HN2.out.below hb8
      have z0 := hn4.cell 0
      have z1 := hn4.cell 1
      have z2 := hn4.cell 2
      have z3 := hn4.cell 3
      have z4 := hn4.cell 4
      have y0 := hn4.frozen 0
      have y1 := hn4.frozen 1
      have y2 := hn4.frozen 2
      have y3 := hn4.frozen 3
      have y4 := hn4.frozen 4
      have HN4 := Lib.hid hn4
      clear hn4 hb8
      go_wp2_with fail
      have hd4 := HN4.out.set5 (.int .i64 2) (.bool true) (.string ⟨#[]⟩) (.slice none 0 0) (.slice none 0 0)
      have d0 := hd4.cell 0
      have d1 := hd4.cell 1
      have d2 := hd4.cell 2
      have d3 := hd4.cell 3
      have d4 := hd4.cell 4
      refine bodyPost_ret (v := scal 2 true ⟨#[]⟩) (by simp [results, Tryz.results64, go_sem, scal, d0, d1, d2, d3, d4]) rfl ?_
      rw [HX.out]
      exact ⟨2, true, ⟨#[]⟩, a + 4, rfl, rfl, HW8.out.set5 hP (Nat.le_refl _) _ _ _ _ _, by rw [rest_add]⟩
  · have HK0 := Lib.hid (skip_b hR0 ⟨#[110, 117, 108, 108]⟩ hv0)
    have HV0 := Lib.hid hv0
    clear hv0
    go_enter Tryz.func64, Tryz.ntmps64
    go_wp2_with fail
    go_at_call 65; refine HK0.out.mono ?_; rintro e w1 ⟨rfl, hw1⟩
    have HN1 := Lib.hid (HN0.out.aside hw1.1 (by omega))
    have HW1 := Lib.hid (HW0.out.trans hw1)
    clear hw1
    have HX : Hid (wordJ (rest t a) = .ok (.node 0 false ⟨#[]⟩ [] [], (rest t a).drop 4)) := Lib.hid (by unfold wordJ; rw [HV0.out]; rfl)
    go_wp2_with fail
    have hc8 := vNull_any
    unfold scal at hc8
    have HC8 := Lib.hid hc8
    clear hc8
    go_at_call 85; refine (HC8.out _).mono ?_; rintro e w8 ⟨rfl, hb8⟩
    have HW8 := Lib.hid (HW1.out.trans (HW1.out.2.stays hb8))
    have hn4 := HN1.out.below hb8
    have z0 := hn4.cell 0
    have z1 := hn4.cell 1
    have z2 := hn4.cell 2
    have z3 := hn4.cell 3
    have z4 := hn4.cell 4
    have y0 := hn4.frozen 0
    have y1 := hn4.frozen 1
    have y2 := hn4.frozen 2
    have y3 := hn4.frozen 3
    have y4 := hn4.frozen 4
    have HN4 := Lib.hid hn4
    clear hn4 hb8
    go_wp2_with fail
    have hd4 := HN4.out.set5 (.int .i64 0) (.bool false) (.string ⟨#[]⟩) (.slice none 0 0) (.slice none 0 0)
    have d0 := hd4.cell 0
    have d1 := hd4.cell 1
    have d2 := hd4.cell 2
    have d3 := hd4.cell 3
    have d4 := hd4.cell 4
    refine bodyPost_ret (v := scal 0 false ⟨#[]⟩) (by simp [results, Tryz.results64, go_sem, scal, d0, d1, d2, d3, d4]) rfl ?_
    rw [HX.out]
    exact ⟨0, false, ⟨#[]⟩, a + 4, rfl, rfl, HW8.out.set5 hP (Nat.le_refl _) _ _ _ _ _, by rw [rest_add]⟩
end Go.Proofs.YtcbcjeabpjjhbaaGreatDoor
