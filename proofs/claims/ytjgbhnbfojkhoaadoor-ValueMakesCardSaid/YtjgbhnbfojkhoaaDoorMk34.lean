/- value.Int of any int; the document's Digits · A good value's parts -/
import Derived.Test.YtjgbhnbfojkhoaaDoorMk05
import Derived.Test.YtjgbhnbfojkhoaaDoorMk07
import Derived.Test.YtjgbhnbfojkhoaaDoorMk08
import Derived.Test.YtjgbhnbfojkhoaaDoorMk10
import Derived.Test.YtjgbhnbfojkhoaaDoorMk19
import Derived.Test.YtjgbhnbfojkhoaaDoorMk33
namespace Go.Proofs.YtjgbhnbfojkhoaaDoor
open Go.RowKit
set_option linter.unusedVariables false

def dstr (n : Nat) : ByteArray := ⟨(Lib.decDigits n).toArray⟩
theorem dstr_list (n : Nat) : (dstr n).data.toList = Lib.decDigits n := by simp [dstr]
theorem dstr_size (n : Nat) : (dstr n).size = Lib.nDigits n := by rw [← bytes_len, dstr_list, Lib.decDigits_length]
theorem dstr_pos (n : Nat) : 0 < (dstr n).size := by rw [dstr_size]; exact Lib.nDigits_pos n
theorem itoa_pos {a : Int} (h : ¬ a < 0) : Lib.itoa a = Lib.decDigits a.natAbs := by unfold Lib.itoa; rw [if_neg h, show a.toNat = a.natAbs by omega]
theorem itoa_minus {a : Int} (h : a < 0) : Lib.itoa a = 45 :: Lib.decDigits a.natAbs := by unfold Lib.itoa; rw [if_pos h]
theorem str_pos {a : Int} (h : ¬ a < 0) : str a = dstr a.natAbs := by unfold str dstr; rw [itoa_pos h]
theorem str_minus {a : Int} (h : a < 0) : str a = ⟨#[45]⟩ ++ dstr a.natAbs := WideShapes.bytes_inj (by rw [ByteArray.data_append]; unfold str dstr; rw [itoa_minus h]; simp)
theorem refSigned_plain (b : Bool) (s : ByteArray) (h : b = false ∨ (s.toList == [48]) = true) (w : World) : Calls Tryd.prog 34 #[.bool b, .string s] w fun e w' => e = .returned (.string s) ∧ w = w' := by
  cases b
  · clear h
    go_enter Tryd.func34, Tryd.ntmps34
    go_wp2
    go_ret
    exact ⟨rfl, rfl⟩
  · have h' : (s.toList == [48]) = true := by simpa using h
    clear h
    go_enter Tryd.func34, Tryd.ntmps34
    go_wp2
    go_ret
    exact ⟨rfl, rfl⟩
theorem refSigned_minus (s : ByteArray) (h : (s.toList == [48]) = false) (hs : s.size ≤ 1000000) (w : World) : Calls Tryd.prog 34 #[.bool true, .string s] w fun e w' => e = .returned (.string (⟨#[45]⟩ ++ s)) ∧ w = w' := by
  go_enter Tryd.func34, Tryd.ntmps34
  go_wp2
  go_ret
  exact ⟨rfl, rfl⟩

theorem dstr_zero {m : Nat} : ((dstr m).toList == [48]) = decide (m = 0) := by
  rw [Bool.eq_iff_iff, beq_iff_eq, decide_eq_true_iff, ByteArray.toList_eq, dstr_list]
  constructor
  · intro h; exact dec_head0 (by rw [h]; rfl)
  · intro h; rw [h, Lib.decDigits_one (by omega)]; rfl
theorem refSigned_str (b : Bool) {m : Nat} (hm : Lib.nDigits m ≤ 1000000) (w : World) : Calls Tryd.prog 34 #[.bool b, .string (dstr m)] w fun e w' => e = .returned (.string (str (sg b m))) ∧ w = w' := by
  by_cases h : b = false ∨ m = 0
  · have := refSigned_plain b (dstr m) (h.imp_right fun h => by rw [dstr_zero]; simpa using h) w
    rw [str_pos (a := sg b m) (by unfold sg; rcases h with h | h <;> subst h <;> simp <;> omega), sg_abs]
    exact this
  · obtain ⟨h1, h2⟩ := not_or.1 h
    obtain rfl : b = true := by simpa using h1
    have := refSigned_minus (dstr m) (by rw [dstr_zero]; simpa using h2) (by rw [dstr_size]; exact hm) w
    rw [str_minus (a := sg true m) (by unfold sg; simp; omega), sg_abs]
    exact this
theorem Of_any (n : Int) (h0 : -9223372036854775808 ≤ n) (h1 : n ≤ 9223372036854775807) {w : World} (htab : Tab w.heap.size w) :
    Calls Tryd.prog 33 #[.int .i64 n] w fun e w' => e = .returned (.string (str n)) ∧ Below w.heap.size w w' := by
  have HI := Lib.hid (Tryd.strconv_Itoa n h0 h1 w htab.here)
  go_enter Tryd.func33, Tryd.ntmps33
  go_wp2_with (go_at_call 50; refine HI.out.mono ?_; rintro e w' ⟨rfl, k, os, rfl⟩)
  refine bodyPost_ret (v := .string ⟨(Lib.itoa n).toArray⟩) ?_ rfl ⟨rfl, ?_⟩
  · simp [results, Tryd.results33, go_sem]
  · exact Lib.below_grow _ w (Nat.le_refl _) k os

theorem Tab.on {w w' : World} (h : Tab w.heap.size w) (hb : Below w.heap.size w w') : Tab w'.heap.size w' := (h.below hb (Nat.le_refl _)).mono hb.size
theorem one_byte (W : World) (z : Int) (b : UInt8) (hz : z = (b.toNat : Int)) : (convert 55 9 (.slice (some ⟨W.heap.size, 0, none⟩) 1 1)).run Tryd.prog (W.alloc (.cells #[.int .u8 z] 5)) = .ok (.string ⟨#[b]⟩) (W.alloc (.cells #[.int .u8 z] 5)) :=
  run_convert_bytes_back (P := Tryd.prog) (W.alloc (.cells #[.int .u8 z] 5)) 55 9 5 ⟨W.heap.size, 0, none⟩ 1 [b] Tryd.underlying55 Tryd.underlying5 Tryd.underlying9 (fun j hj => by
    obtain rfl : j = 0 := by simp at hj; omega
    rw [hz]
    exact cell_box _ _ _ 0 _ rfl)
theorem head_bytes (b : UInt8) (s : ByteArray) : ((⟨#[b]⟩ : ByteArray) ++ s).data.toList = b :: s.data.toList := by simp [ByteArray.data_append]
/-- What Digits has written when K is left of N. -/
def Wrote (N K : Nat) (s : List UInt8) : Prop := (K ≠ 0 → Lib.decDigits N = Lib.decDigits K ++ s) ∧ (K = 0 → s = Lib.decDigits N)
theorem wrote_step {N K : Nat} {s : List UInt8} (h : Wrote N K s) (hK : K ≠ 0) : Wrote N (K / 10) (UInt8.ofNat (48 + K % 10) :: s) := by
  have h1 := h.1 hK
  constructor
  · intro h2
    rw [h1]
    have := decDigits_snoc h2 (d := K % 10) (by omega)
    rw [show K / 10 * 10 + K % 10 = K by omega] at this
    rw [this]
    simp
  · intro h2
    rw [h1, Lib.decDigits_one (i := K) (by omega), show K % 10 = K by omega]
    rfl
theorem wrote_size {N K : Nat} {s : List UInt8} (h : Wrote N K s) (hN : Lib.nDigits N ≤ 19) : s.length ≤ 19 := by
  by_cases hK : K = 0
  · rw [h.2 hK, Lib.decDigits_length]; exact hN
  · have := congrArg List.length (h.1 hK)
    rw [List.length_append, Lib.decDigits_length] at this
    omega

set_option maxRecDepth 100000 in
set_option maxHeartbeats 1000000 in
theorem refDigits_pos {N : Nat} (h0 : N ≠ 0) (h1 : N ≤ 9223372036854775807) (w : World) : Calls Tryd.prog 15 #[.int .i64 (N : Int)] w fun e w' => e = .returned (.string (str (N : Int))) ∧ Below w.heap.size w w' := by
  have hN : Lib.nDigits N ≤ 19 := nDigits_le (by omega) (by omega)
  have HG := Lib.hid (fun W => refSigned_str false (m := N) (by omega) W)
  rw [show sg false N = (N : Int) from rfl] at HG
  obtain ⟨R, hR⟩ : ∃ R, str (N : Int) = R := ⟨_, rfl⟩
  rw [hR] at HG ⊢
  have HN := Lib.hid hN
  have hNz : ((N : Int) == 0) = false := beq_eq_false_iff_ne.2 (by omega)
  have hlt0 : decide ((N : Int) < 0) = false := decide_eq_false (by omega)
  clear hR hN
  obtain ⟨lo, hlo⟩ : ∃ lo, w.heap.size = lo := ⟨_, rfl⟩
  rw [hlo]
  have HLO : Hid (lo ≤ w.heap.size) := Lib.hid (by omega)
  clear hlo
  go_enter Tryd.func15, Tryd.ntmps15
  go_wp2
  go_loopw [3, 4] (fun sv kv wr => ∃ (s : ByteArray) (K : Nat), sv = .string s ∧ kv = .int .i64 (K : Int) ∧ K ≤ N ∧ Hid (Wrote N K s.data.toList) ∧ Hid (Below lo w wr)) (fun _ kv _ => (intOf kv).toNat)
  case atStart => exact ⟨⟨#[]⟩, N, rfl, rfl, Nat.le_refl _, Lib.hid ⟨fun _ => by simp, fun h => absurd h h0⟩, Lib.hid (Below.refl _ _)⟩
  case round =>
    obtain ⟨s, K, rfl, rfl, hK, HW, HH⟩ := hrel
    have hs : s.size ≤ 19 := by rw [← bytes_len]; exact wrote_size HW.out HN.out
    by_cases hK0 : K = 0
    · subst hK0
      obtain rfl : s = dstr N := WideShapes.bytes_inj (by rw [HW.out.2 rfl, dstr_list])
      go_wp2_with (go_at_call 34; refine (HG.out _).mono ?_; rintro e w' ⟨rfl, rfl⟩)
      go_ret
      exact ⟨rfl, HH.out⟩
    · have hKz : ((K : Int) == 0) = false := beq_eq_false_iff_ne.2 (by omega)
      have HST := Lib.hid (wrote_step HW.out hK0)
      obtain ⟨b, hb⟩ : ∃ b, UInt8.ofNat (48 + K % 10) = b := ⟨_, rfl⟩
      have hcv : ∀ W : World, (convert 55 9 (.slice (some ⟨W.heap.size, 0, none⟩) 1 1)).run Tryd.prog (W.alloc (.cells #[.int .u8 (48 + (K : Int) % 10)] 5)) = .ok (.string ⟨#[b]⟩) (W.alloc (.cells #[.int .u8 (48 + (K : Int) % 10)] 5)) := fun W => one_byte W _ b (by rw [← hb, ofNat_toNat (by omega)]; omega)
      rw [hb] at HST
      clear hb
      go_wp2
      go_roundw
      case rel => exact ⟨_, K / 10, rfl, by go_num, by omega, Lib.hid (by rw [head_bytes]; exact HST.out), Lib.hid (HH.out.alloc (Nat.le_trans HLO.out HH.out.size) _)⟩
      case measure => simp [intOf]; omega

set_option maxRecDepth 100000 in
set_option maxHeartbeats 1000000 in
theorem refDigits_neg {N : Nat} (h0 : N ≠ 0) (h1 : N ≤ 9223372036854775808) (w : World) : Calls Tryd.prog 15 #[.int .i64 (-(N : Int))] w fun e w' => e = .returned (.string (str (-(N : Int)))) ∧ Below w.heap.size w w' := by
  have hN : Lib.nDigits N ≤ 19 := nDigits_le (by omega) (by omega)
  have HG := Lib.hid (fun W => refSigned_str true (m := N) (by omega) W)
  rw [show sg true N = -(N : Int) from rfl] at HG
  obtain ⟨R, hR⟩ : ∃ R, str (-(N : Int)) = R := ⟨_, rfl⟩
  rw [hR] at HG ⊢
  have HN := Lib.hid hN
  have hNz : (-(N : Int) == 0) = false := beq_eq_false_iff_ne.2 (by omega)
  have hlt0 : decide (0 < N) = true := decide_eq_true (by omega)
  clear hR hN
  obtain ⟨lo, hlo⟩ : ∃ lo, w.heap.size = lo := ⟨_, rfl⟩
  rw [hlo]
  have HLO : Hid (lo ≤ w.heap.size) := Lib.hid (by omega)
  clear hlo
  go_enter Tryd.func15, Tryd.ntmps15
  go_wp2
  go_loopw [3, 4] (fun sv kv wr => ∃ (s : ByteArray) (K : Nat), sv = .string s ∧ kv = .int .i64 (-(K : Int)) ∧ K ≤ N ∧ Hid (Wrote N K s.data.toList) ∧ Hid (Below lo w wr)) (fun _ kv _ => (-(intOf kv)).toNat)
  case atStart => exact ⟨⟨#[]⟩, N, rfl, rfl, Nat.le_refl _, Lib.hid ⟨fun _ => by simp, fun h => absurd h h0⟩, Lib.hid (Below.refl _ _)⟩
  case round =>
    obtain ⟨s, K, rfl, rfl, hK, HW, HH⟩ := hrel
    have hs : s.size ≤ 19 := by rw [← bytes_len]; exact wrote_size HW.out HN.out
    by_cases hK0 : K = 0
    · subst hK0
      obtain rfl : s = dstr N := WideShapes.bytes_inj (by rw [HW.out.2 rfl, dstr_list])
      rw [show -((0 : Nat) : Int) = 0 from rfl]
      go_wp2_with (go_at_call 34; refine (HG.out _).mono ?_; rintro e w' ⟨rfl, rfl⟩)
      go_ret
      exact ⟨rfl, HH.out⟩
    · have hKz : (-(K : Int) == 0) = false := beq_eq_false_iff_ne.2 (by omega)
      have hrem : (-(K : Int)).tmod 10 = -((K % 10 : Nat) : Int) := by rw [Int.neg_tmod]; rfl
      have hquo : (-(K : Int)).tdiv 10 = -((K / 10 : Nat) : Int) := by rw [Int.neg_tdiv]; rfl
      have HST := Lib.hid (wrote_step HW.out hK0)
      obtain ⟨b, hb⟩ : ∃ b, UInt8.ofNat (48 + K % 10) = b := ⟨_, rfl⟩
      have hcv : ∀ W : World, (convert 55 9 (.slice (some ⟨W.heap.size, 0, none⟩) 1 1)).run Tryd.prog (W.alloc (.cells #[.int .u8 (48 + ((K % 10 : Nat) : Int))] 5)) = .ok (.string ⟨#[b]⟩) (W.alloc (.cells #[.int .u8 (48 + ((K % 10 : Nat) : Int))] 5)) := fun W => one_byte W _ b (by rw [← hb, ofNat_toNat (by omega)]; omega)
      rw [hb] at HST
      obtain ⟨q, hq⟩ : ∃ q, K / 10 = q := ⟨_, rfl⟩
      obtain ⟨r, hr⟩ : ∃ r, K % 10 = r := ⟨_, rfl⟩
      have hr9 : r ≤ 9 := by omega
      have hqK : q < K := by omega
      rw [hr] at hrem hcv
      rw [hq] at hquo HST
      clear hb hq hr
      by_cases hr0 : r = 0
      · subst hr0
        have hrem' : (-(K : Int)).tmod 10 = 0 := by rw [hrem]; rfl
        have hcv' : ∀ W : World, (convert 55 9 (.slice (some ⟨W.heap.size, 0, none⟩) 1 1)).run Tryd.prog (W.alloc (.cells #[.int .u8 48] 5)) = .ok (.string ⟨#[b]⟩) (W.alloc (.cells #[.int .u8 48] 5)) := hcv
        clear hrem hcv
        go_wp2
        go_roundw
        case rel => exact ⟨_, q, rfl, by go_num, by omega, Lib.hid (by rw [head_bytes]; exact HST.out), Lib.hid (HH.out.alloc (Nat.le_trans HLO.out HH.out.size) _)⟩
        case measure => simp [intOf]; omega
      · have hneg : decide (-((r : Nat) : Int) < 0) = true := decide_eq_true (by omega)
        go_wp2
        go_roundw
        case rel => exact ⟨_, q, rfl, by go_num, by omega, Lib.hid (by rw [head_bytes]; exact HST.out), Lib.hid (HH.out.alloc (Nat.le_trans HLO.out HH.out.size) _)⟩
        case measure => simp [intOf]; omega

theorem refDigits_zero (w : World) : Calls Tryd.prog 15 #[.int .i64 0] w fun e w' => e = .returned (.string ⟨#[48]⟩) ∧ w = w' := by
  go_enter Tryd.func15, Tryd.ntmps15
  go_wp2
  go_ret
  exact ⟨rfl, rfl⟩

theorem refDigits_any {n : Int} (h1 : -9223372036854775808 ≤ n) (h2 : n ≤ 9223372036854775807) (w : World) : Calls Tryd.prog 15 #[.int .i64 n] w fun e w' => e = .returned (.string (str n)) ∧ Below w.heap.size w w' := by
  rcases Int.lt_trichotomy n 0 with h | h | h
  · obtain ⟨N, rfl⟩ : ∃ N : Nat, n = -(N : Int) := ⟨n.natAbs, by omega⟩
    exact refDigits_neg (by omega) (by omega) w
  · subst h
    rw [str_zero]
    exact (refDigits_zero w).mono fun _ _ ⟨h1, h2⟩ => ⟨h1, h2 ▸ Below.refl _ _⟩
  · obtain ⟨N, rfl⟩ : ∃ N : Nat, n = (N : Int) := ⟨n.natAbs, by omega⟩
    exact refDigits_pos (by omega) (by omega) w
theorem vInt_any {n : Int} (h1 : -9223372036854775808 ≤ n) (h2 : n ≤ 9223372036854775807) {w : World} (ht : Tab w.heap.size w) : Calls Tryd.prog 12 #[.int .i64 n] w fun e w' => e = .returned (scal 3 false (str n)) ∧ Below w.heap.size w w' :=
  vInt_of (Lib.hid (fun W hb => Of_any n h1 h2 (ht.on hb)))
end Go.Proofs.YtjgbhnbfojkhoaaDoor
namespace Go.Proofs.YtjgbhnbfojkhoaaDoor
open Go.RowKit
set_option linter.unusedVariables false

theorem sizeL_len : ∀ l : List VT, l.length ≤ sizeL l
  | [] => by simp
  | x :: l => by
    have := sizeL_len l
    have := sizeT_pos x
    unfold sizeL
    simp only [List.length_cons]
    omega
/-- A good value: an object has no truth and no text, as many keys as items, rising. -/
theorem good_parts {k : Int} {b : Bool} {t : ByteArray} {its : List VT} {ks : List ByteArray} (h : goodT (.node k b t its ks) = true) : (k = 6 → ks.length = its.length) ∧ (k = 6 → Rising ks) ∧ (k = 6 → b = false ∧ t.toList = []) ∧ ks.length ≤ 900000 ∧ smallT (.node k b t its ks) := by
  have hsm := goodT_small h
  have hp := (goodT_parts h).2.2
  unfold plainT at hp
  have ha := (Bool.and_eq_true_iff.1 hp).1
  have hsz := (goodT_parts h).1
  refine ⟨fun e => ?_, fun e => ?_, fun e => ?_, ?_, hsm⟩
  · subst e
    unfold aloneT at ha
    simp at ha
    exact ha.2.1.2
  · subst e
    unfold aloneT at ha
    simp at ha
    exact keysOk_rising ha.2.2
  · subst e
    unfold aloneT at ha
    simp at ha
    exact ⟨ha.1, ha.2.1.1⟩
  · have h6 : k = 6 ∨ ks = [] := by
      by_cases e : k = 6
      · exact .inl e
      · refine .inr ?_
        unfold aloneT at ha
        have h2 := (Bool.and_eq_true_iff.1 ha).2
        by_cases e1 : k = 0 ∨ k = 1 ∨ k = 2
        · rw [if_pos e1] at h2; simp at h2; exact h2.2
        · rw [if_neg e1] at h2
          by_cases e3 : k = 3
          · rw [if_pos e3] at h2; simp at h2; exact h2.2
          · rw [if_neg e3] at h2
            by_cases e4 : k = 4
            · rw [if_pos e4] at h2; simp at h2; exact h2.2
            · rw [if_neg e4] at h2
              by_cases e5 : k = 5
              · rw [if_pos e5] at h2; simp at h2; exact h2.2
              · rw [if_neg e5, if_neg e] at h2; cases h2
    rcases h6 with e | e
    · subst e
      have e2 : ks.length = its.length := by unfold aloneT at ha; simp at ha; exact ha.2.1.2
      have l1 := sizeL_len its
      unfold sizeT at hsz
      omega
    · rw [e]; simp
end Go.Proofs.YtjgbhnbfojkhoaaDoor
