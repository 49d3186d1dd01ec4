/- num.Cmp, num.Of. -/
import Derived.Test.YthmojhfakmdlfaaDoorInt
namespace Go.Proofs.YthmojhfakmdlfaaDoor
open Go.RowKit
def sgnI (a b : Int) : Int := if a < b then -1 else if b < a then 1 else 0

theorem sgnI_nn {a b : Int} (ha : ¬ a < 0) (hb : ¬ b < 0) : sgn a.natAbs b.natAbs = sgnI a b := by unfold sgn sgnI; repeat' split <;> omega
theorem sgnI_mm {a b : Int} (ha : a < 0) (hb : b < 0) : sgn b.natAbs a.natAbs = sgnI a b := by unfold sgn sgnI; repeat' split <;> omega
theorem sgnI_mn {a b : Int} (ha : a < 0) (hb : ¬ b < 0) : sgnI a b = -1 := by unfold sgnI; rw [if_pos (by omega)]
theorem sgnI_nm {a b : Int} (ha : ¬ a < 0) (hb : b < 0) : sgnI a b = 1 := by unfold sgnI; rw [if_neg (by omega), if_pos (by omega)]

set_option maxHeartbeats 1000000 in
theorem compare_any {w : World} {va vb : Value} {a b : Int} (ha : Wh 0 w va a) (hb : Wh 0 w vb b) (hra : Room a) (hrb : Room b) :
    Calls Tryd.prog 55 #[va, vb] w fun e w' => e = .returned (.int .i64 (sgnI a b)) ∧ Below w.heap.size w w' := by
  obtain ⟨sa, rfl, hsa⟩ := ha
  obtain ⟨sb, rfl, hsb⟩ := hb
  have HA := Lib.hid hsa
  have HB := Lib.hid hsb
  obtain ⟨ada, capa, rfl, -, -, -⟩ := hsa.view
  obtain ⟨adb, capb, rfl, -, -, -⟩ := hsb.view
  obtain ⟨la, hla⟩ : ∃ k, (limbs a.natAbs).length = k := ⟨_, rfl⟩
  obtain ⟨lb, hlb⟩ : ∃ k, (limbs b.natAbs).length = k := ⟨_, rfl⟩
  rw [hla] at HA ⊢
  rw [hlb] at HB ⊢
  clear hsa hsb hla hlb
  by_cases hna : a < 0
  · have e1 : decide (a < 0) = true := by simpa using hna
    by_cases hnb : b < 0
    · have e2 : decide (b < 0) = true := by simpa using hnb
      rw [e1, e2]
      have hb0 : Below w.heap.size w ((w.alloc (.cells #[.bool true, .slice ada la capa] 78)).alloc (.cells #[.bool true, .slice adb lb capb] 78)) := ((Below.refl _ w).alloc (Nat.le_refl _) _).alloc (by simp) _
      have HC := Lib.hid (compareSizes_any (HB.out.below hb0) (HA.out.below hb0) hrb hra)
      have HS := Lib.hid (sgnI_mm hna hnb)
      rw [HS.out] at HC
      clear e1 e2 hna hnb
      go_enter Tryd.func55, Tryd.ntmps55
      go_wp2_with (go_at_call 65; refine HC.out.mono ?_; rintro e W1 ⟨rfl, hb1⟩)
      go_ret
      exact ⟨rfl, hb0.trans (hb1.mono hb0.size)⟩
    · have e2 : decide (b < 0) = false := by simpa using hnb
      rw [e1, e2]
      have HS := Lib.hid (sgnI_mn hna hnb)
      clear e1 e2 hna hnb
      go_enter Tryd.func55, Tryd.ntmps55
      go_wp2
      go_ret
      exact ⟨by rw [HS.out]; rfl, ((Below.refl w.heap.size w).alloc (Nat.le_refl _) _).alloc (by simp) _⟩
  · have e1 : decide (a < 0) = false := by simpa using hna
    by_cases hnb : b < 0
    · have e2 : decide (b < 0) = true := by simpa using hnb
      rw [e1, e2]
      have HS := Lib.hid (sgnI_nm hna hnb)
      clear e1 e2 hna hnb
      go_enter Tryd.func55, Tryd.ntmps55
      go_wp2
      go_ret
      exact ⟨by rw [HS.out]; rfl, ((Below.refl w.heap.size w).alloc (Nat.le_refl _) _).alloc (by simp) _⟩
    · have e2 : decide (b < 0) = false := by simpa using hnb
      rw [e1, e2]
      have hb0 : Below w.heap.size w ((w.alloc (.cells #[.bool false, .slice ada la capa] 78)).alloc (.cells #[.bool false, .slice adb lb capb] 78)) := ((Below.refl _ w).alloc (Nat.le_refl _) _).alloc (by simp) _
      have HC := Lib.hid (compareSizes_any (HA.out.below hb0) (HB.out.below hb0) hra hrb)
      have HS := Lib.hid (sgnI_nn hna hnb)
      rw [HS.out] at HC
      clear e1 e2 hna hnb
      go_enter Tryd.func55, Tryd.ntmps55
      go_wp2_with (go_at_call 65; refine HC.out.mono ?_; rintro e W1 ⟨rfl, hb1⟩)
      go_ret
      exact ⟨rfl, hb0.trans (hb1.mono hb0.size)⟩

set_option maxRecDepth 100000 in
theorem Cmp_bad {s t : ByteArray} {w : World} (h : goodB s.data.toList = false ∨ goodB t.data.toList = false) :
    Calls Tryd.prog 41 #[.string s, .string t] w fun e w' => e = .returned (.int .i64 0) ∧ Below w.heap.size w w' := by
  have G1 := Lib.hid (Good_any s w)
  have G2 := Lib.hid (Good_any t w)
  obtain ⟨g1, hg1⟩ : ∃ g, goodB s.data.toList = g := ⟨_, rfl⟩
  obtain ⟨g2, hg2⟩ : ∃ g, goodB t.data.toList = g := ⟨_, rfl⟩
  rw [hg1] at G1 h
  rw [hg2] at G2 h
  clear hg1 hg2
  cases g1
  · go_enter Tryd.func41, Tryd.ntmps41
    go_wp2_with (go_at_call 54; refine G1.out.mono ?_; rintro e w' ⟨rfl, rfl⟩)
    refine bodyPost_ret (v := .int .i64 0) ?_ rfl ⟨rfl, Below.refl _ _⟩
    simp [results, Tryd.results41, go_sem]
  · obtain rfl : g2 = false := by simpa using h
    go_enter Tryd.func41, Tryd.ntmps41
    go_wp2_with (first | (go_at_call 54; refine G1.out.mono ?_; clear G1; rintro e w' ⟨rfl, rfl⟩) | (go_at_call 54; refine G2.out.mono ?_; rintro e w' ⟨rfl, rfl⟩))
    refine bodyPost_ret (v := .int .i64 0) ?_ rfl ⟨rfl, Below.refl _ _⟩
    simp [results, Tryd.results41, go_sem]

set_option maxRecDepth 100000 in
theorem Cmp_good {a b : Int} (ha : Fits a) (hb : Fits b) {w : World} :
    Calls Tryd.prog 41 #[.string (str a), .string (str b)] w fun e w' => e = .returned (.int .i64 (sgnI a b)) ∧ Below w.heap.size w w' := by
  have G1 := Lib.hid (Good_any (str a) w)
  have G2 := Lib.hid (Good_any (str b) w)
  rw [good_str, decide_eq_true ha] at G1
  rw [good_str, decide_eq_true hb] at G2
  have R1 := Lib.hid (read_str ha w)
  have HB := Lib.hid (fun W => read_str hb W)
  have HC := Lib.hid (fun (W : World) (va vb : Value) (h1 : Wh 0 W va a) (h2 : Wh 0 W vb b) => compare_any h1 h2 ha.room hb.room)
  obtain ⟨s, hs⟩ : ∃ s, str a = s := ⟨_, rfl⟩
  obtain ⟨t, ht⟩ : ∃ s, str b = s := ⟨_, rfl⟩
  rw [hs] at G1 R1 ⊢
  rw [ht] at G2 HB ⊢
  clear hs ht
  go_enter Tryd.func41, Tryd.ntmps41
  go_wp2_with (first
    | (go_at_call 54; refine G1.out.mono ?_; clear G1; rintro e w' ⟨rfl, rfl⟩)
    | (go_at_call 54; refine G2.out.mono ?_; clear G2; rintro e w' ⟨rfl, rfl⟩)
    | (go_at_call 56; refine R1.out.mono ?_; clear R1; rintro e w1 ⟨v1, rfl, h1, hb1⟩)
    | (go_at_call 56; refine (HB.out _).mono ?_; clear HB; rintro e w2 ⟨v2, rfl, h2, hb2⟩)
    | (go_at_call 55; refine (HC.out _ _ _ ((h1.below hb2).mono (Nat.zero_le _)) (h2.mono (Nat.zero_le _))).mono ?_; rintro e w3 ⟨rfl, hb3⟩))
  refine bodyPost_ret (v := .int .i64 (sgnI a b)) ?_ rfl ⟨rfl, (hb1.trans (hb2.mono hb1.size)).trans (hb3.mono (Nat.le_trans hb1.size hb2.size))⟩
  simp [results, Tryd.results41, go_sem]

theorem str_val {s : ByteArray} (h : goodB s.data.toList = true) : s = str (textVal s.data.toList) := by
  rcases good_cases s with hf | ⟨n, -, rfl⟩
  · rw [hf] at h; cases h
  · rw [str_list, textVal_itoa]
theorem str_fits {s : ByteArray} (h : goodB s.data.toList = true) : Fits (textVal s.data.toList) := by
  rcases good_cases s with hf | ⟨n, hn, rfl⟩
  · rw [hf] at h; cases h
  · rw [str_list, textVal_itoa]; exact hn
theorem str_zero : str 0 = ⟨#[48]⟩ := by unfold str; rw [show Lib.itoa 0 = [48] by unfold Lib.itoa; simp [Lib.decDigits_one]]
end Go.Proofs.YthmojhfakmdlfaaDoor
