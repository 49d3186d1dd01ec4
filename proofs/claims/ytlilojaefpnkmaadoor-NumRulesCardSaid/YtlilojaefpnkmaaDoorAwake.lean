/- Of; awake. -/
import Derived.Test.YtlilojaefpnkmaaDoorDiv
namespace Go.Proofs.YtlilojaefpnkmaaDoor
open Go.RowKit

theorem str_val {s : ByteArray} (h : goodB s.data.toList = true) : s = str (textVal s.data.toList) := by
  rcases good_cases s with hf | ⟨n, -, rfl⟩
  · rw [hf] at h; cases h
  · rw [str_list, textVal_itoa]
theorem str_fits {s : ByteArray} (h : goodB s.data.toList = true) : Fits (textVal s.data.toList) := by
  rcases good_cases s with hf | ⟨n, hn, rfl⟩
  · rw [hf] at h; cases h
  · rw [str_list, textVal_itoa]; exact hn
theorem s99 : (⟨#[57, 57]⟩ : ByteArray) = str 99 := str_val (by decide)
theorem s1 : (⟨#[49]⟩ : ByteArray) = str 1 := str_val (by decide)
theorem s100 : (⟨#[49, 48, 48]⟩ : ByteArray) = str 100 := str_val (by decide)
theorem sm7 : (⟨#[45, 55]⟩ : ByteArray) = str (-7) := str_val (by decide)
theorem s2 : (⟨#[50]⟩ : ByteArray) = str 2 := str_val (by decide)
theorem sm3 : (⟨#[45, 51]⟩ : ByteArray) = str (-3) := str_val (by decide)
theorem sm1 : (⟨#[45, 49]⟩ : ByteArray) = str (-1) := str_val (by decide)
theorem sm5 : (⟨#[45, 53]⟩ : ByteArray) = str (-5) := str_val (by decide)

theorem Of_any (n : Int) (h0 : -9223372036854775808 ≤ n) (h1 : n ≤ 9223372036854775807) {w : World} (htab : Tab w.heap.size w) :
    Calls Tryd.prog 26 #[.int .i64 n] w fun e w' => e = .returned (.string (str n)) ∧ Below w.heap.size w w' := by
  have HI := Lib.hid (Tryd.strconv_Itoa n h0 h1 w htab.here)
  go_enter Tryd.func26, Tryd.ntmps26
  go_wp2_with (go_at_call 46; refine HI.out.mono ?_; rintro e w' ⟨rfl, k, os, rfl⟩)
  refine bodyPost_ret (v := .string ⟨(Lib.itoa n).toArray⟩) ?_ rfl ⟨rfl, ?_⟩
  · simp [results, Tryd.results26, go_sem]
  · exact Lib.below_grow _ w (Nat.le_refl _) k os

theorem Tab.on {w w' : World} (h : Tab w.heap.size w) (hb : Below w.heap.size w w') : Tab w'.heap.size w' := (h.below hb (Nat.le_refl _)).mono hb.size

set_option maxRecDepth 100000 in
set_option maxHeartbeats 1000000 in
theorem awake_any {w : World} (htab : Tab w.heap.size w) : Calls Tryd.prog 10 #[] w fun e w' => e = .returned (.bool true) ∧ Below w.heap.size w w' := by
  have C1 := Lib.hid (two_add.2 99 1 w (by decide) (by decide) htab)
  rw [show (if Fits (99 + 1) then str (99 + 1) else (⟨#[]⟩ : ByteArray)) = str 100 from if_pos (by decide), show (if Fits ((99 : Int) + 1) then (0 : Int) else 3) = 0 from if_pos (by decide), ← s99, ← s1, ← s100] at C1
  have C2 := Lib.hid (fun (W : World) (h : Tab W.heap.size W) => Div_good (a := -7) (b := 2) (by decide) (by decide) (by decide) h)
  rw [show Int.tdiv (-7) 2 = -3 by decide, show Int.tmod (-7) 2 = -1 by decide, ← sm7, ← s2, ← sm3, ← sm1] at C2
  have C3 := Lib.hid (fun (W : World) => two_add.1 ⟨#[48, 49]⟩ ⟨#[49]⟩ W (.inl (by decide)))
  have C4 := Lib.hid (fun (W : World) (h : Tab W.heap.size W) => Of_any (-5) (by decide) (by decide) h)
  rw [← sm5] at C4
  have HTab := Lib.hid htab
  clear htab
  go_enter Tryd.func10, Tryd.ntmps10
  go_wp2_with (first
    | (go_at_call 11; refine C1.out.mono ?_; clear C1; rintro e w1 ⟨rfl, hb1⟩; have ht1 := Lib.hid (HTab.out.on hb1))
    | (go_at_call 20; refine (C2.out _ ht1.out).mono ?_; clear C2; rintro e w2 ⟨rfl, hb2⟩; have ht2 := Lib.hid (ht1.out.on hb2))
    | (go_at_call 11; refine (C3.out _).mono ?_; clear C3; rintro e w3 ⟨rfl, hb3⟩; have ht3 := Lib.hid (ht2.out.on hb3))
    | (go_at_call 26; refine (C4.out _ ht3.out).mono ?_; clear C4; rintro e w4 ⟨rfl, hb4⟩))
  refine bodyPost_ret (v := .bool true) ?_ rfl ⟨rfl, (((hb1.trans (hb2.mono hb1.size)).trans (hb3.mono (Nat.le_trans hb1.size hb2.size))).trans (hb4.mono (Nat.le_trans (Nat.le_trans hb1.size hb2.size) hb3.size)))⟩
  simp [results, Tryd.results10, go_sem]
end Go.Proofs.YtlilojaefpnkmaaDoor
