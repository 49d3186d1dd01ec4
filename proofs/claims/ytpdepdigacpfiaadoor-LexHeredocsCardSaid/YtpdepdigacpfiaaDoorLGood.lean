/- num.Good. -/
import Derived.Test.YtpdepdigacpfiaaDoorLToks
import Derived.Test.YtpdepdigacpfiaaDoorDigits
namespace Go.Proofs.YtpdepdigacpfiaaDoor
open Go.RowKit

/-- The text without its sign. -/
def bare (s : ByteArray) : ByteArray := ⟨(Lib.trimPrefix s.data.toList [45]).toArray⟩

theorem trim_any (s : ByteArray) (w : World) : Calls Tryd.prog 56 #[.string s, .string ⟨#[45]⟩] w fun e w' => e = .returned (.string (bare s)) ∧ w = w' :=
  (Tryd.strings_TrimPrefix _ _ _).mono fun _ _ ⟨h1, h2⟩ => ⟨h1, h2.symm⟩

theorem bare_list (s : ByteArray) : (bare s).data.toList = Lib.trimPrefix s.data.toList [45] := by unfold bare; rfl

/-- goodB, told of the text without its sign. -/
theorem good_bare {s D : ByteArray} (h : bare s = D) : goodB s.data.toList = (decide (D.data.toList ≠ []) && decide (D.data.toList.length ≤ 100) && (if D.data.toList.head? = some 48 then decide (s.data.toList = [48]) else D.data.toList.all digB)) := by
  subst h
  rw [bare_list]
  rfl
theorem head_byte {D : ByteArray} (h : 0 < D.size) : D.data.toList.head? = some D[0] := by
  rw [List.head?_eq_getElem?, List.getElem?_eq_getElem (by rw [bytes_len]; exact h)]
  rfl

set_option maxHeartbeats 400000 in
theorem Good_any (s : ByteArray) (w : World) :
    Calls Tryd.prog 42 #[.string s] w fun e w' => e = .returned (.bool (goodB s.data.toList)) ∧ w = w' := by
  obtain ⟨D, hD⟩ : ∃ D, bare s = D := ⟨_, rfl⟩
  have HG := Lib.hid (good_bare hD)
  have HT : Calls Tryd.prog 56 #[.string s, .string ⟨#[45]⟩] w fun e w' => e = .returned (.string D) ∧ w = w' := by rw [← hD]; exact trim_any s w
  have HL := Lib.hid (bytes_len D)
  clear hD
  rcases Nat.eq_zero_or_pos D.size with h0 | h0
  · have e1 : ((D.size : Int) == 0) = true := beq_iff_eq.2 (by omega)
    have HF : Hid (goodB s.data.toList = false) := Lib.hid (by
      rw [HG.out]
      have : D.data.toList = [] := List.length_eq_zero_iff.1 (by rw [HL.out]; exact h0)
      rw [this]; rfl)
    clear h0
    go_enter Tryd.func42, Tryd.ntmps42
    go_wp2_with (go_at_call 56; refine HT.mono ?_; rintro e w' ⟨rfl, rfl⟩)
    go_ret
    exact ⟨by rw [HF.out]; rfl, rfl⟩
  · have e1 : ((D.size : Int) == 0) = false := beq_eq_false_iff_ne.2 (by omega)
    by_cases h1 : 100 < D.size
    · have HF : Hid (goodB s.data.toList = false) := Lib.hid (by
        rw [HG.out, HL.out]
        have : decide (D.size ≤ 100) = false := by simp; omega
        rw [this]; simp)

      go_enter Tryd.func42, Tryd.ntmps42
      go_wp2_with (go_at_call 56; refine HT.mono ?_; rintro e w' ⟨rfl, rfl⟩)
      go_ret
      exact ⟨by rw [HF.out]; rfl, rfl⟩
    · have h2 : D.size ≤ 100 := by omega
      have hn : decide (D.data.toList ≠ []) = true := by
        simp only [decide_eq_true_eq]; intro h; have := HL.out; rw [h] at this; simp at this; omega
      have hl : decide (D.data.toList.length ≤ 100) = true := by simp only [decide_eq_true_eq]; rw [HL.out]; exact h2
      have hh := head_byte h0
      by_cases h3 : D[0].toNat = 48
      · have e3 : ((D[0].toNat : Int) == 48) = true := beq_iff_eq.2 (by omega)
        have HF : Hid (goodB s.data.toList = (s.toList == [48])) := Lib.hid (by
          rw [HG.out, hn, hl, hh]
          have : D[0] = 48 := UInt8.toNat_inj.1 h3
          rw [this]
          rw [ByteArray.toList_eq]
          simp
          rw [Bool.eq_iff_iff]
          simp)
        clear hn hl hh h1 h3
        go_enter Tryd.func42, Tryd.ntmps42
        go_wp2_with (go_at_call 56; refine HT.mono ?_; rintro e w' ⟨rfl, rfl⟩)
        go_ret
        exact ⟨by rw [HF.out]; rfl, rfl⟩
      · have e3 : ((D[0].toNat : Int) == 48) = false := beq_eq_false_iff_ne.2 (by omega)
        have HF : Hid (goodB s.data.toList = D.data.toList.all digB) := Lib.hid (by
          rw [HG.out, hn, hl, hh, if_neg (by intro h; simp at h; rw [h] at h3; exact h3 rfl)]
          rfl)
        clear hn hl hh h1 h3
        go_enter Tryd.func42, Tryd.ntmps42
        go_wp2_with (go_at_call 56; refine HT.mono ?_; rintro e w' ⟨rfl, rfl⟩)
        go_loop [22] (fun i => ∃ k : Nat, k ≤ D.size ∧ i = .int .i64 k ∧ Hid ((D.data.toList.take k).all digB = true)) (fun i => D.size - (intOf i).toNat)
        case atStart => exact ⟨0, Nat.zero_le _, rfl, Lib.hid rfl⟩
        case round =>
          obtain ⟨k, hk, rfl, HK⟩ := hrel
          by_cases hlt : k < D.size
          · have HS : Hid ((D.data.toList.take (k + 1)).all digB = digB D[k]) := Lib.hid (by
              rw [List.take_succ_eq_append_getElem (by rw [HL.out]; exact hlt), List.all_append, HK.out]
              simp
              rfl)
            by_cases hd : 48 ≤ D[k].toNat ∧ D[k].toNat ≤ 57
            · obtain ⟨hd1, hd2⟩ := hd
              have HS2 : Hid (digB D[k] = true) := Lib.hid (by unfold digB; simp [hd1, hd2])
              go_wp2
              go_round
              case rel => exact ⟨k + 1, by omega, by go_num, Lib.hid (by rw [HS.out, HS2.out])⟩
              case measure => simp [intOf]; omega
            · have HF2 : Hid (D.data.toList.all digB = false) := Lib.hid (by
                rw [List.all_eq_false]
                refine ⟨D[k], ?_, ?_⟩
                · exact bytes_mem D k hlt
                · unfold digB; simp; omega)
              rcases (show D[k].toNat < 48 ∨ (48 ≤ D[k].toNat ∧ 57 < D[k].toNat) by omega) with h | ⟨h, h'⟩
              all_goals
                clear hd
                go_wp2
                go_ret
                exact ⟨by rw [HF.out, HF2.out]; rfl, rfl⟩
          · go_wp2
            go_ret
            exact ⟨by rw [HF.out]; have := HK.out; rw [List.take_of_length_le (by rw [HL.out]; omega)] at this; rw [this]; rfl, rfl⟩

end Go.Proofs.YtpdepdigacpfiaaDoor
