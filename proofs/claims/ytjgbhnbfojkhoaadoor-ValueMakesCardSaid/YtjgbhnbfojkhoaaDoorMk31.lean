/- purlinref01.Good in value's seat -/
import Derived.Deep.CutRange
import Derived.Lib.IndexBytes
import Derived.Lib.Split
import Derived.Test.YtjgbhnbfojkhoaaDoorMk07
namespace Go.Proofs.YtjgbhnbfojkhoaaDoor
open Go.RowKit
set_option linter.unusedVariables false

/-- Good's own telling: what the loop is asked. -/
def goodR (s D : ByteArray) : Bool := if D.size = 0 then false else if 100 < D.size then false else if D.data.toList.head? = some 48 ∧ 1 < s.size then false else D.data.toList.all digB

set_option maxHeartbeats 1000000 in
theorem refGood_minus {s D : ByteArray} (hs : s.size = D.size + 1) (hm : ∀ h : 0 < s.size, (s[0].toNat : Int) = 45) (hD : s.extract 1 (D.size + 1) = D) (w : World) :
    Calls Tryd.prog 46 #[.string s] w fun e w' => e = .returned (.bool (goodR s D)) ∧ w = w' := by
  have h0 : 0 < s.size := by omega
  have hm0 := beq_iff_eq.2 (hm h0)
  have hm1 : s[0].toNat = 45 := by have := hm h0; omega
  clear hm
  by_cases e0 : D.size = 0
  · have HR : Hid (goodR s D = false) := Lib.hid (by unfold goodR; rw [if_pos e0])
    go_enter Tryd.func46, Tryd.ntmps46
    go_wp2
    go_ret
    exact ⟨by rw [HR.out]; rfl, rfl⟩
  · have e0' : 0 < D.size := by omega
    have e1 : ((D.size : Int) == 0) = false := beq_eq_false_iff_ne.2 (by omega)
    by_cases e2 : 100 < D.size
    · have HR : Hid (goodR s D = false) := Lib.hid (by unfold goodR; rw [if_neg e0, if_pos e2])
      clear e0
      go_enter Tryd.func46, Tryd.ntmps46
      go_wp2
      go_ret
      exact ⟨by rw [HR.out]; rfl, rfl⟩
    · have e2' : D.size ≤ 100 := by omega
      have hh := head_byte e0'
      by_cases e3 : D[0].toNat = 48
      · have HR : Hid (goodR s D = false) := Lib.hid (by
          unfold goodR
          rw [if_neg e0, if_neg e2, if_pos]
          rw [hh]
          exact ⟨congrArg some (UInt8.toNat_inj.1 e3), by omega⟩)
        clear e0 e2 hh
        have hs1 : 1 < s.size := by omega
        go_enter Tryd.func46, Tryd.ntmps46
        go_wp2
        all_goals
          go_ret
          exact ⟨by rw [HR.out]; rfl, rfl⟩
      · have e3' : ((D[0].toNat : Int) == 48) = false := beq_eq_false_iff_ne.2 (by omega)
        have HR : Hid (goodR s D = D.data.toList.all digB) := Lib.hid (by
          unfold goodR
          rw [if_neg e0, if_neg e2, if_neg]
          rw [hh]
          rintro ⟨h, -⟩
          simp at h
          rw [h] at e3
          exact e3 rfl)
        obtain ⟨r, hr⟩ : ∃ r, D.data.toList.all digB = r := ⟨_, rfl⟩
        rw [HR.out, hr]
        clear e0 e2 hh e3 HR
        have HR := Lib.hid hr
        clear hr
        go_enter Tryd.func46, Tryd.ntmps46
        go_wp2
        go_loop [4] (fun i => ∃ k : Nat, k ≤ D.size ∧ i = .int .i64 k ∧ Hid ((D.data.toList.take k).all digB = true)) (fun i => D.size - (intOf i).toNat)
        case atStart => exact ⟨0, Nat.zero_le _, rfl, Lib.hid rfl⟩
        case round =>
          obtain ⟨k, hk, rfl, HK⟩ := hrel
          by_cases hlt : k < D.size
          · have HS : Hid ((D.data.toList.take (k + 1)).all digB = digB D[k]) := Lib.hid (by
              rw [List.take_succ_eq_append_getElem (by rw [bytes_len]; exact hlt), List.all_append, HK.out]
              simp
              rfl)
            by_cases hd : 48 ≤ D[k].toNat ∧ D[k].toNat ≤ 57
            · obtain ⟨hd1, hd2⟩ := hd
              have HS2 : Hid (digB D[k] = true) := Lib.hid (by unfold digB; simp [hd1, hd2])
              go_wp2
              go_round
              case rel => exact ⟨k + 1, by omega, by go_num, Lib.hid (by rw [HS.out, HS2.out])⟩
              case measure => simp [intOf]; omega
            · have HF2 : Hid (D.data.toList.all digB = false) := Lib.hid (by
                rw [List.all_eq_false]
                refine ⟨D[k], ?_, ?_⟩
                · exact bytes_mem D k hlt
                · unfold digB; simp; omega)
              rcases (show D[k].toNat < 48 ∨ (48 ≤ D[k].toNat ∧ 57 < D[k].toNat) by omega) with h | ⟨h, h'⟩
              all_goals
                clear hd
                go_wp2
                go_ret
                exact ⟨by rw [← HR.out, HF2.out]; rfl, rfl⟩
          · go_wp2
            go_ret
            exact ⟨by have := HK.out; rw [List.take_of_length_le (by rw [bytes_len]; omega)] at this; rw [← HR.out, this]; rfl, rfl⟩

set_option maxHeartbeats 1000000 in
theorem refGood_plain {s : ByteArray} (h0 : 0 < s.size) (hm : (s[0].toNat : Int) ≠ 45) (w : World) :
    Calls Tryd.prog 46 #[.string s] w fun e w' => e = .returned (.bool (goodR s s)) ∧ w = w' := by
  have hm0 : ((s[0].toNat : Int) == 45) = false := beq_eq_false_iff_ne.2 hm
  have e0 : s.size ≠ 0 := by omega
  have e1 : ((s.size : Int) == 0) = false := beq_eq_false_iff_ne.2 (by omega)
  by_cases e2 : 100 < s.size
  · have HR : Hid (goodR s s = false) := Lib.hid (by unfold goodR; rw [if_neg e0, if_pos e2])
    clear e0
    go_enter Tryd.func46, Tryd.ntmps46
    go_wp2
    go_ret
    exact ⟨by rw [HR.out]; rfl, rfl⟩
  · have e2' : s.size ≤ 100 := by omega
    have hh := head_byte h0
    by_cases e3 : s[0].toNat = 48
    · by_cases e4 : 1 < s.size
      · have HR : Hid (goodR s s = false) := Lib.hid (by
          unfold goodR
          rw [if_neg e0, if_neg e2, if_pos]
          rw [hh]
          exact ⟨congrArg some (UInt8.toNat_inj.1 e3), by omega⟩)
        clear e0 e2 hh
        go_enter Tryd.func46, Tryd.ntmps46
        go_wp2
        go_ret
        exact ⟨by rw [HR.out]; rfl, rfl⟩
      · have HR : Hid (goodR s s = s.data.toList.all digB) := Lib.hid (by
          unfold goodR
          rw [if_neg e0, if_neg e2, if_neg]
          rintro ⟨-, h⟩
          exact e4 h)
        obtain ⟨r, hr⟩ : ∃ r, s.data.toList.all digB = r := ⟨_, rfl⟩
        rw [HR.out, hr]
        clear e0 e2 hh HR
        have HR := Lib.hid hr
        clear hr
        go_enter Tryd.func46, Tryd.ntmps46
        go_wp2
        go_loop [4] (fun i => ∃ k : Nat, k ≤ s.size ∧ i = .int .i64 k ∧ Hid ((s.data.toList.take k).all digB = true)) (fun i => s.size - (intOf i).toNat)
        case atStart => exact ⟨0, Nat.zero_le _, rfl, Lib.hid rfl⟩
        case round =>
          obtain ⟨k, hk, rfl, HK⟩ := hrel
          by_cases hlt : k < s.size
          · have HS : Hid ((s.data.toList.take (k + 1)).all digB = digB s[k]) := Lib.hid (by
              rw [List.take_succ_eq_append_getElem (by rw [bytes_len]; exact hlt), List.all_append, HK.out]
              simp
              rfl)
            by_cases hd : 48 ≤ s[k].toNat ∧ s[k].toNat ≤ 57
            · obtain ⟨hd1, hd2⟩ := hd
              have HS2 : Hid (digB s[k] = true) := Lib.hid (by unfold digB; simp [hd1, hd2])
              go_wp2
              go_round
              case rel => exact ⟨k + 1, by omega, by go_num, Lib.hid (by rw [HS.out, HS2.out])⟩
              case measure => simp [intOf]; omega
            · have HF2 : Hid (s.data.toList.all digB = false) := Lib.hid (by
                rw [List.all_eq_false]
                refine ⟨s[k], ?_, ?_⟩
                · exact bytes_mem s k hlt
                · unfold digB; simp; omega)
              rcases (show s[k].toNat < 48 ∨ (48 ≤ s[k].toNat ∧ 57 < s[k].toNat) by omega) with h | ⟨h, h'⟩
              all_goals
                clear hd
                go_wp2
                go_ret
                exact ⟨by rw [← HR.out, HF2.out]; rfl, rfl⟩
          · go_wp2
            go_ret
            exact ⟨by have := HK.out; rw [List.take_of_length_le (by rw [bytes_len]; omega)] at this; rw [← HR.out, this]; rfl, rfl⟩
    · have e3' : ((s[0].toNat : Int) == 48) = false := beq_eq_false_iff_ne.2 (by omega)
      have HR : Hid (goodR s s = s.data.toList.all digB) := Lib.hid (by
        unfold goodR
        rw [if_neg e0, if_neg e2, if_neg]
        rw [hh]
        rintro ⟨h, -⟩
        simp at h
        rw [h] at e3
        exact e3 rfl)
      obtain ⟨r, hr⟩ : ∃ r, s.data.toList.all digB = r := ⟨_, rfl⟩
      rw [HR.out, hr]
      clear e0 e2 hh e3 HR
      have HR := Lib.hid hr
      clear hr
      go_enter Tryd.func46, Tryd.ntmps46
      go_wp2
      go_loop [4] (fun i => ∃ k : Nat, k ≤ s.size ∧ i = .int .i64 k ∧ Hid ((s.data.toList.take k).all digB = true)) (fun i => s.size - (intOf i).toNat)
      case atStart => exact ⟨0, Nat.zero_le _, rfl, Lib.hid rfl⟩
      case round =>
        obtain ⟨k, hk, rfl, HK⟩ := hrel
        by_cases hlt : k < s.size
        · have HS : Hid ((s.data.toList.take (k + 1)).all digB = digB s[k]) := Lib.hid (by
            rw [List.take_succ_eq_append_getElem (by rw [bytes_len]; exact hlt), List.all_append, HK.out]
            simp
            rfl)
          by_cases hd : 48 ≤ s[k].toNat ∧ s[k].toNat ≤ 57
          · obtain ⟨hd1, hd2⟩ := hd
            have HS2 : Hid (digB s[k] = true) := Lib.hid (by unfold digB; simp [hd1, hd2])
            go_wp2
            go_round
            case rel => exact ⟨k + 1, by omega, by go_num, Lib.hid (by rw [HS.out, HS2.out])⟩
            case measure => simp [intOf]; omega
          · have HF2 : Hid (s.data.toList.all digB = false) := Lib.hid (by
              rw [List.all_eq_false]
              refine ⟨s[k], ?_, ?_⟩
              · exact bytes_mem s k hlt
              · unfold digB; simp; omega)
            rcases (show s[k].toNat < 48 ∨ (48 ≤ s[k].toNat ∧ 57 < s[k].toNat) by omega) with h | ⟨h, h'⟩
            all_goals
              clear hd
              go_wp2
              go_ret
              exact ⟨by rw [← HR.out, HF2.out]; rfl, rfl⟩
        · go_wp2
          go_ret
          exact ⟨by have := HK.out; rw [List.take_of_length_le (by rw [bytes_len]; omega)] at this; rw [← HR.out, this]; rfl, rfl⟩

theorem goodR_plain {s : ByteArray} (h : bare s = s) : goodR s s = goodB s.data.toList := by
  rw [good_bare h]
  unfold goodR
  by_cases e0 : s.size = 0
  · have : s.data.toList = [] := List.length_eq_zero_iff.1 (by rw [bytes_len]; exact e0)
    rw [if_pos e0, this]; rfl
  · have hne : s.data.toList ≠ [] := by intro h'; exact e0 (by rw [← bytes_len, h']; rfl)
    rw [if_neg e0, decide_eq_true hne, bytes_len]
    by_cases e2 : 100 < s.size
    · rw [if_pos e2, decide_eq_false (show ¬ s.size ≤ 100 by omega)]; rfl
    · rw [if_neg e2, decide_eq_true (show s.size ≤ 100 by omega)]
      by_cases e3 : s.data.toList.head? = some 48
      · rw [if_pos e3]
        by_cases e4 : 1 < s.size
        · rw [if_pos ⟨e3, e4⟩, decide_eq_false (by intro h'; rw [← bytes_len, h'] at e4; simp at e4)]; rfl
        · rw [if_neg (fun h' => e4 h'.2)]
          have hl := bytes_len s
          have h48 : s.data.toList = [48] := by
            generalize s.data.toList = l at e3 hl hne
            match l, e3, hl with
            | [x], e3, _ => simp at e3; rw [e3]
            | x :: y :: l, _, hl => simp at hl; omega
          rw [h48]; rfl
      · rw [if_neg e3, if_neg (fun h' => e3 h'.1)]; rfl
theorem goodR_minus {s D : ByteArray} (h : bare s = D) (hs : s.size = D.size + 1) (h45 : s.data.toList.head? = some 45) : goodR s D = goodB s.data.toList := by
  rw [good_bare h]
  unfold goodR
  by_cases e0 : D.size = 0
  · have : D.data.toList = [] := List.length_eq_zero_iff.1 (by rw [bytes_len]; exact e0)
    rw [if_pos e0, this]; rfl
  · have hne : D.data.toList ≠ [] := by intro h'; exact e0 (by rw [← bytes_len, h']; rfl)
    rw [if_neg e0, decide_eq_true hne, bytes_len]
    by_cases e2 : 100 < D.size
    · rw [if_pos e2, decide_eq_false (show ¬ D.size ≤ 100 by omega)]; rfl
    · rw [if_neg e2, decide_eq_true (show D.size ≤ 100 by omega)]
      by_cases e3 : D.data.toList.head? = some 48
      · rw [if_pos e3, if_pos ⟨e3, by omega⟩, decide_eq_false (by intro h'; rw [h'] at h45; simp at h45)]; rfl
      · rw [if_neg e3, if_neg (fun h' => e3 h'.1)]; rfl
theorem refGood_empty (w : World) : Calls Tryd.prog 46 #[.string ⟨#[]⟩] w fun e w' => e = .returned (.bool false) ∧ w = w' := by
  go_enter Tryd.func46, Tryd.ntmps46
  go_wp2
  go_ret
  exact ⟨rfl, rfl⟩
theorem refGood_any (s : ByteArray) (w : World) : Calls Tryd.prog 46 #[.string s] w fun e w' => e = .returned (.bool (goodB s.data.toList)) ∧ w = w' := by
  rcases trim_minus s.data.toList with ⟨r, h1, h2, -⟩ | ⟨h1, h2, -⟩
  · have hD : s.extract 1 s.size = bare s := WideShapes.bytes_inj (by rw [Lib.extract_to_end, bare_list, h2, h1]; rfl)
    have hs : s.size = (bare s).size + 1 := by rw [← bytes_len, ← bytes_len, bare_list, h2, h1]; rfl
    have hh : s.data.toList.head? = some 45 := by rw [h1]; rfl
    rw [← goodR_minus rfl hs hh]
    refine refGood_minus hs (fun h => ?_) (hs ▸ hD) w
    have := head_byte h
    rw [hh] at this
    rw [← Option.some.inj this]
    rfl
  · have hD : bare s = s := WideShapes.bytes_inj (by rw [bare_list, h2])
    rcases Nat.eq_zero_or_pos s.size with h0 | h0
    · obtain rfl : s = ⟨#[]⟩ := WideShapes.bytes_inj (by
        have : s.data.toList = [] := List.length_eq_zero_iff.1 (by rw [bytes_len]; exact h0)
        rw [this])
      exact refGood_empty w
    · rw [← goodR_plain hD]
      refine refGood_plain h0 (fun h => h1 ?_) w
      rw [head_byte h0]
      exact congrArg some (UInt8.toNat_inj.1 (by have h' : s[0].toNat = 45 := by omega
                                                 rw [h']; rfl))

end Go.Proofs.YtjgbhnbfojkhoaaDoor
