/- A name, a number. -/
import Derived.Test.YtpdepdigacpfiaaDoorLGood
namespace Go.Proofs.YtpdepdigacpfiaaDoor
open Go.RowKit Go.Shelf
set_option linter.unusedVariables false

theorem wordL_le : ∀ R : List UInt8, (wordL R).length ≤ R.length
  | [] => by simp [wordL]
  | c :: r => by
    rw [wordL_cons]
    split
    · have := dropWhile_le (q := wordB) r
      simp; omega
    · simp
def tookL (R R' : List UInt8) : List UInt8 := R.take (R.length - R'.length)
def nameL (R : List UInt8) : Except Int (List UInt8 × List UInt8) := if 32 < R.length - (wordL R).length then .error 3 else .ok (tookL R (wordL R), wordL R)
def numberL (R : List UInt8) : Except Int (List UInt8 × List UInt8) :=
  if (wordL (R.dropWhile digB)).length < (R.dropWhile digB).length then .error 40
  else if goodB (tookL R (R.dropWhile digB)) then .ok (tookL R (R.dropWhile digB), R.dropWhile digB)
  else if R.head? = some 48 then .error 40 else .error 3
theorem took_list {t : ByteArray} {a b : Nat} {R' : List UInt8} (ha : a ≤ t.size) (hab : a ≤ b) (hb : b ≤ t.size) (h : rest t b = R') : (t.extract a b).data.toList = tookL (rest t a) R' := by
  unfold tookL
  rw [Lib.extract_data, ← h, rest_length, rest_length, show t.size - a - (t.size - b) = b - a by omega]
  rfl
set_option maxRecDepth 100000 in
set_option maxHeartbeats 1000000 in
theorem name_any {W : World} {P a : Nat} {t : ByteArray} (h : Scn W P t a) : Calls Tryd.prog 30 #[.pointer (some ⟨P, 0, none⟩)] W (TEnds W P t (nameL (rest t a))) := by
  have hw := wordTo_bytes h.2.1
  have HW := Lib.hid (word_any h rfl)
  have ha := h.2.1
  obtain ⟨b, hb⟩ : ∃ b, wordTo letP wordP t a = b := ⟨_, rfl⟩
  rw [hb] at HW hw
  have hl := took_list ha hw.2.1 hw.2.2 hw.1
  have hsz : (t.extract a b).size = b - a := by simp; have := hw.2.2; omega
  have hrl : (rest t a).length - (wordL (rest t a)).length = b - a := by rw [← hw.1, rest_length, rest_length]; have := hw.2.2; omega
  obtain ⟨s, hs⟩ : ∃ s, t.extract a b = s := ⟨_, rfl⟩
  rw [hs] at HW hl hsz
  by_cases hlt : 32 < b - a
  · have HE : Hid (nameL (rest t a) = .error 3) := Lib.hid (by unfold nameL; rw [hrl, if_pos hlt])
    have i0 : (32 : Int) < (s.size : Int) := by omega
    clear h hw hb hl hrl hs hlt
    go_enter Tryd.func30, Tryd.ntmps30
    go_wp2_with (go_at_call 39; refine HW.out.mono ?_; rintro e w1 ⟨rfl, hw1⟩)
    go_ret2
    rw [HE.out]
    exact TEnds.errAt hw1
  · have HE : Hid (nameL (rest t a) = .ok (tookL (rest t a) (wordL (rest t a)), wordL (rest t a))) := Lib.hid (by unfold nameL; rw [hrl, if_neg hlt])
    have HL := Lib.hid hl
    have HR := Lib.hid hw.1
    have i0 : ¬ (32 : Int) < (s.size : Int) := by omega
    clear h hw hb hl hrl hs hlt
    go_enter Tryd.func30, Tryd.ntmps30
    go_wp2_with (go_at_call 39; refine HW.out.mono ?_; rintro e w1 ⟨rfl, hw1⟩)
    go_ret2
    rw [HE.out]
    exact TEnds.okAt hw1 HL.out HR.out
theorem extract_empty {t : ByteArray} {a b : Nat} (hb : b ≤ t.size) : (t.extract a b).toList.isEmpty = decide (b ≤ a) := by
  rw [ByteArray.toList_eq]
  have hsz : (t.extract a b).data.toList.length = b - a := by rw [Lib.extract_data]; simp; omega
  generalize (t.extract a b).data.toList = l at hsz
  cases l with
  | nil => simp at hsz ⊢; omega
  | cons c l => simp at hsz ⊢; omega
set_option maxRecDepth 100000 in
set_option maxHeartbeats 4000000 in
theorem number_any {W : World} {P a : Nat} {t : ByteArray} (h : Scn W P t a) (h1 : ((rest t a).dropWhile digB).length < (rest t a).length) : Calls Tryd.prog 28 #[.pointer (some ⟨P, 0, none⟩)] W (TEnds W P t (numberL (rest t a))) := by
  have ha := h.2.1
  have hd := digP_bytes ha
  obtain ⟨b, hb⟩ : ∃ b, takeTo digP t a = b := ⟨_, rfl⟩
  rw [hb] at hd
  have HT := Lib.hid (take_any h (isDigit_says W) hb hd.2.2 hd.2.1)
  have hw := wordTo_bytes hd.2.2
  obtain ⟨c, hc⟩ : ∃ c, wordTo letP wordP t b = c := ⟨_, rfl⟩
  rw [hc] at hw
  have HW := Lib.hid (fun (w : World) (hs : Scn w P t b) => word_any hs hc)
  have hl := took_list ha hd.2.1 hd.2.2 hd.1
  have hab : a < b := by rw [← hd.1, rest_length, rest_length] at h1; omega
  have hsz : (t.extract a b).size = b - a := by simp; have := hd.2.2; omega
  have hemp := extract_empty (t := t) (a := b) hw.2.2
  have hwl : (wordL ((rest t a).dropWhile digB)).length < ((rest t a).dropWhile digB).length ↔ b < c := by
    rw [← hd.1, ← hw.1, rest_length, rest_length]
    have := hw.2.2
    omega
  have hhd : (rest t a).head? = (t.extract a b).data.toList.head? := by
    rw [hl]
    unfold tookL
    rw [← hd.1, rest_length, rest_length, rest_cons (by omega)]
    rw [show t.size - a - (t.size - b) = (b - a - 1) + 1 by have := hd.2.2; omega]
    rfl
  obtain ⟨s, hs⟩ : ∃ s, t.extract a b = s := ⟨_, rfl⟩
  rw [hs] at HT hl hsz hhd
  obtain ⟨y, hy⟩ : ∃ y, t.extract b c = y := ⟨_, rfl⟩
  rw [hy] at HW hemp
  have hbc := hw.2.1
  have hs0 : 0 < s.size := by omega
  have hh := head_byte hs0
  rw [hh] at hhd
  have i0 : (0 : Int) < (s.size : Int) := by omega
  have HG := Lib.hid (fun w => Good_any s w)
  rw [hl] at HG
  by_cases hlt : b < c
  · have HE : Hid (numberL (rest t a) = .error 40) := Lib.hid (by unfold numberL; rw [if_pos (hwl.2 hlt)])
    have hye : y.toList.isEmpty = false := by rw [hemp]; simp; omega
    clear h h1 ha hd hb hw hc hl hab hsz hemp hwl hhd hs hy hbc hs0 hh HG hlt
    go_enter Tryd.func28, Tryd.ntmps28
    go_wp2_with fail
    go_at_call 20; refine HT.out.mono ?_; rintro e w1 ⟨rfl, hw1⟩
    have HW1 := Lib.hid hw1
    clear hw1
    go_wp2_with fail
    go_at_call 39; refine (HW.out _ HW1.out.2).mono ?_; rintro e w2 ⟨rfl, hw2⟩
    go_wp2
    go_ret2
    rw [HE.out]
    exact TEnds.errAt (HW1.out.trans hw2)
  · obtain rfl : c = b := by omega
    have hye : y.toList.isEmpty = true := by rw [hemp]; simp
    have HRB := Lib.hid hd.1
    have HLL := Lib.hid hl
    have hnl : numberL (rest t a) = if goodB (tookL (rest t a) ((rest t a).dropWhile digB)) then .ok (tookL (rest t a) ((rest t a).dropWhile digB), (rest t a).dropWhile digB) else if s[0] = 48 then .error 40 else .error 3 := by
      unfold numberL
      rw [if_neg (fun hx => hlt (hwl.1 hx)), hhd]
      simp only [Option.some.injEq]
    obtain ⟨g, hg⟩ : ∃ g, goodB (tookL (rest t a) ((rest t a).dropWhile digB)) = g := ⟨_, rfl⟩
    rw [hg] at HG hnl
    have HE := Lib.hid hnl
    by_cases h48 : s[0] = 48
    · have e48 : (((s[0]'hs0).toNat : Int) == 48) = true := by rw [h48]; rfl
      have HE48 := Lib.hid h48
      clear h h1 ha hd hb hw hc hl hab hsz hemp hwl hhd hs hy hbc hh hlt hnl hg h48
      cases g
      all_goals
        go_enter Tryd.func28, Tryd.ntmps28
        go_wp2_with fail
        go_at_call 20; refine HT.out.mono ?_; rintro e w1 ⟨rfl, hw1⟩
        have HW1 := Lib.hid hw1
        clear hw1
        go_wp2_with fail
        go_at_call 39; refine (HW.out _ HW1.out.2).mono ?_; rintro e w2 ⟨rfl, hw2⟩
        have HW2 := Lib.hid (HW1.out.trans hw2)
        clear hw2
        go_wp2_with fail
        go_at_call 42; refine (HG.out _).mono ?_; rintro e w3 ⟨rfl, rfl⟩
        go_wp2
        go_ret2
        rw [HE.out]
        first
          | exact TEnds.okAt HW2.out HLL.out HRB.out
          | (rw [if_neg Bool.false_ne_true, if_pos HE48.out]; exact TEnds.errAt HW2.out)
          | (rw [if_pos trivial]; exact TEnds.okAt HW2.out HLL.out HRB.out)
    · have e48 : (((s[0]'hs0).toNat : Int) == 48) = false := beq_eq_false_iff_ne.2 (fun e => h48 (UInt8.toNat_inj.1 (by simpa using Int.ofNat.inj e)))
      have HE48 := Lib.hid h48
      clear h h1 ha hd hb hw hc hl hab hsz hemp hwl hhd hs hy hbc hh hlt hnl hg h48
      cases g
      all_goals
        go_enter Tryd.func28, Tryd.ntmps28
        go_wp2_with fail
        go_at_call 20; refine HT.out.mono ?_; rintro e w1 ⟨rfl, hw1⟩
        have HW1 := Lib.hid hw1
        clear hw1
        go_wp2_with fail
        go_at_call 39; refine (HW.out _ HW1.out.2).mono ?_; rintro e w2 ⟨rfl, hw2⟩
        have HW2 := Lib.hid (HW1.out.trans hw2)
        clear hw2
        go_wp2_with fail
        go_at_call 42; refine (HG.out _).mono ?_; rintro e w3 ⟨rfl, rfl⟩
        go_wp2
        go_ret2
        rw [HE.out]
        first
          | (rw [if_neg Bool.false_ne_true, if_neg HE48.out]; exact TEnds.errAt HW2.out)
          | (rw [if_pos trivial]; exact TEnds.okAt HW2.out HLL.out HRB.out)
end Go.Proofs.YtpdepdigacpfiaaDoor
