/- heredoc. -/
import Derived.Test.YtpdepdigacpfiaaDoorLEsc
import Derived.Shelf.Strings.SlTrimAscii
namespace Go.Proofs.YtpdepdigacpfiaaDoor
open Go.RowKit Go.Shelf
set_option linter.unusedVariables false

def escB (l : List UInt8) : List UInt8 := escFrom ⟨l.toArray⟩ l.length 0
def hereL : Nat → List UInt8 → List UInt8 → List UInt8 → Except Int (List UInt8 × List UInt8)
  | 0, _, _, _ => .error 40
  | n + 1, nm, B, R => if Lib.hasPrefix R [10] then
      (if (Lib.trimLeftS (tookL (R.drop 1) ((R.drop 1).dropWhile (notIn [10]))) [32, 9] == nm) then .ok (escB (tookL B (R.drop 1)), (R.drop 1).dropWhile (notIn [10]))
       else hereL n nm B ((R.drop 1).dropWhile (notIn [10])))
    else .error 40
def heredocL (R : List UInt8) : Except Int (List UInt8 × List UInt8) :=
  if (wordL (R.drop 2)).length < (R.drop 2).length then hereL ((wordL (R.drop 2)).length + 1) (tookL (R.drop 2) (wordL (R.drop 2))) ((wordL (R.drop 2)).drop 1) (wordL (R.drop 2)) else .error 40
theorem hereL_more {nm B : List UInt8} : ∀ {n m : Nat} {R : List UInt8}, R.length < n → R.length < m → hereL n nm B R = hereL m nm B R
  | 0, m, R, h, _ => by omega
  | n + 1, 0, R, _, h => by omega
  | n + 1, m + 1, R, h1, h2 => by
    unfold hereL
    split
    · rename_i hp
      split
      · rfl
      · have h3 := prefix_drop hp
        simp at h3
        have h4 := dropWhile_le (q := notIn [10]) (R.drop 1)
        simp at h4
        exact hereL_more (by simp; omega) (by simp; omega)
    · rfl
theorem hereL_step {nm B R : List UInt8} (h : Lib.hasPrefix R [10] = true) : hereL (R.length + 1) nm B R = if (Lib.trimLeftS (tookL (R.drop 1) ((R.drop 1).dropWhile (notIn [10]))) [32, 9] == nm) then .ok (escB (tookL B (R.drop 1)), (R.drop 1).dropWhile (notIn [10])) else hereL (((R.drop 1).dropWhile (notIn [10])).length + 1) nm B ((R.drop 1).dropWhile (notIn [10])) := by
  conv => lhs; unfold hereL
  rw [if_pos h]
  split
  · rfl
  · have h3 := prefix_drop h
    simp at h3
    have h4 := dropWhile_le (q := notIn [10]) (R.drop 1)
    simp at h4
    exact hereL_more (by simp; omega) (by omega)
theorem str_of_list {s : ByteArray} {l : List UInt8} (h : s.data.toList = l) : s = ⟨l.toArray⟩ := by
  subst h
  rfl
theorem info256 : (Tryd.prog.info? 71).map (fun i => (i.zero, i.size)) = some (some (.agg (Array.replicate 256 (.bool false))), 256) := by kernel_rfl
theorem trim_any2 (s : ByteArray) (w : World) : Calls Tryd.prog 40 #[.string s, .string ⟨#[32, 9]⟩] w fun e w' => e = .returned (.string ⟨(Lib.trimLeftS s.data.toList [32, 9]).toArray⟩) ∧ Below w.heap.size w w' :=
  Any.strings_TrimLeft_laid Tryd.lays161 info256 s ⟨#[32, 9]⟩ w (by decide) (Go.Proofs.ascii_of_all (l := [32, 9]) (by decide))
/-- A line taken: its bytes. -/
theorem take_line {W : World} {P a : Nat} {t : ByteArray} (h : Scn W P t a) {g : Nat} {lb : Array Value} (hg : Says g lb (outP ⟨#[10]⟩) W) : Calls Tryd.prog 20 #[.pointer (some ⟨P, 0, none⟩), .func (.func g) #[] lb] W fun e w' =>
    ∃ x b, e = .returned (.string x) ∧ Went W w' P t b ∧ rest t b = (rest t a).dropWhile (notIn [10]) ∧ x.data.toList = tookL (rest t a) ((rest t a).dropWhile (notIn [10])) := by
  have hb := outP_bytes asc10 h.2.1
  rw [show (rest t a).dropWhile (fun c => !(⟨#[10]⟩ : ByteArray).data.toList.contains c) = (rest t a).dropWhile (notIn [10]) from rfl] at hb
  refine (take_any h hg rfl hb.2.2 hb.2.1).mono ?_
  rintro e w' ⟨rfl, hw⟩
  exact ⟨_, _, rfl, hw, hb.1, took_list h.2.1 hb.2.1 hb.2.2 hb.1⟩
theorem beq_toList (a b : ByteArray) : (a.toList == b.toList) = (a.data.toList == b.data.toList) := by rw [ByteArray.toList_eq, ByteArray.toList_eq]
set_option maxRecDepth 100000 in
set_option maxHeartbeats 8000000 in
theorem heredoc_any {W : World} {P a : Nat} {t : ByteArray} (h : Scn W P t a) (h1 : Lib.hasPrefix (rest t a) [60, 60] = true) : Calls Tryd.prog 26 #[.pointer (some ⟨P, 0, none⟩)] W (TEnds W P t (heredocL (rest t a))) := by
  have hle := prefix_drop h1
  rw [rest_length] at hle
  simp only [List.length_cons, List.length_nil] at hle
  have hsz := h.2
  have HK := Lib.hid (skip_yes h ⟨#[60, 60]⟩ h1)
  have hw := wordTo_bytes (t := t) (a := a + 2) (by omega)
  obtain ⟨c, hc⟩ : ∃ c, wordTo letP wordP t (a + 2) = c := ⟨_, rfl⟩
  rw [hc] at hw
  have HW := Lib.hid (fun (w : World) (hs : Scn w P t (a + 2)) => word_any hs hc)
  have hl := took_list (by omega) hw.2.1 hw.2.2 hw.1
  have hemp := extract_empty (t := t) (a := a + 2) hw.2.2
  have hrl : (wordL (rest t (a + 2))).length < (rest t (a + 2)).length ↔ a + 2 < c := by
    rw [← hw.1, rest_length, rest_length]; have := hw.2.2; omega
  have hunf : heredocL (rest t a) = if a + 2 < c then hereL ((rest t c).length + 1) (tookL (rest t (a + 2)) (rest t c)) (rest t (c + 1)) (rest t c) else .error 40 := by
    unfold heredocL
    rw [rest_add, ← hw.1, rest_add]
    rw [← hw.1] at hrl
    by_cases hx : a + 2 < c
    · rw [if_pos hx, if_pos (hrl.2 hx)]
    · rw [if_neg hx, if_neg (fun h => hx (hrl.1 h))]
  rw [← hw.1] at hl
  obtain ⟨nm, hnm⟩ : ∃ nm, t.extract (a + 2) c = nm := ⟨_, rfl⟩
  rw [hnm] at HW hl hemp
  rw [← hl] at hunf
  by_cases hx : a + 2 < c
  · rw [if_pos hx] at hunf
    have hne : nm.toList.isEmpty = false := by rw [hemp]; simp; omega
    have HU := Lib.hid hunf
    have hcs := hw.2.2
    clear h h1 hle hw hc hl hemp hrl hunf hnm
    have HN := Lib.hid (fun w => noneOf_any asc10 (by decide) w)
    have HT := Lib.hid (fun (w : World) (d : Nat) (hs : Scn w P t d) (g : Nat) (lb : Array Value) (hg : Says g lb (outP ⟨#[10]⟩) w) => take_line hs hg)
    have HTL := Lib.hid (fun (x : ByteArray) (w : World) => trim_any2 x w)
    go_enter Tryd.func26, Tryd.ntmps26
    go_wp2_with fail
    go_at_call 37; refine HK.out.mono ?_; rintro e w1 ⟨rfl, hw1⟩
    have HW1 := Lib.hid hw1
    clear hw1 HK
    go_wp2_with fail
    go_at_call 39; refine (HW.out _ HW1.out.2).mono ?_; rintro e w2 ⟨rfl, hw2⟩
    have HW2 := Lib.hid (HW1.out.trans hw2)
    have c1 := HW2.out.2.1.cell 1
    clear hw2 HW HW1
    have i0 : (c : Int) + 1 ≤ 16385 := by omega
    go_wp2_with fail
    go_loopg [] t.size (fun gf wx => ∃ d : Nat, Hid (Went W wx P t d) ∧ Hid (hereL ((rest t d).length + 1) nm.data.toList (rest t (c + 1)) (rest t d) = heredocL (rest t a)) ∧ c ≤ d ∧ t.size - d ≤ gf)
    case atStart => exact ⟨c, HW2, Lib.hid HU.out.symm, by omega, by omega⟩
    case round =>
      obtain ⟨d, HWd, HE, hcd, hfu⟩ := hrel
      have hds := HWd.out.2.2.1
      cases hv : Lib.hasPrefix (rest t d) [10]
      · have HK := Lib.hid (skip_no HWd.out.2 ⟨#[10]⟩ hv)
        have HV := Lib.hid hv
        clear hv
        go_wp2_with (go_at_call 37; refine HK.out.mono ?_; rintro e w3 ⟨rfl, hb3⟩)
        go_ret2
        rw [← HE.out]
        unfold hereL
        rw [HV.out, if_neg Bool.false_ne_true]
        exact TEnds.errAt (HWd.out.trans (HWd.out.2.stays hb3))
      · have HK := Lib.hid (skip_yes HWd.out.2 ⟨#[10]⟩ hv)
        have HV := Lib.hid hv
        have hd1 := prefix_drop hv
        rw [rest_length] at hd1
        simp only [List.length_cons, List.length_nil] at hd1
        clear hv
        go_wp2_with fail
        go_at_call 37; refine HK.out.mono ?_; rintro e w3 ⟨rfl, hw3⟩
        have HW3 := Lib.hid (HWd.out.trans hw3)
        have k1 := HW3.out.2.1.cell 1
        clear hw3 HK
        go_wp2_with fail
        go_at_call 35; refine (HN.out _).mono ?_; rintro e w4 ⟨⟨lb, rfl, hsay⟩, hb4⟩
        have HW4 := Lib.hid (HW3.out.trans (HW3.out.2.stays hb4))
        have HSY := Lib.hid hsay
        clear hb4 hsay k1
        go_wp2_with fail
        go_at_call 20; refine (HT.out _ _ HW4.out.2 _ _ HSY.out).mono ?_; rintro e w5 ⟨x, b5, rfl, hw5, hr5, hx5⟩
        have HW5 := Lib.hid (HW4.out.trans hw5)
        have HR5 := Lib.hid hr5
        have HX5 := Lib.hid hx5
        clear hw5 hr5 hx5
        go_wp2_with fail
        go_at_call 40; refine (HTL.out _ _).mono ?_; rintro e w6 ⟨rfl, hb6⟩
        have HW6 := Lib.hid (HW5.out.trans (HW5.out.2.stays hb6))
        clear hb6
        obtain ⟨y, hy⟩ : ∃ y : ByteArray, (⟨(Lib.trimLeftS x.data.toList [32, 9]).toArray⟩ : ByteArray) = y := ⟨_, rfl⟩
        rw [hy]
        have hyl : y.data.toList = Lib.trimLeftS x.data.toList [32, 9] := by rw [← hy]
        have HYL := Lib.hid hyl
        clear hy hyl
        cases hq : (y.toList == nm.toList)
        · have HQ : Hid ((Lib.trimLeftS x.data.toList [32, 9] == nm.data.toList) = false) := Lib.hid (by rw [← HYL.out, ← beq_toList]; exact hq)
          have hb5l : t.size - b5 ≤ t.size - (d + 1) := by
            have h1 := dropWhile_le (q := notIn [10]) (rest t (d + 1))
            have h2 := HR5.out
            simp only [show (⟨#[10]⟩ : ByteArray).size = 1 from rfl] at h2
            rw [← h2, rest_length, rest_length] at h1
            exact h1
          have hb5s := HW6.out.2.2.1
          obtain ⟨g', rfl⟩ : ∃ g', gk = g' + 1 := ⟨gk - 1, by omega⟩
          go_wp2_with fail
          go_roundg g'
          case measure => omega
          case rel => exact ⟨b5, HW6, Lib.hid (by
            have h2 := HR5.out
            have h3 := HX5.out
            simp only [show (⟨#[10]⟩ : ByteArray).size = 1 from rfl] at h2 h3
            rw [← HE.out, hereL_step HV.out, rest_add, ← h3, ← h2, HQ.out, if_neg Bool.false_ne_true]), by omega, by omega⟩
        · have HQ : Hid ((Lib.trimLeftS x.data.toList [32, 9] == nm.data.toList) = true) := Lib.hid (by rw [← HYL.out, ← beq_toList]; exact hq)
          have k0 := HW6.out.2.1.cell 0
          have i1 : (0 : Int) ≤ (c : Int) + 1 := by omega
          have i2 : (c : Int) + 1 ≤ (d : Int) + 1 := by omega
          have i3 : (d : Int) + 1 ≤ (t.size : Int) := by omega
          have i4 : ((c : Int) + 1).toNat = c + 1 := by omega
          have i5 : ((d : Int) + 1).toNat = d + 1 := by omega
          have hes := escape_text (s := t.extract (c + 1) (d + 1)) (by simp; omega)
          have hsl := took_list (t := t) (a := c + 1) (b := d + 1) (by omega) (by omega) (by omega) rfl
          rw [show escFrom (t.extract (c + 1) (d + 1)) (t.extract (c + 1) (d + 1)).size 0 = escB (tookL (rest t (c + 1)) (rest t (d + 1))) by
            unfold escB
            rw [← hsl, ← str_of_list rfl]
            rfl] at hes
          have HES := Lib.hid hes
          clear hes hsl
          go_wp2_with fail
          go_at_call 41; refine (HES.out _).mono ?_; rintro e w7 ⟨rfl, hb7⟩
          clear i1 i2 i3 i4 i5 k0
          go_wp2
          go_ret2
          have h2 := HR5.out
          have h3 := HX5.out
          simp only [show (⟨#[10]⟩ : ByteArray).size = 1 from rfl] at h2 h3
          rw [← HE.out, hereL_step HV.out, rest_add, ← h3, ← h2, HQ.out, if_pos rfl]
          exact TEnds.okAt (HW6.out.trans (HW6.out.2.stays hb7)) rfl rfl
  · rw [if_neg hx] at hunf
    have hne : nm.toList.isEmpty = true := by rw [hemp]; simp; omega
    have HU := Lib.hid hunf
    clear h h1 hle hw hc hl hemp hrl hunf hnm
    go_enter Tryd.func26, Tryd.ntmps26
    go_wp2_with fail
    go_at_call 37; refine HK.out.mono ?_; rintro e w1 ⟨rfl, hw1⟩
    have HW1 := Lib.hid hw1
    clear hw1 HK
    go_wp2_with fail
    go_at_call 39; refine (HW.out _ HW1.out.2).mono ?_; rintro e w2 ⟨rfl, hw2⟩
    go_wp2
    go_ret2
    rw [HU.out]
    exact TEnds.errAt (HW1.out.trans hw2)
end Go.Proofs.YtpdepdigacpfiaaDoor
