/- A line's end, a sign. -/
import Derived.Test.YtpdepdigacpfiaaDoorLText4
namespace Go.Proofs.YtpdepdigacpfiaaDoor
open Go.RowKit Go.Shelf
set_option linter.unusedVariables false

theorem TEnds.okAt {W w' : World} {P b : Nat} {t : ByteArray} {x R' : List UInt8} {s : ByteArray} (hw : Went W w' P t b) (hs : s.data.toList = x) (hr : rest t b = R') : TEnds W P t (.ok (x, R')) (.returned (.tuple #[.string s, .int .i64 0])) w' := ⟨b, hw, .inl ⟨x, R', s, rfl, rfl, hs, hr⟩⟩
theorem TEnds.errAt {W w' : World} {P b : Nat} {t : ByteArray} {c : Int} (hw : Went W w' P t b) : TEnds W P t (.error c) (.returned (.tuple #[.string ⟨#[]⟩, .int .i64 c])) w' := ⟨b, hw, .inr ⟨c, rfl, rfl⟩⟩

set_option maxRecDepth 100000 in
set_option maxHeartbeats 1000000 in
theorem line_any {W : World} {P a : Nat} {t : ByteArray} (h : Scn W P t a) (h1 : Lib.hasPrefix (rest t a) [10] = true) : Calls Tryd.prog 23 #[.pointer (some ⟨P, 0, none⟩)] W (TEnds W P t (.ok ([10], (rest t a).drop 1))) := by
  have HK := Lib.hid (skip_yes h ⟨#[10]⟩ h1)
  clear h h1
  go_enter Tryd.func23, Tryd.ntmps23
  go_wp2_with (go_at_call 37; refine HK.out.mono ?_; rintro e w1 ⟨rfl, hw1⟩)
  go_ret2
  exact TEnds.okAt hw1 rfl (rest_add t a 1).symm

/-! ### signs -/
def signsB : List ByteArray := [⟨#[61, 61]⟩, ⟨#[33, 61]⟩, ⟨#[60, 61]⟩, ⟨#[62, 61]⟩, ⟨#[38, 38]⟩, ⟨#[124, 124]⟩, ⟨#[123]⟩, ⟨#[125]⟩, ⟨#[91]⟩, ⟨#[93]⟩, ⟨#[40]⟩, ⟨#[41]⟩, ⟨#[61]⟩, ⟨#[43]⟩, ⟨#[45]⟩, ⟨#[42]⟩, ⟨#[47]⟩, ⟨#[37]⟩, ⟨#[60]⟩, ⟨#[62]⟩, ⟨#[33]⟩, ⟨#[63]⟩, ⟨#[58]⟩, ⟨#[44]⟩, ⟨#[46]⟩]
/-- The table of signs stands. -/
def Signs (W : World) : Prop := ∃ t fr, W.heap[0]? = some (.cells (signsB.map Value.string).toArray t fr)
/-- The first of some signs that stands here. -/
def firstSign (R : List UInt8) : List ByteArray → Option ByteArray
  | [] => none
  | s :: l => if Lib.hasPrefix R s.data.toList then some s else firstSign R l
def signL (R : List UInt8) : Except Int (List UInt8 × List UInt8) :=
  if Lib.hasPrefix R [47, 42] then .error 40 else match firstSign R signsB with
    | some s => .ok (s.data.toList, R.drop s.size)
    | none => .error 40
theorem sign_run (j : Nat) (h : j < 25) (W : World) : (Instr.index 65 (.agg (signsB.map Value.string).toArray) (.int .i64 (j : Int))).run Tryd.prog W = .ok (.string (signsB[j]'h)) W := by
  have hu := Tryd.underlying65
  have h1 : (0 : Int) ≤ (j : Int) := by omega
  simp [Instr.index, run_underlying hu, asIntOf, go_sem, h1]
  rw [if_pos h, List.getElem?_eq_getElem h]
  rfl
theorem firstSign_hit {R : List UInt8} : ∀ {l : List ByteArray} {j : Nat} (h : j < l.length), (∀ i (hi : i < l.length), i < j → Lib.hasPrefix R (l[i]'hi).data.toList = false) → Lib.hasPrefix R (l[j]'h).data.toList = true → firstSign R l = some (l[j]'h)
  | s :: l, 0, _, _, hp => by
    unfold firstSign
    rw [if_pos (by simpa using hp)]
    rfl
  | s :: l, j + 1, h, hn, hp => by
    have h0 := hn 0 (by simp) (by omega)
    unfold firstSign
    rw [if_neg (by simpa using h0)]
    have := firstSign_hit (l := l) (j := j) (by simpa using h) (fun i hi hij => by
      have := hn (i + 1) (by simpa using hi) (by omega)
      simpa using this) (by simpa using hp)
    simpa using this
theorem firstSign_none {R : List UInt8} : ∀ {l : List ByteArray}, (∀ i (hi : i < l.length), Lib.hasPrefix R (l[i]'hi).data.toList = false) → firstSign R l = none
  | [], _ => rfl
  | s :: l, hn => by
    have h0 := hn 0 (by simp)
    unfold firstSign
    rw [if_neg (by simpa using h0)]
    exact firstSign_none (fun i hi => by
      have := hn (i + 1) (by simpa using hi)
      simpa using this)
set_option maxRecDepth 100000 in
set_option maxHeartbeats 4000000 in
theorem sign_any {W : World} {P a : Nat} {t : ByteArray} (h : Scn W P t a) (hP : 4 ≤ P) (hg : Signs W) : Calls Tryd.prog 31 #[.pointer (some ⟨P, 0, none⟩)] W (TEnds W P t (signL (rest t a))) := by
  have HS := Lib.hid h
  cases h1 : Lib.hasPrefix (rest t a) [47, 42]
  · have HA := Lib.hid (has_any h ⟨#[47, 42]⟩)
    simp only [h1] at HA
    obtain ⟨tg, fr, hg0⟩ := hg
    have hlen : signsB.length = 25 := rfl
    obtain ⟨sb, hsb⟩ : ∃ sb, signsB = sb := ⟨_, rfl⟩
    have hidx : ∀ (j : Nat) (h : j < sb.length) (W : World), (Instr.index 65 (.agg (sb.map Value.string).toArray) (.int .i64 (j : Int))).run Tryd.prog W = .ok (.string (sb[j]'h)) W := by
      subst hsb; exact fun j h W => sign_run j h W
    have HS1 : Hid (∀ s, firstSign (rest t a) sb = some s → signL (rest t a) = .ok (s.data.toList, (rest t a).drop s.size)) := Lib.hid (fun s h => by unfold signL; rw [h1, if_neg Bool.false_ne_true, hsb, h])
    have HS2 : Hid (firstSign (rest t a) sb = none → signL (rest t a) = .error 40) := Lib.hid (fun h => by unfold signL; rw [h1, if_neg Bool.false_ne_true, hsb, h])
    rw [hsb] at hg0 hlen
    have hsz25 : (sb.map Value.string).toArray.size = 25 := by simp [hlen]
    obtain ⟨A, hA⟩ : ∃ A, (sb.map Value.string).toArray = A := ⟨_, rfl⟩
    rw [hA] at hg0 hsz25
    simp only [hA] at hidx
    have HL := Lib.hid hlen
    have HIX := Lib.hid hidx
    have HG := Lib.hid hg0
    have HZ := Lib.hid hsz25
    clear h h1 hg0 hlen hsb hidx hsz25 hA
    go_enter Tryd.func31, Tryd.ntmps31
    go_wp2_with fail
    go_at_call 25; refine HA.out.mono ?_; rintro e w1 ⟨rfl, hb1⟩
    have HB1 := Lib.hid hb1
    have hg1 := (hb1.block 0 (Array.getElem?_eq_some_iff.1 HG.out).1).trans HG.out
    have HG1 := Lib.hid hg1
    clear hb1 hg1
    go_wp2_with (refine wpList_load_row rfl 65 _ rfl 0 rfl tg _ fr _ HG1.out Tryd.underlying65 rfl (by rw [HZ.out]; kernel_rfl) ?_)
    go_loopg [9] 25 (fun gf s9 wx => ∃ j : Nat, s9 = .int .i64 (j : Int) ∧ Hid (Below W.heap.size W wx) ∧ Hid (∀ i (hi : i < sb.length), i < j → Lib.hasPrefix (rest t a) (sb[i]'hi).data.toList = false) ∧ 25 ≤ j + gf ∧ j ≤ 25)
    case atStart => exact ⟨0, rfl, HB1, Lib.hid (fun i hi h => absurd h (by omega)), by omega, by omega⟩
    case round =>
      obtain ⟨j, rfl, HB, HN, hfu, hj25⟩ := hrel
      by_cases hlt : j < 25
      · obtain ⟨g', rfl⟩ : ∃ g', gk = g' + 1 := ⟨gk - 1, by omega⟩
        have hjl : j < sb.length := by rw [HL.out]; exact hlt
        have hix := fun W => HIX.out j hjl W
        have HNX : ∀ v, Lib.hasPrefix (rest t a) (sb[j]'hjl).data.toList = v → v = false → ∀ i (h : i < sb.length), i < j + 1 → Lib.hasPrefix (rest t a) (sb[i]'h).data.toList = false := fun v hv hf i h hi => by
          rcases Nat.lt_or_ge i j with h1 | h1
          · exact HN.out i h h1
          · obtain rfl : i = j := by omega
            rw [hv]; exact hf
        have HHIT : Lib.hasPrefix (rest t a) (sb[j]'hjl).data.toList = true → firstSign (rest t a) sb = some (sb[j]'hjl) := fun hv => firstSign_hit hjl (fun i hi hij => HN.out i hi hij) hv
        obtain ⟨s, hs⟩ : ∃ s, sb[j]'hjl = s := ⟨_, rfl⟩
        rw [hs] at HNX HHIT
        simp only [hs] at hix
        have HNN := Lib.hid HNX
        have HHT := Lib.hid HHIT
        have HSX := Lib.hid (HS.out.below HB.out)
        clear hs HNX HHIT
        cases hv : Lib.hasPrefix (rest t a) s.data.toList
        · have HK := Lib.hid (skip_no HSX.out s hv)
          have HV := Lib.hid hv
          clear hv
          go_wp2_with (go_at_call 37; refine HK.out.mono ?_; rintro e w2 ⟨rfl, hb2⟩)
          go_roundg g'
          case measure => omega
          case rel => exact ⟨j + 1, by go_num, Lib.hid (HB.out.trans (hb2.mono HB.out.size)), Lib.hid (HNN.out _ HV.out rfl), by omega, by omega⟩
        · have HK := Lib.hid (skip_yes HSX.out s hv)
          have HV := Lib.hid hv
          clear hv
          go_wp2_with (go_at_call 37; refine HK.out.mono ?_; rintro e w2 ⟨rfl, hw2⟩)
          go_ret2
          rw [HS1.out s (HHT.out HV.out)]
          exact TEnds.okAt ((HS.out.stays HB.out).trans hw2) rfl (rest_add t a s.size).symm
      · obtain rfl : j = 25 := by omega
        go_wp2
        go_ret2
        rw [HS2.out (firstSign_none (fun i hi => HN.out i hi (by rw [HL.out] at hi; exact hi)))]
        exact TEnds.errAt (HS.out.stays HB.out)
  · have HA := Lib.hid (has_any h ⟨#[47, 42]⟩)
    simp only [h1] at HA
    have HS1 : Hid (signL (rest t a) = .error 40) := Lib.hid (by unfold signL; rw [h1, if_pos rfl])
    clear h h1 hg
    go_enter Tryd.func31, Tryd.ntmps31
    go_wp2_with (go_at_call 25; refine HA.out.mono ?_; rintro e w1 ⟨rfl, hb1⟩)
    go_ret2
    rw [HS1.out]
    exact TEnds.errAt (HS.out.stays hb1)
end Go.Proofs.YtpdepdigacpfiaaDoor
