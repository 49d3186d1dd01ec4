/- purlinref02.Deep · purlinref02.Size -/
import Derived.Test.YtcbcjeabpjjhbaaGreatDoorJb04
namespace Go.Proofs.YtcbcjeabpjjhbaaGreatDoor
open Go.RowKit
set_option linter.unusedVariables false

theorem deepL_all {n : Nat} : ∀ {l : List VT}, (∀ j (h : j < l.length), deepT n l[j] = true) → deepL n l = true
  | [], _ => rfl
  | x :: l, h => by
    have h0 : deepT n x = true := h 0 (by simp)
    unfold deepL
    rw [h0, deepL_all (fun j hj => h (j + 1) (by simpa using hj))]
    rfl
theorem deepL_not {n : Nat} : ∀ {l : List VT} {j : Nat} (h : j < l.length), deepT n l[j] = false → deepL n l = false
  | x :: l, 0, _, e => by
    unfold deepL
    have : deepT n x = false := e
    rw [this]; rfl
  | x :: l, j + 1, h, e => by
    unfold deepL
    rw [deepL_not (l := l) (by simpa using h) e]
    simp

set_option maxRecDepth 100000 in
set_option maxHeartbeats 2000000 in
theorem deep_any {B : Nat} {w : World} {v : Value} {T : VT} (h : Is B w v T) : ∀ (n : Nat) (W : World), n ≤ 1000000 → Below B w W → B ≤ W.heap.size → Calls Tryz.prog 30 #[v, .int .i64 (n : Int)] W fun e w' => e = .returned (.bool (deepT n T)) ∧ Below W.heap.size W w' := by
  induction h with
  | mk k b t its ks ad cap kv g o ik ib it ii iv hk hc hnl ha hcell hrec ih =>
    intro n W hn hb hBW
    obtain ⟨adk, capk, rfl, -⟩ := hk
    have HA := Lib.hid ha
    have HC := Lib.hid hcell
    have IH := Lib.hid ih
    obtain ⟨len, hlen⟩ : ∃ len, its.length = len := ⟨_, rfl⟩
    obtain ⟨nk, hnk⟩ : ∃ nk, ks.length = nk := ⟨_, rfl⟩
    have HL := Lib.hid hlen
    rw [hlen] at hc hnl ⊢
    rw [hnk]
    clear ha hcell hrec ih hlen hnk
    have hk0 := Blk.new W #[.int .i64 k, .bool b, .string t, .slice ad len cap, .slice adk nk capk] 26
    have hb0 := below_new W (.cells #[.int .i64 k, .bool b, .string t, .slice ad len cap, .slice adk nk capk] 26)
    rcases Nat.eq_zero_or_pos n with h0 | h0
    · subst h0
      have HT : Hid (deepT 0 (.node k b t its ks) = false) := Lib.hid (by unfold deepT; rfl)
      go_enter Tryz.func30, Tryz.ntmps30
      go_wp2
      go_ret
      exact ⟨by rw [HT.out]; rfl, hb0⟩
    · obtain ⟨m, rfl⟩ : ∃ m, n = m + 1 := ⟨n - 1, by omega⟩
      have HT : Hid (deepT (m + 1) (.node k b t its ks) = deepL m its) := Lib.hid (by unfold deepT; rfl)
      rw [HT.out]
      obtain ⟨r, hr⟩ : ∃ r, deepL m its = r := ⟨_, rfl⟩
      rw [hr]
      have HR := Lib.hid hr
      have hz : (((m + 1 : Nat) : Int) == 0) = false := beq_eq_false_iff_ne.2 (by omega)
      clear hr HT
      go_enter Tryz.func30, Tryz.ntmps30
      go_wp2
      go_loopw [5, 11] (fun _ jv wr => ∃ j : Nat, jv = .int .i64 j ∧ j ≤ len ∧ Hid (∀ i (h : i < its.length), i < j → deepT m its[i] = true) ∧ Hid (Below W.heap.size W wr) ∧ Hid (Blk wr W.heap.size #[.int .i64 k, .bool b, .string t, .slice ad len cap, .slice adk nk capk] 26)) (fun _ jv _ => len - (intOf jv).toNat)
      case atStart => exact ⟨0, rfl, by omega, Lib.hid (fun i _ h => by omega), Lib.hid hb0, Lib.hid hk0⟩
      case round =>
        obtain ⟨j, rfl, hj, HI, HB, HK⟩ := hrel
        clear hk0 hb0
        by_cases hlt : j < len
        · have hjl : j < its.length := by have := HL.out; omega
          obtain ⟨rfl, hg⟩ := HA.out (by omega)
          have hBr : Below B w wr := hb.trans (HB.out.mono hBW)
          have h5 := (HC.out j hjl).below hg hBr
          have e0 := h5.1
          have e1 := h5.2.1
          have e2 := h5.2.2.1
          have e3 := h5.2.2.2.1
          have e4 := h5.2.2.2.2
          have q3 := HK.out.cell 3
          have hwr : W.heap.size < wr.heap.size := HK.out.lt
          have HCa := Lib.hid (IH.out j hjl m wr (by omega) hBr (by have := HB.out.size; omega))
          have i1 : (0 : Int) ≤ (j : Int) := by omega
          have i2 : (j : Int) < (len : Int) := by omega
          have HBr := Lib.hid hBr
          clear h5 hBr
          obtain ⟨d, hd⟩ : ∃ d, deepT m its[j] = d := ⟨_, rfl⟩
          rw [hd] at HCa
          have HDd := Lib.hid hd
          clear hd
          generalize hxi : ii j = vi at e3 HCa
          generalize hxv : iv j = vv at e4 HCa
          have HB2 := HB
          cases d
          · have HF : Hid (r = false) := Lib.hid (by rw [← HR.out]; exact deepL_not hjl HDd.out)
            go_wp2_with (go_at_call 30; refine HCa.out.mono ?_; rintro e w2 ⟨rfl, hb2⟩)
            go_ret
            exact ⟨by rw [HF.out]; rfl, HB2.out.trans (hb2.mono HB2.out.size)⟩
          · go_wp2_with (go_at_call 30; refine HCa.out.mono ?_; rintro e w2 ⟨rfl, hb2⟩)
            go_roundw
            case rel =>
              repeat apply Exists.intro
              refine ⟨?_, rfl⟩
              refine ⟨j + 1, by go_num, by omega, Lib.hid (fun i hi hij => ?_), Lib.hid (HB2.out.trans (hb2.mono HB2.out.size)), Lib.hid (HK.out.below hb2)⟩
              rcases Nat.eq_or_lt_of_le (show i ≤ j by omega) with h | h
              · subst h; exact HDd.out
              · exact HI.out i hi h
            case measure => simp [intOf]; omega
        · have HT : Hid (r = true) := Lib.hid (by rw [← HR.out]; exact deepL_all (fun i hi => HI.out i hi (by have := HL.out; omega)))
          go_wp2
          go_ret
          exact ⟨by rw [HT.out]; rfl, HB.out⟩
end Go.Proofs.YtcbcjeabpjjhbaaGreatDoor
namespace Go.Proofs.YtcbcjeabpjjhbaaGreatDoor
open Go.RowKit
set_option linter.unusedVariables false

/-- What Size tells of a tree that isn't too deep. -/
def SizeIs (T : VT) (z : Int) : Prop := ∀ d, d ≤ 1000 → deepT d T = true → 0 ≤ z ∧ z ≤ 2001 * (d : Int) ∧ (sizeT T ≤ 2000 → z = (sizeT T : Int)) ∧ (2000 < sizeT T → 2000 < z)
/-- .. and of the first j items, with the value itself. -/
def SizeSo (d : Nat) (its : List VT) (j : Nat) (z : Int) : Prop := 1 ≤ z ∧ z ≤ 2001 * (d : Int) ∧ (1 + sizeL (its.take j) ≤ 2000 → z = ((1 + sizeL (its.take j) : Nat) : Int)) ∧ (2000 < 1 + sizeL (its.take j) → 2000 < z)
theorem sizeL_append : ∀ (a b : List VT), sizeL (a ++ b) = sizeL a + sizeL b
  | [], b => by simp [sizeL]
  | x :: a, b => by
    have h := sizeL_append a b
    show sizeT x + sizeL (a ++ b) = sizeT x + sizeL a + sizeL b
    omega
theorem sizeL_take {l : List VT} {j : Nat} (h : j < l.length) : sizeL (l.take (j + 1)) = sizeL (l.take j) + sizeT l[j] := by
  rw [List.take_succ_eq_append_getElem h, sizeL_append]
  simp [sizeL]
theorem sizeT_pos (T : VT) : 1 ≤ sizeT T := by
  cases T; unfold sizeT; omega
theorem sizeL_ge : ∀ l : List VT, l.length ≤ sizeL l
  | [] => by simp [sizeL]
  | x :: l => by have := sizeL_ge l; have := sizeT_pos x; unfold sizeL; rw [List.length_cons]; omega
theorem sizeL_split (l : List VT) (j : Nat) : sizeL l = sizeL (l.take j) + sizeL (l.drop j) := by rw [← sizeL_append, List.take_append_drop]
theorem deepL_at {n : Nat} : ∀ {l : List VT} {j : Nat} (h : j < l.length), deepL n l = true → deepT n l[j] = true
  | x :: l, 0, _, e => by
    unfold deepL at e
    have := (Bool.and_eq_true_iff.1 e).1
    exact this
  | x :: l, j + 1, h, e => by
    unfold deepL at e
    exact deepL_at (l := l) (by simpa using h) (Bool.and_eq_true_iff.1 e).2

theorem size_step {d j : Nat} {its : List VT} {z c : Int} (hd : d ≤ 999) (hz : z ≤ 2000) (hj : j < its.length) (h : SizeSo (d + 1) its j z) (hdl : deepL d its = true) (hc : SizeIs its[j] c) : SizeSo (d + 1) its (j + 1) (wrap64 (z + c)) := by
  obtain ⟨h1, h2, h3, h4⟩ := h
  obtain ⟨c1, c2, c3, c4⟩ := hc d (by omega) (deepL_at hj hdl)
  have hw : wrap64 (z + c) = z + c := by unfold wrap64; omega
  rw [hw]
  unfold SizeSo
  rw [sizeL_take hj]
  generalize sizeL (its.take j) = S at h3 h4 ⊢
  generalize sizeT its[j] = s at c3 c4 ⊢
  refine ⟨by omega, by omega, fun h => ?_, fun h => ?_⟩
  · have := c3 (by omega); have := h3 (by omega); omega
  · rcases Nat.lt_or_ge 2000 s with h' | h'
    · have := c4 h'; omega
    · have := c3 h'
      rcases Nat.lt_or_ge 2000 (1 + S) with h'' | h''
      · have := h4 h''; omega
      · have := h3 h''; omega
theorem size_end {k : Int} {b : Bool} {t : ByteArray} {its : List VT} {ks : List ByteArray} {j : Nat} {z : Int} (h : ∀ d, d ≤ 999 → deepL d its = true → SizeSo (d + 1) its j z) (he : 2000 < z ∨ its.length ≤ j) : SizeIs (.node k b t its ks) z := by
  intro d hd hdt
  cases d with
  | zero => unfold deepT at hdt; cases hdt
  | succ d =>
    have hdl : deepL d its = true := by unfold deepT at hdt; exact hdt
    obtain ⟨h1, h2, h3, h4⟩ := h d (by omega) hdl
    have hs : sizeT (.node k b t its ks) = 1 + sizeL its := by unfold sizeT; rfl
    have hsp := sizeL_split its j
    rw [hs]
    generalize sizeL (its.take j) = S at h3 h4 hsp
    refine ⟨by omega, h2, fun h => ?_, fun h => ?_⟩
    · rcases he with he | he
      · have := h3 (by omega); omega
      · have hd0 : sizeL (its.drop j) = 0 := by rw [List.drop_eq_nil_of_le he]; rfl
        have := h3 (by omega); omega
    · rcases he with he | he
      · exact he
      · have hd0 : sizeL (its.drop j) = 0 := by rw [List.drop_eq_nil_of_le he]; rfl
        exact h4 (by omega)

set_option maxRecDepth 100000 in
set_option maxHeartbeats 2000000 in
theorem size_any {B : Nat} {w : World} {v : Value} {T : VT} (h : Is B w v T) : ∀ (W : World), Below B w W → B ≤ W.heap.size → Calls Tryz.prog 29 #[v] W fun e w' => (∃ z, e = .returned (.int .i64 z) ∧ SizeIs T z) ∧ Below W.heap.size W w' := by
  induction h with
  | mk k b t its ks ad cap kv g o ik ib it ii iv hk hc hnl ha hcell hrec ih =>
    intro W hb hBW
    obtain ⟨adk, capk, rfl, -⟩ := hk
    have HA := Lib.hid ha
    have HC := Lib.hid hcell
    have IH := Lib.hid ih
    obtain ⟨len, hlen⟩ : ∃ len, its.length = len := ⟨_, rfl⟩
    obtain ⟨nk, hnk⟩ : ∃ nk, ks.length = nk := ⟨_, rfl⟩
    have HL := Lib.hid hlen
    rw [hlen] at hc hnl ⊢
    rw [hnk]
    clear ha hcell hrec ih hlen hnk
    have hk0 := Blk.new W #[.int .i64 k, .bool b, .string t, .slice ad len cap, .slice adk nk capk] 26
    have hb0 := below_new W (.cells #[.int .i64 k, .bool b, .string t, .slice ad len cap, .slice adk nk capk] 26)
    go_enter Tryz.func29, Tryz.ntmps29
    go_wp2
    go_loopw [3, 4] (fun nv jv wr => ∃ (z : Int) (j : Nat), nv = .int .i64 z ∧ jv = .int .i64 j ∧ j ≤ len ∧ Hid (∀ d, d ≤ 999 → deepL d its = true → SizeSo (d + 1) its j z) ∧ Hid (Below W.heap.size W wr) ∧ Hid (Blk wr W.heap.size #[.int .i64 k, .bool b, .string t, .slice ad len cap, .slice adk nk capk] 26)) (fun _ jv _ => len - (intOf jv).toNat)
    case atStart => exact ⟨1, 0, rfl, rfl, by omega, Lib.hid (fun d _ _ => ⟨by omega, by omega, fun _ => rfl, fun h => by simp [sizeL] at h⟩), Lib.hid hb0, Lib.hid hk0⟩
    case round =>
      obtain ⟨z, j, rfl, rfl, hj, HI, HB, HK⟩ := hrel
      clear hk0 hb0
      have q3 := HK.out.cell 3
      have hwr : W.heap.size < wr.heap.size := HK.out.lt
      by_cases hlt : j < len
      · by_cases hz : z ≤ 2000
        · have hjl : j < its.length := by have := HL.out; omega
          obtain ⟨rfl, hg⟩ := HA.out (by omega)
          have hBr : Below B w wr := hb.trans (HB.out.mono hBW)
          have h5 := (HC.out j hjl).below hg hBr
          have e0 := h5.1
          have e1 := h5.2.1
          have e2 := h5.2.2.1
          have e3 := h5.2.2.2.1
          have e4 := h5.2.2.2.2
          have HCa := Lib.hid (IH.out j hjl wr hBr (by have := HB.out.size; omega))
          have i1 : (0 : Int) ≤ (j : Int) := by omega
          have i2 : (j : Int) < (len : Int) := by omega
          clear h5 hBr
          generalize hxi : ii j = vi at e3 HCa
          generalize hxv : iv j = vv at e4 HCa
          go_wp2_with (go_at_call 29; refine HCa.out.mono ?_; rintro e w2 ⟨⟨c, rfl, hc⟩, hb2⟩)
          go_roundw
          case rel =>
            first
              | refine ⟨_, j + 1, rfl, by go_num, by omega, Lib.hid (fun d hd hdl => ?_), Lib.hid (HB.out.trans (hb2.mono HB.out.size)), Lib.hid (HK.out.below hb2)⟩
              | (repeat apply Exists.intro
                 refine ⟨?_, rfl⟩
                 refine ⟨_, j + 1, rfl, by go_num, by omega, Lib.hid (fun d hd hdl => ?_), Lib.hid (HB.out.trans (hb2.mono HB.out.size)), Lib.hid (HK.out.below hb2)⟩)
            exact size_step hd hz hjl (HI.out d hd hdl) hdl hc
          case measure => simp [intOf]; omega
        · have HE := Lib.hid (size_end (k := k) (b := b) (t := t) (ks := ks) HI.out (.inl (by omega)))
          have hz2 : decide (z ≤ 2000) = false := decide_eq_false hz
          go_wp2
          go_ret
          exact ⟨⟨z, rfl, HE.out⟩, HB.out⟩
      · have HE := Lib.hid (size_end (k := k) (b := b) (t := t) (ks := ks) HI.out (.inr (by have := HL.out; omega)))
        go_wp2
        go_ret
        exact ⟨⟨z, rfl, HE.out⟩, HB.out⟩
end Go.Proofs.YtcbcjeabpjjhbaaGreatDoor
