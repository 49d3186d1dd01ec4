/- purlinref02.Deep. -/
import Derived.Test.YthmojhfakmdlfaaDoorVTree
namespace Go.Proofs.YthmojhfakmdlfaaDoor
open Go.RowKit
set_option linter.unusedVariables false

theorem deepL_all {n : Nat} : ∀ {l : List VT}, (∀ j (h : j < l.length), deepT n l[j] = true) → deepL n l = true
  | [], _ => rfl
  | x :: l, h => by
    have h0 : deepT n x = true := h 0 (by simp)
    unfold deepL
    rw [h0, deepL_all (fun j hj => h (j + 1) (by simpa using hj))]
    rfl
theorem deepL_not {n : Nat} : ∀ {l : List VT} {j : Nat} (h : j < l.length), deepT n l[j] = false → deepL n l = false
  | x :: l, 0, _, e => by
    unfold deepL
    have : deepT n x = false := e
    rw [this]; rfl
  | x :: l, j + 1, h, e => by
    unfold deepL
    rw [deepL_not (l := l) (by simpa using h) e]
    simp

set_option maxRecDepth 100000 in
set_option maxHeartbeats 2000000 in
theorem deep_any {B : Nat} {w : World} {v : Value} {T : VT} (h : Is B w v T) : ∀ (n : Nat) (W : World), n ≤ 1000000 → Below B w W → B ≤ W.heap.size → Calls Tryd.prog 27 #[v, .int .i64 (n : Int)] W fun e w' => e = .returned (.bool (deepT n T)) ∧ Below W.heap.size W w' := by
  induction h with
  | mk k b t its ks ad cap kv g o ik ib it ii iv hk hc hnl ha hcell hrec ih =>
    intro n W hn hb hBW
    obtain ⟨adk, capk, rfl, -⟩ := hk
    have HA := Lib.hid ha
    have HC := Lib.hid hcell
    have IH := Lib.hid ih
    obtain ⟨len, hlen⟩ : ∃ len, its.length = len := ⟨_, rfl⟩
    obtain ⟨nk, hnk⟩ : ∃ nk, ks.length = nk := ⟨_, rfl⟩
    have HL := Lib.hid hlen
    rw [hlen] at hc hnl ⊢
    rw [hnk]
    clear ha hcell hrec ih hlen hnk
    have hk0 := Blk.new W #[.int .i64 k, .bool b, .string t, .slice ad len cap, .slice adk nk capk] 26
    have hb0 := below_new W (.cells #[.int .i64 k, .bool b, .string t, .slice ad len cap, .slice adk nk capk] 26)
    rcases Nat.eq_zero_or_pos n with h0 | h0
    · subst h0
      have HT : Hid (deepT 0 (.node k b t its ks) = false) := Lib.hid (by unfold deepT; rfl)
      go_enter Tryd.func27, Tryd.ntmps27
      go_wp2
      go_ret
      exact ⟨by rw [HT.out]; rfl, hb0⟩
    · obtain ⟨m, rfl⟩ : ∃ m, n = m + 1 := ⟨n - 1, by omega⟩
      have HT : Hid (deepT (m + 1) (.node k b t its ks) = deepL m its) := Lib.hid (by unfold deepT; rfl)
      rw [HT.out]
      obtain ⟨r, hr⟩ : ∃ r, deepL m its = r := ⟨_, rfl⟩
      rw [hr]
      have HR := Lib.hid hr
      have hz : (((m + 1 : Nat) : Int) == 0) = false := beq_eq_false_iff_ne.2 (by omega)
      clear hr HT
      go_enter Tryd.func27, Tryd.ntmps27
      go_wp2
      go_loopw [5, 11] (fun _ jv wr => ∃ j : Nat, jv = .int .i64 j ∧ j ≤ len ∧ Hid (∀ i (h : i < its.length), i < j → deepT m its[i] = true) ∧ Hid (Below W.heap.size W wr) ∧ Hid (Blk wr W.heap.size #[.int .i64 k, .bool b, .string t, .slice ad len cap, .slice adk nk capk] 26)) (fun _ jv _ => len - (intOf jv).toNat)
      case atStart => exact ⟨0, rfl, by omega, Lib.hid (fun i _ h => by omega), Lib.hid hb0, Lib.hid hk0⟩
      case round =>
        obtain ⟨j, rfl, hj, HI, HB, HK⟩ := hrel
        clear hk0 hb0
        by_cases hlt : j < len
        · have hjl : j < its.length := by have := HL.out; omega
          obtain ⟨rfl, hg⟩ := HA.out (by omega)
          have hBr : Below B w wr := hb.trans (HB.out.mono hBW)
          have h5 := (HC.out j hjl).below hg hBr
          have e0 := h5.1
          have e1 := h5.2.1
          have e2 := h5.2.2.1
          have e3 := h5.2.2.2.1
          have e4 := h5.2.2.2.2
          have q3 := HK.out.cell 3
          have hwr : W.heap.size < wr.heap.size := HK.out.lt
          have HCa := Lib.hid (IH.out j hjl m wr (by omega) hBr (by have := HB.out.size; omega))
          have i1 : (0 : Int) ≤ (j : Int) := by omega
          have i2 : (j : Int) < (len : Int) := by omega
          have HBr := Lib.hid hBr
          clear h5 hBr
          obtain ⟨d, hd⟩ : ∃ d, deepT m its[j] = d := ⟨_, rfl⟩
          rw [hd] at HCa
          have HDd := Lib.hid hd
          clear hd
          generalize hxi : ii j = vi at e3 HCa
          generalize hxv : iv j = vv at e4 HCa
          have HB2 := HB
          cases d
          · have HF : Hid (r = false) := Lib.hid (by rw [← HR.out]; exact deepL_not hjl HDd.out)
            go_wp2_with (go_at_call 27; refine HCa.out.mono ?_; rintro e w2 ⟨rfl, hb2⟩)
            go_ret
            exact ⟨by rw [HF.out]; rfl, HB2.out.trans (hb2.mono HB2.out.size)⟩
          · go_wp2_with (go_at_call 27; refine HCa.out.mono ?_; rintro e w2 ⟨rfl, hb2⟩)
            go_roundw
            case rel =>
              repeat apply Exists.intro
              refine ⟨?_, rfl⟩
              refine ⟨j + 1, by go_num, by omega, Lib.hid (fun i hi hij => ?_), Lib.hid (HB2.out.trans (hb2.mono HB2.out.size)), Lib.hid (HK.out.below hb2)⟩
              rcases Nat.eq_or_lt_of_le (show i ≤ j by omega) with h | h
              · subst h; exact HDd.out
              · exact HI.out i hi h
            case measure => simp [intOf]; omega
        · have HT : Hid (r = true) := Lib.hid (by rw [← HR.out]; exact deepL_all (fun i hi => HI.out i hi (by have := HL.out; omega)))
          go_wp2
          go_ret
          exact ⟨by rw [HT.out]; rfl, HB.out⟩
end Go.Proofs.YthmojhfakmdlfaaDoor
