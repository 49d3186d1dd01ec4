/- Known: value's and the document's; value.Size -/
import Derived.Test.YtjgbhnbfojkhoaaDoorMk08
import Derived.Test.YtjgbhnbfojkhoaaDoorMk10
namespace Go.Proofs.YtjgbhnbfojkhoaaDoor
open Go.RowKit
set_option linter.unusedVariables false

mutual
/-- Without an unknown within. -/
def knownT : VT → Bool
  | .node k _ _ its _ => !(k == 1) && knownL its
def knownL : List VT → Bool
  | [] => true
  | x :: l => knownT x && knownL l
end
theorem knownL_all : ∀ {l : List VT}, (∀ j (h : j < l.length), knownT l[j] = true) → knownL l = true
  | [], _ => rfl
  | x :: l, h => by
    have h0 : knownT x = true := h 0 (by simp)
    unfold knownL
    rw [h0, knownL_all (fun j hj => h (j + 1) (by simpa using hj))]
    rfl
theorem knownL_not : ∀ {l : List VT} {j : Nat} (h : j < l.length), knownT l[j] = false → knownL l = false
  | x :: l, 0, _, e => by
    unfold knownL
    have : knownT x = false := e
    rw [this]; rfl
  | x :: l, j + 1, h, e => by
    unfold knownL
    rw [knownL_not (l := l) (by simpa using h) e]
    simp

set_option maxRecDepth 100000 in
set_option maxHeartbeats 2000000 in
theorem rKnown_any {B : Nat} {w : World} {v : Value} {T : VT} (h : Is B w v T) : ∀ (W : World), Below B w W → B ≤ W.heap.size → Calls Tryd.prog 21 #[v] W fun e w' => e = .returned (.bool (knownT T)) ∧ Below W.heap.size W w' := by
  induction h with
  | mk k b t its ks ad cap kv g o ik ib it ii iv hk hc hnl ha hcell hrec ih =>
    intro W hb hBW
    obtain ⟨adk, capk, rfl, -⟩ := hk
    have HA := Lib.hid ha
    have HC := Lib.hid hcell
    have IH := Lib.hid ih
    obtain ⟨len, hlen⟩ : ∃ len, its.length = len := ⟨_, rfl⟩
    obtain ⟨nk, hnk⟩ : ∃ nk, ks.length = nk := ⟨_, rfl⟩
    have HL := Lib.hid hlen
    rw [hlen] at hc hnl ⊢
    rw [hnk]
    clear ha hcell hrec ih hlen hnk
    have hk0 := Blk.new W #[.int .i64 k, .bool b, .string t, .slice ad len cap, .slice adk nk capk] 26
    have hb0 := below_new W (.cells #[.int .i64 k, .bool b, .string t, .slice ad len cap, .slice adk nk capk] 26)
    by_cases hk1 : k = 1
    · subst hk1
      have HT : Hid (knownT (.node 1 b t its ks) = false) := Lib.hid (by unfold knownT; rfl)
      go_enter Tryd.func21, Tryd.ntmps21
      go_wp2
      go_ret
      exact ⟨by rw [HT.out]; rfl, hb0⟩
    · have hk2 : (k == 1) = false := beq_eq_false_iff_ne.2 hk1
      have HT : Hid (knownT (.node k b t its ks) = knownL its) := Lib.hid (by unfold knownT; rw [hk2]; rfl)
      rw [HT.out]
      obtain ⟨r, hr⟩ : ∃ r, knownL its = r := ⟨_, rfl⟩
      rw [hr]
      have HR := Lib.hid hr
      clear hr HT hk1
      go_enter Tryd.func21, Tryd.ntmps21
      go_wp2
      go_loopw [3, 10] (fun _ jv wr => ∃ j : Nat, jv = .int .i64 j ∧ j ≤ len ∧ Hid (∀ i (h : i < its.length), i < j → knownT its[i] = true) ∧ Hid (Below W.heap.size W wr) ∧ Hid (Blk wr W.heap.size #[.int .i64 k, .bool b, .string t, .slice ad len cap, .slice adk nk capk] 26)) (fun _ jv _ => len - (intOf jv).toNat)
      case atStart => exact ⟨0, rfl, by omega, Lib.hid (fun i _ h => by omega), Lib.hid hb0, Lib.hid hk0⟩
      case round =>
        obtain ⟨j, rfl, hj, HI, HB, HK⟩ := hrel
        clear hk0 hb0
        by_cases hlt : j < len
        · have hjl : j < its.length := by have := HL.out; omega
          obtain ⟨rfl, hg⟩ := HA.out (by omega)
          have hBr : Below B w wr := hb.trans (HB.out.mono hBW)
          have h5 := (HC.out j hjl).below hg hBr
          have e0 := h5.1
          have e1 := h5.2.1
          have e2 := h5.2.2.1
          have e3 := h5.2.2.2.1
          have e4 := h5.2.2.2.2
          have q3 := HK.out.cell 3
          have hwr : W.heap.size < wr.heap.size := HK.out.lt
          have HCa := Lib.hid (IH.out j hjl wr hBr (by have := HB.out.size; omega))
          have i1 : (0 : Int) ≤ (j : Int) := by omega
          have i2 : (j : Int) < (len : Int) := by omega
          have HBr := Lib.hid hBr
          clear h5 hBr
          obtain ⟨d, hd⟩ : ∃ d, knownT its[j] = d := ⟨_, rfl⟩
          rw [hd] at HCa
          have HDd := Lib.hid hd
          clear hd
          generalize hxi : ii j = vi at e3 HCa
          generalize hxv : iv j = vv at e4 HCa
          have HB2 := HB
          cases d
          · have HF : Hid (r = false) := Lib.hid (by rw [← HR.out]; exact knownL_not hjl HDd.out)
            go_wp2_with (go_at_call 21; refine HCa.out.mono ?_; rintro e w2 ⟨rfl, hb2⟩)
            go_ret
            exact ⟨by rw [HF.out]; rfl, HB2.out.trans (hb2.mono HB2.out.size)⟩
          · go_wp2_with (go_at_call 21; refine HCa.out.mono ?_; rintro e w2 ⟨rfl, hb2⟩)
            go_roundw
            case rel =>
              refine ⟨j + 1, by go_num, by omega, Lib.hid (fun i hi hij => ?_), Lib.hid (HB2.out.trans (hb2.mono HB2.out.size)), Lib.hid (HK.out.below hb2)⟩
              rcases Nat.eq_or_lt_of_le (show i ≤ j by omega) with h | h
              · subst h; exact HDd.out
              · exact HI.out i hi h
            case measure => simp [intOf]; omega
        · have HT : Hid (r = true) := Lib.hid (by rw [← HR.out]; exact knownL_all (fun i hi => HI.out i hi (by have := HL.out; omega)))
          go_wp2
          go_ret
          exact ⟨by rw [HT.out]; rfl, HB.out⟩

set_option maxRecDepth 100000 in
set_option maxHeartbeats 2000000 in
theorem vKnown_any {B : Nat} {w : World} {v : Value} {T : VT} (h : Is B w v T) : ∀ (W : World), Below B w W → B ≤ W.heap.size → Calls Tryd.prog 16 #[v] W fun e w' => e = .returned (.bool (knownT T)) ∧ Below W.heap.size W w' := by
  induction h with
  | mk k b t its ks ad cap kv g o ik ib it ii iv hk hc hnl ha hcell hrec ih =>
    intro W hb hBW
    obtain ⟨adk, capk, rfl, -⟩ := hk
    have HA := Lib.hid ha
    have HC := Lib.hid hcell
    have IH := Lib.hid ih
    have HIS := Lib.hid hrec
    obtain ⟨len, hlen⟩ : ∃ len, its.length = len := ⟨_, rfl⟩
    obtain ⟨nk, hnk⟩ : ∃ nk, ks.length = nk := ⟨_, rfl⟩
    have HL := Lib.hid hlen
    rw [hlen] at hc hnl ⊢
    rw [hnk]
    clear ha hcell hrec ih hlen hnk
    have hk0 := Blk.new W #[.int .i64 k, .bool b, .string t, .slice ad len cap, .slice adk nk capk] 26
    have hb0 := below_new W (.cells #[.int .i64 k, .bool b, .string t, .slice ad len cap, .slice adk nk capk] 26)
    by_cases hk1 : k = 1
    · subst hk1
      have HT : Hid (knownT (.node 1 b t its ks) = false) := Lib.hid (by unfold knownT; rfl)
      go_enter Tryd.func16, Tryd.ntmps16
      go_wp2
      go_ret
      exact ⟨by rw [HT.out]; rfl, hb0⟩
    · have hk2 : (k == 1) = false := beq_eq_false_iff_ne.2 hk1
      have HT : Hid (knownT (.node k b t its ks) = knownL its) := Lib.hid (by unfold knownT; rw [hk2]; rfl)
      rw [HT.out]
      obtain ⟨r, hr⟩ : ∃ r, knownL its = r := ⟨_, rfl⟩
      rw [hr]
      have HR := Lib.hid hr
      clear hr HT hk1
      have HB0 := Lib.hid hb0
      clear hk0 hb0
      go_enter Tryd.func16, Tryd.ntmps16
      go_wp2
      go_loopw [11] (fun jv wr => ∃ j : Nat, jv = .int .i64 j ∧ j ≤ len ∧ Hid (∀ i (h : i < its.length), i < j → knownT its[i] = true) ∧ Hid (Below W.heap.size W wr)) (fun jv _ => len - (intOf jv).toNat)
      case atStart => exact ⟨0, rfl, by omega, Lib.hid (fun i _ h => by omega), HB0⟩
      case round =>
        obtain ⟨j, rfl, hj, HI, HB⟩ := hrel
        clear HB0
        by_cases hlt : j < len
        · have hjl : j < its.length := by have := HL.out; omega
          obtain ⟨rfl, hg⟩ := HA.out (by omega)
          have hBr : Below B w wr := hb.trans (HB.out.mono hBW)
          have h5 := (HC.out j hjl).below hg hBr
          have e0 := h5.1
          have e1 := h5.2.1
          have e2 := h5.2.2.1
          have e3 := h5.2.2.2.1
          have e4 := h5.2.2.2.2
          have hIH := IH.out j hjl
          have i1 : (0 : Int) ≤ (j : Int) := by omega
          have i2 : (j : Int) < (len : Int) := by omega
          clear h5
          obtain ⟨d, hd⟩ : ∃ d, knownT its[j] = d := ⟨_, rfl⟩
          rw [hd] at hIH
          have HDd := Lib.hid hd
          clear hd
          generalize hxi : ii j = vi at e3 hIH
          generalize hxv : iv j = vv at e4 hIH
          have hsh := (HIS.out j hjl).shape
          rw [hxi, hxv] at hsh
          obtain ⟨_, _, _, ai, ni, ci, ak, nk2, ck2, esh⟩ := hsh
          cases esh
          have hbi := below_new wr (.cells #[.int .i64 (ik j), .bool (ib j), .string (it j), .slice ai ni ci, .slice ak nk2 ck2] 26)
          have HCa := Lib.hid (hIH (wr.alloc (.cells #[.int .i64 (ik j), .bool (ib j), .string (it j), .slice ai ni ci, .slice ak nk2 ck2] 26)) (hBr.trans (hbi.mono (Nat.le_trans hBW HB.out.size))) (Nat.le_trans (Nat.le_trans hBW HB.out.size) hbi.size))
          have HBi := Lib.hid (HB.out.trans (hbi.mono HB.out.size))
          clear hIH hBr hbi
          cases d
          · have HF : Hid (r = false) := Lib.hid (by rw [← HR.out]; exact knownL_not hjl HDd.out)
            go_wp2_with (go_at_call 16; refine HCa.out.mono ?_; rintro e w2 ⟨rfl, hb2⟩)
            go_ret
            exact ⟨by rw [HF.out]; rfl, HBi.out.trans (hb2.mono HBi.out.size)⟩
          · go_wp2_with (go_at_call 16; refine HCa.out.mono ?_; rintro e w2 ⟨rfl, hb2⟩)
            go_roundw
            case rel =>
              refine ⟨j + 1, by go_num, by omega, Lib.hid (fun i hi hij => ?_), Lib.hid (HBi.out.trans (hb2.mono HBi.out.size))⟩
              rcases Nat.eq_or_lt_of_le (show i ≤ j by omega) with h | h
              · subst h; exact HDd.out
              · exact HI.out i hi h
            case measure => simp [intOf]; omega
        · have HT : Hid (r = true) := Lib.hid (by rw [← HR.out]; exact knownL_all (fun i hi => HI.out i hi (by have := HL.out; omega)))
          go_wp2
          go_ret
          exact ⟨by rw [HT.out]; rfl, HB.out⟩

/-- What value.Size says of a good tree. -/
def SizeOk (T : VT) (z : Int) : Prop := sizeT T ≤ 2000 → z = (sizeT T : Int)
def SizeOkL (its : List VT) (j : Nat) (z : Int) : Prop := 1 + sizeL its ≤ 2000 → z = ((1 + sizeL (its.take j) : Nat) : Int)
theorem sizeOk_step {its : List VT} {j : Nat} {z c : Int} (hj : j < its.length) (h : SizeOkL its j z) (hc : SizeOk its[j] c) : SizeOkL its (j + 1) (wrap64 (z + c)) := by
  intro hs
  have h1 := h hs
  have h2 := sizeL_take hj
  have h3 := sizeL_split its (j + 1)
  have h4 := hc (by omega)
  have hw : wrap64 (z + c) = z + c := by unfold wrap64; omega
  rw [hw, h1, h4, h2]
  omega

set_option maxRecDepth 100000 in
set_option maxHeartbeats 2000000 in
theorem vSize_any {B : Nat} {w : World} {v : Value} {T : VT} (h : Is B w v T) : ∀ (W : World), Below B w W → B ≤ W.heap.size → Calls Tryd.prog 19 #[v] W fun e w' => (∃ z, e = .returned (.int .i64 z) ∧ SizeOk T z) ∧ Below W.heap.size W w' := by
  induction h with
  | mk k b t its ks ad cap kv g o ik ib it ii iv hk hc hnl ha hcell hrec ih =>
    intro W hb hBW
    obtain ⟨adk, capk, rfl, -⟩ := hk
    have HA := Lib.hid ha
    have HC := Lib.hid hcell
    have IH := Lib.hid ih
    have HIS := Lib.hid hrec
    obtain ⟨len, hlen⟩ : ∃ len, its.length = len := ⟨_, rfl⟩
    obtain ⟨nk, hnk⟩ : ∃ nk, ks.length = nk := ⟨_, rfl⟩
    have HL := Lib.hid hlen
    rw [hlen] at hc hnl ⊢
    rw [hnk]
    clear ha hcell hrec ih hlen hnk
    have hb0 := below_new W (.cells #[.int .i64 k, .bool b, .string t, .slice ad len cap, .slice adk nk capk] 26)
    have HB0 := Lib.hid hb0
    clear hb0
    go_enter Tryd.func19, Tryd.ntmps19
    go_wp2
    go_loopw [3, 9] (fun nv jv wr => ∃ (z : Int) (j : Nat), nv = .int .i64 z ∧ jv = .int .i64 j ∧ j ≤ len ∧ Hid (SizeOkL its j z) ∧ Hid (Below W.heap.size W wr)) (fun _ jv _ => len - (intOf jv).toNat)
    case atStart => exact ⟨1, 0, rfl, rfl, by omega, Lib.hid (fun _ => rfl), HB0⟩
    case round =>
      obtain ⟨z, j, rfl, rfl, hj, HI, HB⟩ := hrel
      clear HB0
      by_cases hlt : j < len
      · have hjl : j < its.length := by have := HL.out; omega
        obtain ⟨rfl, hg⟩ := HA.out (by omega)
        have hBr : Below B w wr := hb.trans (HB.out.mono hBW)
        have h5 := (HC.out j hjl).below hg hBr
        have e0 := h5.1
        have e1 := h5.2.1
        have e2 := h5.2.2.1
        have e3 := h5.2.2.2.1
        have e4 := h5.2.2.2.2
        have hIH := IH.out j hjl
        have i1 : (0 : Int) ≤ (j : Int) := by omega
        have i2 : (j : Int) < (len : Int) := by omega
        clear h5
        generalize hxi : ii j = vi at e3 hIH
        generalize hxv : iv j = vv at e4 hIH
        have hsh := (HIS.out j hjl).shape
        rw [hxi, hxv] at hsh
        obtain ⟨_, _, _, ai, ni, ci, ak, nk2, ck2, esh⟩ := hsh
        cases esh
        have hbi := below_new wr (.cells #[.int .i64 (ik j), .bool (ib j), .string (it j), .slice ai ni ci, .slice ak nk2 ck2] 26)
        have HCa := Lib.hid (hIH (wr.alloc (.cells #[.int .i64 (ik j), .bool (ib j), .string (it j), .slice ai ni ci, .slice ak nk2 ck2] 26)) (hBr.trans (hbi.mono (Nat.le_trans hBW HB.out.size))) (Nat.le_trans (Nat.le_trans hBW HB.out.size) hbi.size))
        have HBi := Lib.hid (HB.out.trans (hbi.mono HB.out.size))
        clear hIH hBr hbi
        go_wp2_with (go_at_call 19; refine HCa.out.mono ?_; rintro e w2 ⟨⟨c, rfl, hc⟩, hb2⟩)
        go_roundw
        case rel =>
          first
            | exact ⟨_, j + 1, rfl, by go_num, by omega, Lib.hid (sizeOk_step hjl HI.out hc), Lib.hid (HBi.out.trans (hb2.mono HBi.out.size))⟩
            | (repeat apply Exists.intro
               refine ⟨?_, rfl⟩
               exact ⟨_, j + 1, rfl, by go_num, by omega, Lib.hid (sizeOk_step hjl HI.out hc), Lib.hid (HBi.out.trans (hb2.mono HBi.out.size))⟩)
        case measure => simp [intOf]; omega
      · have HE : Hid (SizeOk (.node k b t its ks) z) := Lib.hid (fun hs => by
          have e : sizeT (.node k b t its ks) = 1 + sizeL its := by unfold sizeT; rfl
          rw [e] at hs ⊢
          rw [HI.out hs, List.take_of_length_le (by have := HL.out; omega)])
        go_wp2
        go_ret
        exact ⟨⟨z, rfl, HE.out⟩, HB.out⟩
end Go.Proofs.YtjgbhnbfojkhoaaDoor
