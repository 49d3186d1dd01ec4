/- Known: value's and the document's; value.Size · Encode: any value -/
import Derived.Test.YtblldoniagiboaaGreatDoorJl05
import Derived.Test.YtblldoniagiboaaGreatDoorJl06
import Derived.Test.YtblldoniagiboaaGreatDoorJl25
import Derived.Test.YtblldoniagiboaaGreatDoorJl26
namespace Go.Proofs.YtblldoniagiboaaGreatDoor
open Go.RowKit
set_option linter.unusedVariables false

mutual
/-- Without an unknown within. -/
def knownT : VT → Bool
  | .node k _ _ its _ => !(k == 1) && knownL its
def knownL : List VT → Bool
  | [] => true
  | x :: l => knownT x && knownL l
end
theorem knownL_all : ∀ {l : List VT}, (∀ j (h : j < l.length), knownT l[j] = true) → knownL l = true
  | [], _ => rfl
  | x :: l, h => by
    have h0 : knownT x = true := h 0 (by simp)
    unfold knownL
    rw [h0, knownL_all (fun j hj => h (j + 1) (by simpa using hj))]
    rfl
theorem knownL_not : ∀ {l : List VT} {j : Nat} (h : j < l.length), knownT l[j] = false → knownL l = false
  | x :: l, 0, _, e => by
    unfold knownL
    have : knownT x = false := e
    rw [this]; rfl
  | x :: l, j + 1, h, e => by
    unfold knownL
    rw [knownL_not (l := l) (by simpa using h) e]
    simp

set_option maxRecDepth 100000 in
set_option maxHeartbeats 2000000 in
theorem rKnown_any {B : Nat} {w : World} {v : Value} {T : VT} (h : Is B w v T) : ∀ (W : World), Below B w W → B ≤ W.heap.size → Calls Tryz.prog 33 #[v] W fun e w' => e = .returned (.bool (knownT T)) ∧ Below W.heap.size W w' := by
  induction h with
  | mk k b t its ks ad cap kv g o ik ib it ii iv hk hc hnl ha hcell hrec ih =>
    intro W hb hBW
    obtain ⟨adk, capk, rfl, -⟩ := hk
    have HA := Lib.hid ha
    have HC := Lib.hid hcell
    have IH := Lib.hid ih
    obtain ⟨len, hlen⟩ : ∃ len, its.length = len := ⟨_, rfl⟩
    obtain ⟨nk, hnk⟩ : ∃ nk, ks.length = nk := ⟨_, rfl⟩
    have HL := Lib.hid hlen
    rw [hlen] at hc hnl ⊢
    rw [hnk]
    clear ha hcell hrec ih hlen hnk
    have hk0 := Blk.new W #[.int .i64 k, .bool b, .string t, .slice ad len cap, .slice adk nk capk] 26
    have hb0 := below_new W (.cells #[.int .i64 k, .bool b, .string t, .slice ad len cap, .slice adk nk capk] 26)
    by_cases hk1 : k = 1
    · subst hk1
      have HT : Hid (knownT (.node 1 b t its ks) = false) := Lib.hid (by unfold knownT; rfl)
      go_enter Tryz.func33, Tryz.ntmps33
      go_wp2
      go_ret
      exact ⟨by rw [HT.out]; rfl, hb0⟩
    · have hk2 : (k == 1) = false := beq_eq_false_iff_ne.2 hk1
      have HT : Hid (knownT (.node k b t its ks) = knownL its) := Lib.hid (by unfold knownT; rw [hk2]; rfl)
      rw [HT.out]
      obtain ⟨r, hr⟩ : ∃ r, knownL its = r := ⟨_, rfl⟩
      rw [hr]
      have HR := Lib.hid hr
      clear hr HT hk1
      go_enter Tryz.func33, Tryz.ntmps33
      go_wp2
      go_loopw [3, 10] (fun _ jv wr => ∃ j : Nat, jv = .int .i64 j ∧ j ≤ len ∧ Hid (∀ i (h : i < its.length), i < j → knownT its[i] = true) ∧ Hid (Below W.heap.size W wr) ∧ Hid (Blk wr W.heap.size #[.int .i64 k, .bool b, .string t, .slice ad len cap, .slice adk nk capk] 26)) (fun _ jv _ => len - (intOf jv).toNat)
      case atStart => exact ⟨0, rfl, by omega, Lib.hid (fun i _ h => by omega), Lib.hid hb0, Lib.hid hk0⟩
      case round =>
        obtain ⟨j, rfl, hj, HI, HB, HK⟩ := hrel
        clear hk0 hb0
        by_cases hlt : j < len
        · have hjl : j < its.length := by have := HL.out; omega
          obtain ⟨rfl, hg⟩ := HA.out (by omega)
          have hBr : Below B w wr := hb.trans (HB.out.mono hBW)
          have h5 := (HC.out j hjl).below hg hBr
          have e0 := h5.1
          have e1 := h5.2.1
          have e2 := h5.2.2.1
          have e3 := h5.2.2.2.1
          have e4 := h5.2.2.2.2
          have q3 := HK.out.cell 3
          have hwr : W.heap.size < wr.heap.size := HK.out.lt
          have HCa := Lib.hid (IH.out j hjl wr hBr (by have := HB.out.size; omega))
          have i1 : (0 : Int) ≤ (j : Int) := by omega
          have i2 : (j : Int) < (len : Int) := by omega
          have HBr := Lib.hid hBr
          clear h5 hBr
          obtain ⟨d, hd⟩ : ∃ d, knownT its[j] = d := ⟨_, rfl⟩
          rw [hd] at HCa
          have HDd := Lib.hid hd
          clear hd
          generalize hxi : ii j = vi at e3 HCa
          generalize hxv : iv j = vv at e4 HCa
          have HB2 := HB
          cases d
          · have HF : Hid (r = false) := Lib.hid (by rw [← HR.out]; exact knownL_not hjl HDd.out)
            go_wp2_with (go_at_call 33; refine HCa.out.mono ?_; rintro e w2 ⟨rfl, hb2⟩)
            go_ret
            exact ⟨by rw [HF.out]; rfl, HB2.out.trans (hb2.mono HB2.out.size)⟩
          · go_wp2_with (go_at_call 33; refine HCa.out.mono ?_; rintro e w2 ⟨rfl, hb2⟩)
            go_roundw
            case rel =>
              refine ⟨j + 1, by go_num, by omega, Lib.hid (fun i hi hij => ?_), Lib.hid (HB2.out.trans (hb2.mono HB2.out.size)), Lib.hid (HK.out.below hb2)⟩
              rcases Nat.eq_or_lt_of_le (show i ≤ j by omega) with h | h
              · subst h; exact HDd.out
              · exact HI.out i hi h
            case measure => simp [intOf]; omega
        · have HT : Hid (r = true) := Lib.hid (by rw [← HR.out]; exact knownL_all (fun i hi => HI.out i hi (by have := HL.out; omega)))
          go_wp2
          go_ret
          exact ⟨by rw [HT.out]; rfl, HB.out⟩

set_option maxRecDepth 100000 in
set_option maxHeartbeats 2000000 in
theorem vKnown_any {B : Nat} {w : World} {v : Value} {T : VT} (h : Is B w v T) : ∀ (W : World), Below B w W → B ≤ W.heap.size → Calls Tryz.prog 30 #[v] W fun e w' => e = .returned (.bool (knownT T)) ∧ Below W.heap.size W w' := by
  induction h with
  | mk k b t its ks ad cap kv g o ik ib it ii iv hk hc hnl ha hcell hrec ih =>
    intro W hb hBW
    obtain ⟨adk, capk, rfl, -⟩ := hk
    have HA := Lib.hid ha
    have HC := Lib.hid hcell
    have IH := Lib.hid ih
    have HIS := Lib.hid hrec
    obtain ⟨len, hlen⟩ : ∃ len, its.length = len := ⟨_, rfl⟩
    obtain ⟨nk, hnk⟩ : ∃ nk, ks.length = nk := ⟨_, rfl⟩
    have HL := Lib.hid hlen
    rw [hlen] at hc hnl ⊢
    rw [hnk]
    clear ha hcell hrec ih hlen hnk
    have hk0 := Blk.new W #[.int .i64 k, .bool b, .string t, .slice ad len cap, .slice adk nk capk] 26
    have hb0 := below_new W (.cells #[.int .i64 k, .bool b, .string t, .slice ad len cap, .slice adk nk capk] 26)
    by_cases hk1 : k = 1
    · subst hk1
      have HT : Hid (knownT (.node 1 b t its ks) = false) := Lib.hid (by unfold knownT; rfl)
      go_enter Tryz.func30, Tryz.ntmps30
      go_wp2
      go_ret
      exact ⟨by rw [HT.out]; rfl, hb0⟩
    · have hk2 : (k == 1) = false := beq_eq_false_iff_ne.2 hk1
      have HT : Hid (knownT (.node k b t its ks) = knownL its) := Lib.hid (by unfold knownT; rw [hk2]; rfl)
      rw [HT.out]
      obtain ⟨r, hr⟩ : ∃ r, knownL its = r := ⟨_, rfl⟩
      rw [hr]
      have HR := Lib.hid hr
      clear hr HT hk1
      have HB0 := Lib.hid hb0
      clear hk0 hb0
      go_enter Tryz.func30, Tryz.ntmps30
      go_wp2
      go_loopw [11] (fun jv wr => ∃ j : Nat, jv = .int .i64 j ∧ j ≤ len ∧ Hid (∀ i (h : i < its.length), i < j → knownT its[i] = true) ∧ Hid (Below W.heap.size W wr)) (fun jv _ => len - (intOf jv).toNat)
      case atStart => exact ⟨0, rfl, by omega, Lib.hid (fun i _ h => by omega), HB0⟩
      case round =>
        obtain ⟨j, rfl, hj, HI, HB⟩ := hrel
        clear HB0
        by_cases hlt : j < len
        · have hjl : j < its.length := by have := HL.out; omega
          obtain ⟨rfl, hg⟩ := HA.out (by omega)
          have hBr : Below B w wr := hb.trans (HB.out.mono hBW)
          have h5 := (HC.out j hjl).below hg hBr
          have e0 := h5.1
          have e1 := h5.2.1
          have e2 := h5.2.2.1
          have e3 := h5.2.2.2.1
          have e4 := h5.2.2.2.2
          have hIH := IH.out j hjl
          have i1 : (0 : Int) ≤ (j : Int) := by omega
          have i2 : (j : Int) < (len : Int) := by omega
          clear h5
          obtain ⟨d, hd⟩ : ∃ d, knownT its[j] = d := ⟨_, rfl⟩
          rw [hd] at hIH
          have HDd := Lib.hid hd
          clear hd
          generalize hxi : ii j = vi at e3 hIH
          generalize hxv : iv j = vv at e4 hIH
          have hsh := (HIS.out j hjl).shape
          rw [hxi, hxv] at hsh
          obtain ⟨_, _, _, ai, ni, ci, ak, nk2, ck2, esh⟩ := hsh
          cases esh
          have hbi := below_new wr (.cells #[.int .i64 (ik j), .bool (ib j), .string (it j), .slice ai ni ci, .slice ak nk2 ck2] 26)
          have HCa := Lib.hid (hIH (wr.alloc (.cells #[.int .i64 (ik j), .bool (ib j), .string (it j), .slice ai ni ci, .slice ak nk2 ck2] 26)) (hBr.trans (hbi.mono (Nat.le_trans hBW HB.out.size))) (Nat.le_trans (Nat.le_trans hBW HB.out.size) hbi.size))
          have HBi := Lib.hid (HB.out.trans (hbi.mono HB.out.size))
          clear hIH hBr hbi
          cases d
          · have HF : Hid (r = false) := Lib.hid (by rw [← HR.out]; exact knownL_not hjl HDd.out)
            go_wp2_with (go_at_call 30; refine HCa.out.mono ?_; rintro e w2 ⟨rfl, hb2⟩)
            go_ret
            exact ⟨by rw [HF.out]; rfl, HBi.out.trans (hb2.mono HBi.out.size)⟩
          · go_wp2_with (go_at_call 30; refine HCa.out.mono ?_; rintro e w2 ⟨rfl, hb2⟩)
            go_roundw
            case rel =>
              refine ⟨j + 1, by go_num, by omega, Lib.hid (fun i hi hij => ?_), Lib.hid (HBi.out.trans (hb2.mono HBi.out.size))⟩
              rcases Nat.eq_or_lt_of_le (show i ≤ j by omega) with h | h
              · subst h; exact HDd.out
              · exact HI.out i hi h
            case measure => simp [intOf]; omega
        · have HT : Hid (r = true) := Lib.hid (by rw [← HR.out]; exact knownL_all (fun i hi => HI.out i hi (by have := HL.out; omega)))
          go_wp2
          go_ret
          exact ⟨by rw [HT.out]; rfl, HB.out⟩

/-- What value.Size says of a good tree. -/
def SizeOk (T : VT) (z : Int) : Prop := sizeT T ≤ 2000 → z = (sizeT T : Int)
def SizeOkL (its : List VT) (j : Nat) (z : Int) : Prop := 1 + sizeL its ≤ 2000 → z = ((1 + sizeL (its.take j) : Nat) : Int)
theorem sizeOk_step {its : List VT} {j : Nat} {z c : Int} (hj : j < its.length) (h : SizeOkL its j z) (hc : SizeOk its[j] c) : SizeOkL its (j + 1) (wrap64 (z + c)) := by
  intro hs
  have h1 := h hs
  have h2 := sizeL_take hj
  have h3 := sizeL_split its (j + 1)
  have h4 := hc (by omega)
  have hw : wrap64 (z + c) = z + c := by unfold wrap64; omega
  rw [hw, h1, h4, h2]
  omega

end Go.Proofs.YtblldoniagiboaaGreatDoor
namespace Go.Proofs.YtblldoniagiboaaGreatDoor
open Go.RowKit Go.Shelf
set_option linter.unusedVariables false

open Classical in
noncomputable def encR (T : VT) : ByteArray × Int := if within 24 1999 T then (if knownT T = true then (if utfT T = true then (if 65536 < (appV T []).length then (⟨#[]⟩, 3) else (⟨(appV T []).toArray⟩, 0)) else (⟨#[]⟩, 31)) else (⟨#[]⟩, 20)) else (⟨#[]⟩, 1)
def EncE (W : World) (r : ByteArray × Int) (e : Ending) (w' : World) : Prop := e = .returned (.tuple #[.string r.1, .int .i64 r.2]) ∧ Below W.heap.size W w'
theorem row_nil (B : Nat) (w : World) : Row B w (.slice none 0 0) [] := ⟨rfl, .inl ⟨rfl, rfl⟩⟩
theorem conv_row {B : Nat} {w : World} {ad : Option Addr} {cap : Nat} {L : List UInt8} (h : Row B w (.slice ad L.length cap) L) : (convert 44 9 (.slice ad L.length cap)).run Tryz.prog w = .ok (.string ⟨L.toArray⟩) w := by
  rcases h.2 with ⟨h1, h2⟩ | ⟨g, cap', cur, h1, h3, h4, h5, h6, h7, h8⟩
  · obtain rfl : L = [] := List.length_eq_zero_iff.1 h2
    cases h1
    exact run_convert_bytes_nil (P := Tryz.prog) w 44 5 Tryz.underlying44 Tryz.underlying5 0 0 9 Tryz.underlying9
  · cases h1
    refine run_convert_bytes_back (P := Tryz.prog) w 44 9 5 ⟨g, 0, none⟩ cap L Tryz.underlying44 Tryz.underlying5 Tryz.underlying9 (fun j hj => ?_)
    exact World.ownsRow.cells h (g := g) rfl j (.int .u8 (L[j].toNat : Int)) (by simp [Lib.byteCells, hj])
set_option maxRecDepth 100000 in
set_option maxHeartbeats 4000000 in
theorem encode_any {B : Nat} {w W : World} {v : Value} {T : VT} (h : Is B w v T) (hb : Below B w W) (hBW : B ≤ W.heap.size) (hR : ReadyJ W) : Calls Tryz.prog 15 #[v] W (EncE W (encR T)) := by
  obtain ⟨k, b, t, ad, n, cap, adk, nk, capk, rfl⟩ := h.shape
  obtain ⟨Wz, hWz⟩ : ∃ Wz, W.alloc (.cells #[.int .i64 k, .bool b, .string t, .slice ad n cap, .slice adk nk capk] 26) = Wz := ⟨_, rfl⟩
  have hk0 : Blk Wz W.heap.size #[.int .i64 k, .bool b, .string t, .slice ad n cap, .slice adk nk capk] 26 := by rw [← hWz]; exact Blk.new _ _ _
  have HZ : Hid (Below W.heap.size W Wz) := by rw [← hWz]; exact Lib.hid (below_new0 _ _)
  have HI := Lib.hid h
  have HBW := Lib.hid hb
  have HR := Lib.hid (hR.below HZ.out)
  have HK := Lib.hid hk0
  have c0 := hk0.cell 0
  have c1 := hk0.cell 1
  have c2 := hk0.cell 2
  have c3 := hk0.cell 3
  have c4 := hk0.cell 4
  have HG := Lib.hid (vGood_any h Wz (hb.trans (HZ.out.mono hBW)) (Nat.le_trans hBW HZ.out.size))
  clear h hb hR hk0
  by_cases hw : within 24 1999 T
  · rw [decide_eq_true hw] at HG
    have HW := Lib.hid hw
    clear hw
    go_enter Tryz.func15, Tryz.ntmps15
    go_wp2_with (go_at_call 29; refine HG.out.mono ?_; rintro e w1 ⟨rfl, hb1⟩; have d0 := (HK.out.below hb1).cell 0; have d1 := (HK.out.below hb1).cell 1; have d2 := (HK.out.below hb1).cell 2; have d3 := (HK.out.below hb1).cell 3; have d4 := (HK.out.below hb1).cell 4; refine Hid.out ?_)
    refine Lib.hid ?_
    have HB1 : Hid (Below W.heap.size W w1) := Lib.hid (HZ.out.trans (hb1.mono HZ.out.size))
    have HK1 := Lib.hid (HK.out.below hb1)
    have HR1 := Lib.hid (HR.out.below hb1)
    have HN := Lib.hid (vKnown_any HI.out w1 (HBW.out.trans (HB1.out.mono hBW)) (Nat.le_trans hBW HB1.out.size))
    clear hb1 c0 c1 c2 c3 c4
    cases hkn : knownT T
    · rw [hkn] at HN
      have HX : Hid (encR T = (⟨#[]⟩, 20)) := Lib.hid (by unfold encR; rw [if_pos HW.out, if_neg (by rw [hkn]; decide)])
      clear hkn
      go_wp2_with (go_at_call 30; refine HN.out.mono ?_; rintro e w2 ⟨rfl, hb2⟩)
      refine bodyPost_ret (v := .tuple #[.string ⟨#[]⟩, .int .i64 20]) (by simp [results, Tryz.results15, go_sem]) rfl ?_
      rw [HX.out]
      exact ⟨rfl, HB1.out.trans (hb2.mono HB1.out.size)⟩
    · rw [hkn] at HN
      have HKN := Lib.hid hkn
      clear hkn
      go_wp2_with (go_at_call 30; refine HN.out.mono ?_; rintro e w2 ⟨rfl, hb2⟩; have e0 := (HK1.out.below hb2).cell 0; have e1 := (HK1.out.below hb2).cell 1; have e2 := (HK1.out.below hb2).cell 2; have e3 := (HK1.out.below hb2).cell 3; have e4 := (HK1.out.below hb2).cell 4; refine Hid.out ?_)
      refine Lib.hid ?_
      have HB2 : Hid (Below W.heap.size W w2) := Lib.hid (HB1.out.trans (hb2.mono HB1.out.size))
      have HK2 := Lib.hid (HK1.out.below hb2)
      have HR2 := Lib.hid (HR1.out.below hb2)
      have HU := Lib.hid (allUTF8_any HI.out (plain_short T HW.out.2.2) w2 (HBW.out.trans (HB2.out.mono hBW)) (Nat.le_trans hBW HB2.out.size) HR2.out)
      clear hb2 d0 d1 d2 d3 d4
      cases hut : utfT T
      · rw [hut] at HU
        have HX : Hid (encR T = (⟨#[]⟩, 31)) := Lib.hid (by unfold encR; rw [if_pos HW.out, if_pos HKN.out, if_neg (by rw [hut]; decide)])
        clear hut
        go_wp2_with (go_at_call 31; refine HU.out.mono ?_; rintro e w3 ⟨rfl, hb3⟩)
        refine bodyPost_ret (v := .tuple #[.string ⟨#[]⟩, .int .i64 31]) (by simp [results, Tryz.results15, go_sem]) rfl ?_
        rw [HX.out]
        exact ⟨rfl, HB2.out.trans (hb3.mono HB2.out.size)⟩
      · rw [hut] at HU
        have HUT := Lib.hid hut
        clear hut
        go_wp2_with (go_at_call 31; refine HU.out.mono ?_; rintro e w3 ⟨rfl, hb3⟩; have q0 := (HK2.out.below hb3).cell 0; have q1 := (HK2.out.below hb3).cell 1; have q2 := (HK2.out.below hb3).cell 2; have q3 := (HK2.out.below hb3).cell 3; have q4 := (HK2.out.below hb3).cell 4; refine Hid.out ?_)
        refine Lib.hid ?_
        have HB3 : Hid (Below W.heap.size W w3) := Lib.hid (HB2.out.trans (hb3.mono HB2.out.size))
        have hlen := appV_len T [] HW.out.2.2
        have hsz := HW.out.2.1
        simp only [List.length_nil] at hlen
        have HA := Lib.hid (appValue_any HI.out (plain_even T HW.out.2.2) w3.heap.size w3 (.slice none 0 0) [] (HBW.out.trans (HB3.out.mono hBW)) (Nat.le_trans hBW HB3.out.size) (Nat.le_refl _) (row_nil _ _) (by omega))
        clear hb3 e0 e1 e2 e3 e4
        obtain ⟨X, hX⟩ : ∃ X, appV T [] = X := ⟨_, rfl⟩
        rw [hX] at HA hlen
        have HX := Lib.hid hX
        clear hX
        go_wp2_with fail
        go_at_call 32; refine HA.out.mono ?_; rintro e w4 ⟨v4, rfl, hr4, hb4, ho4⟩
        obtain ⟨ad4, cap4, hv4⟩ := row_shape hr4
        subst hv4
        have hcv := conv_row hr4
        have HB4 : Hid (Below W.heap.size W w4) := Lib.hid (HB3.out.trans (hb4.mono HB3.out.size))
        clear hr4 hb4 ho4
        by_cases hl : 65536 < X.length
        · have HE : Hid (encR T = (⟨#[]⟩, 3)) := Lib.hid (by unfold encR; rw [if_pos HW.out, if_pos HKN.out, if_pos HUT.out, HX.out, if_pos hl])
          have i0 : (65536 : Int) < (X.length : Int) := by omega
          clear hl
          go_wp2
          refine bodyPost_ret (v := .tuple #[.string ⟨#[]⟩, .int .i64 3]) (by simp [results, Tryz.results15, go_sem]) rfl ?_
          rw [HE.out]
          exact ⟨rfl, HB4.out⟩
        · have HE : Hid (encR T = (⟨X.toArray⟩, 0)) := Lib.hid (by unfold encR; rw [if_pos HW.out, if_pos HKN.out, if_pos HUT.out, HX.out, if_neg hl])
          have i0 : ¬ (65536 : Int) < (X.length : Int) := by omega
          clear hl
          go_wp2
          refine bodyPost_ret (v := .tuple #[.string ⟨X.toArray⟩, .int .i64 0]) (by simp [results, Tryz.results15, go_sem]) rfl ?_
          rw [HE.out]
          exact ⟨rfl, HB4.out⟩
  · rw [decide_eq_false hw] at HG
    have HX : Hid (encR T = (⟨#[]⟩, 1)) := Lib.hid (by unfold encR; rw [if_neg hw])
    clear hw
    go_enter Tryz.func15, Tryz.ntmps15
    go_wp2_with (go_at_call 29; refine HG.out.mono ?_; rintro e w1 ⟨rfl, hb1⟩)
    refine bodyPost_ret (v := .tuple #[.string ⟨#[]⟩, .int .i64 1]) (by simp [results, Tryz.results15, go_sem]) rfl ?_
    rw [HX.out]
    exact ⟨rfl, HZ.out.trans (hb1.mono HZ.out.size)⟩
end Go.Proofs.YtblldoniagiboaaGreatDoor
