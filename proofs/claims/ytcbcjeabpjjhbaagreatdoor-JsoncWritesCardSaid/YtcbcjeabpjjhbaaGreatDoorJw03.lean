/- The document's own writer: the first byte at which no UTF-8 begins · The document's own writer: are all texts UTF-8? -/
import Derived.Test.YtcbcjeabpjjhbaaGreatDoorJb25
import Derived.Test.YtcbcjeabpjjhbaaGreatDoorJb26
import Derived.Test.YtcbcjeabpjjhbaaGreatDoorJw02
namespace Go.Proofs.YtcbcjeabpjjhbaaGreatDoor
open Go.RowKit
set_option linter.unusedVariables false

theorem rune_docB (t : ByteArray) (d : Nat) : docRune (headZ (rest t d)) (headZ (rest t (d + 1))) (headZ (rest t (d + 2))) (headZ (rest t (d + 3))) = if rest t d = [] then 0 else if Lib.decodeL (rest t d) = (65533, 1) then 0 else (Lib.decodeL (rest t d)).2 := by
  rw [rest_add, rest_add, rest_add]
  exact docRune_L (rest t d)
/-- What Bad answers of valid bytes, and of others. -/
def BadIs (u : Bool) (e : Ending) : Prop := if u then e = .returned (.int .i64 (-1)) else ∃ z : Nat, e = .returned (.int .i64 (z : Int))
set_option maxRecDepth 100000 in
set_option maxHeartbeats 4000000 in
theorem rbad_any {t : ByteArray} (hs : t.size ≤ 65536) (W : World) : Calls Tryz.prog 38 #[.string t] W fun e w' => BadIs (utfS t) e ∧ W = w' := by
  obtain ⟨u, hu⟩ : ∃ u, utfS t = u := ⟨_, rfl⟩
  rw [hu]
  have HU : Hid (Lib.validD (rest t 0) = u) := Lib.hid hu
  clear hu
  go_enter Tryz.func38, Tryz.ntmps38
  go_wp2_with fail
  go_loopg [3] (t.size + 1) (fun gf s3 wx => ∃ d : Nat, s3 = .int .i64 (d : Int) ∧ d ≤ t.size ∧ Hid (Lib.validD (rest t d) = u) ∧ wx = W ∧ t.size < d + gf)
  case atStart => exact ⟨0, rfl, by omega, HU, rfl, by omega⟩
  case round =>
    obtain ⟨d, rfl, hd, HE, rfl, hg⟩ := hrel
    by_cases hlt : d < t.size
    · obtain ⟨kr, hkr⟩ : ∃ kr, docRune (headZ (rest t d)) (headZ (rest t (d + 1))) (headZ (rest t (d + 2))) (headZ (rest t (d + 3))) = kr := ⟨_, rfl⟩
      have HRu : Hid (RuneIs t d kr) := Lib.hid (hkr ▸ rrune_any (a := d) (t := t) (by omega) hs)
      have hne : rest t d ≠ [] := by rw [rest_cons hlt]; simp
      rw [rune_docB, if_neg hne] at hkr
      have hv := HE.out
      rw [Lib.validD_step _ hne] at hv
      have i1 : (d : Int) < (t.size : Int) := by omega
      by_cases hbad : Lib.decodeL (rest t d) = (65533, 1)
      · rw [if_pos hbad] at hkr
        rw [hbad, if_pos ⟨rfl, rfl⟩] at hv
        subst hkr
        subst hv
        clear HE hne hbad HU
        go_wp2_with (go_at_call 56; refine (HRu.out _).mono ?_; rintro e w1 ⟨rfl, rfl⟩)
        go_ret
        exact ⟨⟨d, rfl⟩, rfl⟩
      · rw [if_neg hbad] at hkr
        rw [if_neg (fun e => hbad (Prod.ext e.1 e.2))] at hv
        have h1 : 1 ≤ kr := by rw [← hkr]; exact decodeL_pos hne
        have h2 : kr ≤ t.size - d := by rw [← hkr, ← rest_length]; exact Lib.decodeL_le _ hne
        have HE2 : Hid (Lib.validD (rest t (d + kr)) = u) := Lib.hid (by rw [rest_add, ← hkr]; exact hv)
        have q0 : ¬ (kr : Int) = 0 := by omega
        clear HE hne hbad hv hkr HU
        obtain ⟨g', rfl⟩ : ∃ g', gk = g' + 1 := ⟨gk - 1, by omega⟩
        go_wp2_with (go_at_call 56; refine (HRu.out _).mono ?_; rintro e w1 ⟨rfl, rfl⟩)
        go_roundg g'
        case measure => omega
        case rel => exact ⟨d + kr, by go_num, by omega, HE2, rfl, by omega⟩
    · have hnil : rest t d = [] := rest_nil (by omega)
      have hv := HE.out
      rw [hnil] at hv
      have hv : u = true := hv.symm
      subst hv
      have i1 : ¬ (d : Int) < (t.size : Int) := by omega
      clear HE hnil HU
      go_wp2
      go_ret
      exact ⟨rfl, rfl⟩
theorem rbad_yes {t : ByteArray} (hs : t.size ≤ 65536) (hu : utfS t = true) (W : World) : Calls Tryz.prog 38 #[.string t] W fun e w' => e = .returned (.int .i64 (-1)) ∧ W = w' := by
  have h := rbad_any hs W
  rw [hu] at h
  exact h
theorem rbad_no {t : ByteArray} (hs : t.size ≤ 65536) (hu : utfS t = false) (W : World) : Calls Tryz.prog 38 #[.string t] W fun e w' => (∃ z : Nat, e = .returned (.int .i64 (z : Int))) ∧ W = w' := by
  have h := rbad_any hs W
  rw [hu] at h
  exact h
end Go.Proofs.YtcbcjeabpjjhbaaGreatDoor
namespace Go.Proofs.YtcbcjeabpjjhbaaGreatDoor
open Go.RowKit Go.Shelf
set_option linter.unusedVariables false

/-- No text of the tree is longer than 65,536 bytes. -/
def shortD : VT → Prop
  | .node _ _ t its ks => t.size ≤ 65536 ∧ (∀ k ∈ ks, k.size ≤ 65536) ∧ ∀ x ∈ its, shortD x
theorem shortD_node {k : Int} {b : Bool} {t : ByteArray} {its : List VT} {ks : List ByteArray} : shortD (.node k b t its ks) ↔ t.size ≤ 65536 ∧ (∀ k ∈ ks, k.size ≤ 65536) ∧ ∀ x ∈ its, shortD x := by
  conv => lhs; unfold shortD
set_option maxRecDepth 100000 in
set_option maxHeartbeats 4000000 in
theorem rtexts_any {B : Nat} {w : World} {v : Value} {T : VT} (h : Is B w v T) : shortD T → ∀ (W : World), Below B w W → B ≤ W.heap.size → Calls Tryz.prog 20 #[v] W fun e w' => e = .returned (.bool (utfT T)) ∧ Below W.heap.size W w' := by
  induction h with
  | mk k b t its ks ad cap kv g o ik ib it ii iv hk hc hnl ha hcell hrec ih =>
    intro hsh W hb hBW
    obtain ⟨hs1, hs2, hs3⟩ := shortD_node.1 hsh
    obtain ⟨adk, capk, rfl, -, hknl, hkp⟩ := hk
    have HA := Lib.hid ha
    have HC := Lib.hid hcell
    have HIS := Lib.hid hrec
    have IH := Lib.hid (fun j (hj : j < its.length) => ih j hj (hs3 _ (List.getElem_mem hj)))
    have HKP := Lib.hid hkp
    have HS2 := Lib.hid hs2
    have HBW := Lib.hid hb
    obtain ⟨len, hlen⟩ : ∃ len, its.length = len := ⟨_, rfl⟩
    obtain ⟨nk, hnk⟩ : ∃ nk, ks.length = nk := ⟨_, rfl⟩
    have HL := Lib.hid hlen
    have HK := Lib.hid hnk
    rw [hlen] at hc hnl ⊢
    rw [hnk] at hknl ⊢
    obtain ⟨Wz, hWz⟩ : ∃ Wz, W.alloc (.cells #[.int .i64 k, .bool b, .string t, .slice ad len cap, .slice adk nk capk] 26) = Wz := ⟨_, rfl⟩
    have hk0 : Blk Wz W.heap.size #[.int .i64 k, .bool b, .string t, .slice ad len cap, .slice adk nk capk] 26 := by rw [← hWz]; exact Blk.new _ _ _
    have HZ : Hid (Below W.heap.size W Wz) := by rw [← hWz]; exact Lib.hid (below_new0 _ _)
    have c2 := hk0.cell 2
    have HK0 := Lib.hid hk0
    clear ha hcell hrec ih hlen hnk hk0 hb hkp hs2 hs3 hsh
    cases hv : utfS t
    · have HT : Hid (utfT (.node k b t its ks) = false) := Lib.hid (by unfold utfT; rw [hv]; rfl)
      have HV := Lib.hid (rbad_no hs1 hv Wz)
      clear hv
      go_enter Tryz.func20, Tryz.ntmps20
      go_wp2_with (go_at_call 38; refine HV.out.mono ?_; rintro e w2 ⟨⟨z, rfl⟩, rfl⟩; have hz0 : (0 : Int) ≤ (z : Int) := by omega)
      go_ret
      rw [HT.out]
      exact ⟨rfl, HZ.out⟩
    · have HT : Hid (utfT (.node k b t its ks) = (ks.all utfS && utfL its)) := Lib.hid (by unfold utfT; rw [hv]; rfl)
      rw [HT.out]
      have HV := Lib.hid (rbad_yes hs1 hv Wz)
      clear hv HT
      go_enter Tryz.func20, Tryz.ntmps20
      go_wp2_with (go_at_call 38; refine HV.out.mono ?_; rintro e w2 ⟨rfl, hw2⟩; have c4 := HK0.out.cell 4; rw [hw2] at c4; refine Hid.out ?_)
      refine Lib.hid ?_
      have HB2 : Hid (Below W.heap.size W w2) := Lib.hid (hw2 ▸ HZ.out)
      have HK2 := Lib.hid (hw2 ▸ HK0.out)
      clear hw2
      go_wp2_with fail
      go_loopg [12] (nk + 1) (fun gf s12 wx => ∃ j : Nat, s12 = .int .i64 (j : Int) ∧ j ≤ nk ∧ Hid (∀ i (h : i < ks.length), i < j → utfS ks[i] = true) ∧ Hid (Below W.heap.size W wx) ∧ Hid (Blk wx W.heap.size #[.int .i64 k, .bool b, .string t, .slice ad len cap, .slice adk nk capk] 26) ∧ nk - j < gf)
      case atStart => exact ⟨0, rfl, by omega, Lib.hid (fun i _ h => by omega), HB2, HK2, by omega⟩
      case round =>
        obtain ⟨j, rfl, hj, HI, HB, HBK, hf⟩ := hrel
        obtain ⟨g', rfl⟩ : ∃ g', gk = g' + 1 := ⟨gk - 1, by omega⟩
        by_cases hlt : j < nk
        · have hjk : j < ks.length := by have := HK.out; omega
          obtain ⟨gk2, ok2, rfl, hgk, hkc⟩ := HKP.out (by omega)
          have hBw : Below B w wr := HBW.out.trans (HB.out.mono hBW)
          have k0 : wr.cell? ⟨gk2, ok2 + j, none⟩ = some (.string ks[j]) := (Below.cell hBw (by show gk2 < B; exact hgk)).trans (hkc j hjk)
          have i1 : (0 : Int) ≤ (j : Int) := by omega
          have i2 : (j : Int) < (nk : Int) := by omega
          have hw : IntKind.i64.wrap ((j : Int) + 1) = (j : Int) + 1 := IntWalk.i64_in _ (by omega)
          obtain ⟨d, hd⟩ : ∃ d, utfS ks[j] = d := ⟨_, rfl⟩
          have HD := Lib.hid hd
          have hsk := HS2.out _ (List.getElem_mem hjk)
          have c4 := HBK.out.cell 4
          obtain ⟨key, hkey⟩ : ∃ key, ks[j] = key := ⟨_, rfl⟩
          rw [hkey] at k0 hd hsk
          have HDK := Lib.hid hd
          clear hd hkey hkc
          cases d
          · have HV2 := Lib.hid (rbad_no hsk HDK.out wr)
            go_wp2_with (go_at_call 38; refine HV2.out.mono ?_; rintro e w3 ⟨⟨z, rfl⟩, rfl⟩; have hz0 : (0 : Int) ≤ (z : Int) := by omega)
            go_ret
            rw [all_not hjk HD.out]
            exact ⟨rfl, HB.out⟩
          · have HV2 := Lib.hid (rbad_yes hsk HDK.out wr)
            go_wp2_with (go_at_call 38; refine HV2.out.mono ?_; rintro e w3 ⟨rfl, rfl⟩)
            go_roundg g'
            case measure => omega
            case rel =>
              refine ⟨j + 1, by go_num, by omega, Lib.hid (fun i hi hij => ?_), HB, HBK, by omega⟩
              rcases Nat.eq_or_lt_of_le (show i ≤ j by omega) with h | h
              · subst h; exact HD.out
              · exact HI.out i hi h
        · have HKA : Hid (ks.all utfS = true) := Lib.hid (all_all (fun i hi => HI.out i hi (by have := HK.out; omega)))
          have i2 : ¬ (j : Int) < (nk : Int) := by omega
          have c3 := HBK.out.cell 3
          go_wp2_with fail
          go_loopg [26] (len + 1) (fun gf s26 wx => ∃ j : Nat, s26 = .int .i64 (j : Int) ∧ j ≤ len ∧ Hid (∀ i (h : i < its.length), i < j → utfT its[i] = true) ∧ Hid (Below W.heap.size W wx) ∧ Hid (Blk wx W.heap.size #[.int .i64 k, .bool b, .string t, .slice ad len cap, .slice adk nk capk] 26) ∧ len - j < gf)
          case atStart => exact ⟨0, rfl, by omega, Lib.hid (fun i _ h => by omega), HB, HBK, by omega⟩
          case round =>
            obtain ⟨j2, rfl, hj2, HI2, HB4, HK4, hf2⟩ := hrel
            obtain ⟨g2', rfl⟩ : ∃ g2', gk = g2' + 1 := ⟨gk - 1, by omega⟩
            by_cases hlt2 : j2 < len
            · have hjl : j2 < its.length := by have := HL.out; omega
              obtain ⟨rfl, hg⟩ := HA.out (by omega)
              have hBw : Below B w wr := HBW.out.trans (HB4.out.mono hBW)
              obtain ⟨adj, nj, capj, adkj, nkj, capkj, hii, hiv⟩ := shape_five (HIS.out j2 hjl)
              have h5 := (HC.out j2 hjl).below hg hBw
              have hIH := IH.out j2 hjl
              rw [hii, hiv] at h5 hIH
              have e0 := h5.1
              have e1 := h5.2.1
              have e2 := h5.2.2.1
              have e3 := h5.2.2.2.1
              have e4 := h5.2.2.2.2
              have i1 : (0 : Int) ≤ (j2 : Int) := by omega
              have i2 : (j2 : Int) < (len : Int) := by omega
              have hw : IntKind.i64.wrap ((j2 : Int) + 1) = (j2 : Int) + 1 := IntWalk.i64_in _ (by omega)
              obtain ⟨d, hd⟩ : ∃ d, utfT its[j2] = d := ⟨_, rfl⟩
              rw [hd] at hIH
              have HD := Lib.hid hd
              generalize ik j2 = kj at *
              generalize ib j2 = bj at *
              generalize it j2 = tj at *
              have c3 := HK4.out.cell 3
              have HU := Lib.hid (hIH _ hBw (by have := HB4.out.size; omega))
              clear hd h5 hii hiv hIH
              cases d
              · go_wp2_with (go_at_call 20; refine HU.out.mono ?_; rintro e w5 ⟨rfl, hb5⟩)
                go_ret
                rw [HKA.out, utfL_not hjl HD.out]
                exact ⟨rfl, HB4.out.trans (hb5.mono HB4.out.size)⟩
              · go_wp2_with (go_at_call 20; refine HU.out.mono ?_; rintro e w5 ⟨rfl, hb5⟩)
                have HX := Lib.hid hb5
                have HKX := Lib.hid (HK4.out.below hb5)
                go_roundg g2'
                case measure => omega
                case rel =>
                  refine ⟨j2 + 1, by go_num, by omega, Lib.hid (fun i hi hij => ?_), Lib.hid (HB4.out.trans (HX.out.mono HB4.out.size)), HKX, by omega⟩
                  rcases Nat.eq_or_lt_of_le (show i ≤ j2 by omega) with h | h
                  · subst h; exact HD.out
                  · exact HI2.out i hi h
            · have hT : utfL its = true := utfL_all (fun i hi => HI2.out i hi (by have := HL.out; omega))
              have i2 : ¬ (j2 : Int) < (len : Int) := by omega
              go_wp2
              go_ret
              rw [HKA.out]
              exact ⟨rfl, HB4.out⟩
end Go.Proofs.YtcbcjeabpjjhbaaGreatDoor
