/- The document's own writer: a value's JSON -/
import Derived.Test.YtcbcjeabpjjhbaaGreatDoorJb40
import Derived.Test.YtcbcjeabpjjhbaaGreatDoorJb42
import Derived.Test.YtcbcjeabpjjhbaaGreatDoorJw04
namespace Go.Proofs.YtcbcjeabpjjhbaaGreatDoor
open Go.RowKit Go.Shelf
set_option linter.unusedVariables false

theorem jsI_drop {its : List VT} {j : Nat} (hj : j < its.length) (f : Bool) : jsI (its.drop j) f = (if f then [] else [44]) ++ (jsT its[j] ++ jsI (its.drop (j + 1)) false) := by
  rw [List.drop_eq_getElem_cons hj]
  conv => lhs; unfold jsI
theorem jsP_drop {ks : List ByteArray} {its : List VT} {j : Nat} (hk : j < ks.length) (hj : j < its.length) (f : Bool) : jsP (ks.drop j) (its.drop j) f = (if f then [] else [44]) ++ (jsQ ks[j] ++ (58 :: (jsT its[j] ++ jsP (ks.drop (j + 1)) (its.drop (j + 1)) false))) := by
  rw [List.drop_eq_getElem_cons hk, List.drop_eq_getElem_cons hj]
  conv => lhs; unfold jsP
theorem rquote_js {t : ByteArray} (hv : utfS t = true) (hs : t.size ≤ 1000000) (W : World) : Calls Tryz.prog 39 #[.string t] W fun e w' => e = .returned (.string ⟨(jsQ t).toArray⟩) ∧ Below W.heap.size W w' := by
  have h := rquote_any hs W
  rw [quote_bytes hv] at h
  exact h
theorem app_bytes (a b : ByteArray) : (a ++ b).data.toList = a.data.toList ++ b.data.toList := by simp
theorem jsB_list (T : VT) : (jsB T).data.toList = jsT T := by unfold jsB; simp
set_option maxRecDepth 100000 in
set_option maxHeartbeats 8000000 in
theorem rshow_any {B : Nat} {w : World} {v : Value} {T : VT} (h : Is B w v T) : ∀ d, Fine d T → (jsT T).length ≤ 1000000000 → ∀ (W : World), Below B w W → B ≤ W.heap.size → Calls Tryz.prog 21 #[v] W fun e w' => e = .returned (.string (jsB T)) ∧ Below W.heap.size W w' := by
  induction h with
  | mk k b t its ks ad cap kv g o ik ib it ii iv hk hc hnl ha hcell hrec ih =>
    intro d hf hbig W hb hBW
    obtain ⟨d, rfl⟩ : ∃ e, d = e + 1 := by
      cases d with
      | zero => have := hf.1; unfold deepT at this; cases this
      | succ e => exact ⟨e, rfl⟩
    have hit := hf.items
    have htx := hf.texts
    have hal := (plain_node hf.2.1).1
    have hkn := hf.2.2.1
    obtain ⟨adk, capk, rfl, -, hknl, hkp⟩ := hk
    have HA := Lib.hid ha
    have HC := Lib.hid hcell
    have HIS := Lib.hid hrec
    have IH := Lib.hid (fun j (hj : j < its.length) => ih j hj d (hit _ (List.getElem_mem hj)))
    have HKP := Lib.hid hkp
    have HTX := Lib.hid htx.2
    have HBW := Lib.hid hb
    obtain ⟨len, hlen⟩ : ∃ len, its.length = len := ⟨_, rfl⟩
    obtain ⟨nk, hnk⟩ : ∃ nk, ks.length = nk := ⟨_, rfl⟩
    have HL := Lib.hid hlen
    have HK := Lib.hid hnk
    rw [hlen] at hc hnl ⊢
    rw [hnk] at hknl ⊢
    have HZ := Lib.hid (below_new0 W (.cells #[.int .i64 k, .bool b, .string t, .slice ad len cap, .slice adk nk capk] 26))
    have HK0 := Lib.hid (Blk.new W #[.int .i64 k, .bool b, .string t, .slice ad len cap, .slice adk nk capk] 26)
    have c0 := HK0.out.cell 0
    have c1 := HK0.out.cell 1
    have c2 := HK0.out.cell 2
    have hut := htx.1
    clear ha hcell hrec ih hlen hnk hb hkp hf hit htx
    rcases alone_parts hal with ⟨rfl, rfl, rfl, rfl, rfl⟩ | rfl | ⟨rfl, rfl, rfl, rfl⟩ | ⟨rfl, rfl, hg, rfl, rfl⟩ | ⟨rfl, rfl, hs, rfl, rfl⟩ | ⟨rfl, rfl, rfl, rfl⟩ | ⟨rfl, rfl, rfl, hlen6, hok⟩
    · have HT : Hid (jsB (.node 0 false ⟨#[]⟩ [] []) = ⟨#[110, 117, 108, 108]⟩) := Lib.hid rfl
      clear hal hkn hut
      go_enter Tryz.func21, Tryz.ntmps21
      go_wp2
      go_ret
      rw [HT.out]
      exact ⟨rfl, HZ.out⟩
    · unfold knownT at hkn
      cases hkn
    · clear hal hkn hut
      cases b
      · have HT : Hid (jsB (.node 2 false ⟨#[]⟩ [] []) = ⟨#[102, 97, 108, 115, 101]⟩) := Lib.hid rfl
        go_enter Tryz.func21, Tryz.ntmps21
        go_wp2
        go_ret
        rw [HT.out]
        exact ⟨rfl, HZ.out⟩
      · have HT : Hid (jsB (.node 2 true ⟨#[]⟩ [] []) = ⟨#[116, 114, 117, 101]⟩) := Lib.hid rfl
        go_enter Tryz.func21, Tryz.ntmps21
        go_wp2
        go_ret
        rw [HT.out]
        exact ⟨rfl, HZ.out⟩
    · have HT : Hid (jsB (.node 3 false t [] []) = t) := Lib.hid (by unfold jsB jsT; exact (str_eq rfl).symm)
      clear hal hkn hut hg
      go_enter Tryz.func21, Tryz.ntmps21
      go_wp2
      go_ret
      rw [HT.out]
      exact ⟨rfl, HZ.out⟩
    · have HT : Hid (jsB (.node 4 false t [] []) = ⟨(jsQ t).toArray⟩) := Lib.hid (by unfold jsB jsT; rfl)
      have HQ := Lib.hid (fun W => rquote_js hut (by omega) W)
      clear hal hkn hut hs
      go_enter Tryz.func21, Tryz.ntmps21
      go_wp2_with (go_at_call 39; refine (HQ.out _).mono ?_; rintro e w2 ⟨rfl, hb2⟩)
      go_ret
      rw [HT.out]
      exact ⟨rfl, HZ.out.trans (hb2.mono HZ.out.size)⟩
    · obtain ⟨X, hX⟩ : ∃ X, jsI its true = X := ⟨_, rfl⟩
      have HX := Lib.hid hX
      have hXl : X.length ≤ 1000000000 := by
        rw [← hX]
        refine Nat.le_trans ?_ hbig
        unfold jsT
        simp
        try omega
      have HT : Hid (jsB (.node 5 false ⟨#[]⟩ its []) = ⟨(91 :: (X ++ [93])).toArray⟩) := Lib.hid (by unfold jsB jsT; rw [← hX]; rfl)
      clear hal hkn hut hX
      have c3 := HK0.out.cell 3
      go_enter Tryz.func21, Tryz.ntmps21
      go_wp2_with fail
      go_loopg [3, 25] (len + 1) (fun gf s3 s25 wx => ∃ (j : Nat) (S : ByteArray), s25 = .int .i64 (j : Int) ∧ s3 = .string S ∧ j ≤ len ∧ Hid (S.data.toList ++ jsI (its.drop j) (decide (j = 0)) = X) ∧ Hid (Below W.heap.size W wx) ∧ Hid (Blk wx W.heap.size #[.int .i64 5, .bool false, .string ⟨#[]⟩, .slice ad len cap, .slice adk nk capk] 26) ∧ len - j < gf)
      case atStart => exact ⟨0, ⟨#[]⟩, rfl, rfl, by omega, HX, HZ, HK0, by omega⟩
      case round =>
        obtain ⟨j, S, rfl, rfl, hj, HE, HB4, HK4, hf2⟩ := hrel
        obtain ⟨g2', rfl⟩ : ∃ g2', gk = g2' + 1 := ⟨gk - 1, by omega⟩
        have c0 := HK4.out.cell 0
        have c3 := HK4.out.cell 3
        have c4 := HK4.out.cell 4
        by_cases hlt : j < len
        · have hjl : j < its.length := by have := HL.out; omega
          obtain ⟨rfl, hg⟩ := HA.out (by omega)
          have hBw : Below B w wr := HBW.out.trans (HB4.out.mono hBW)
          obtain ⟨adj, nj, capj, adkj, nkj, capkj, hii, hiv⟩ := shape_five (HIS.out j hjl)
          have h5 := (HC.out j hjl).below hg hBw
          have hIH := IH.out j hjl
          rw [hii, hiv] at h5 hIH
          have i1 : (0 : Int) ≤ (j : Int) := by omega
          have i2 : (j : Int) < (len : Int) := by omega
          have hw : IntKind.i64.wrap ((j : Int) + 1) = (j : Int) + 1 := IntWalk.i64_in _ (by omega)
          obtain ⟨TJ, hTJ⟩ : ∃ TJ, its[j] = TJ := ⟨_, rfl⟩
          rw [hTJ] at hIH
          generalize ik j = kj at *
          generalize ib j = bj at *
          generalize it j = tj at *
          by_cases hj0 : j = 0
          · have HE2 : Hid ((S.data.toList ++ ([] ++ (jsT TJ))) ++ jsI (its.drop (j + 1)) (decide (j + 1 = 0)) = X) := Lib.hid (by
              rw [← HE.out, jsI_drop hjl, hTJ]
              rw [decide_eq_true hj0]
              simp)
            have q0 : ¬ (0 : Int) < (j : Int) := by omega
            have hsum := congrArg List.length HE2.out
            simp only [List.length_append, List.length_nil] at hsum
            have hSz : S.data.toList.length = S.size := by simp
            have hJz : (jsT TJ).length = (jsB TJ).size := (jsB_size TJ).symm
            have hTl : (jsT TJ).length ≤ 1000000000 := by omega
            have s1 : ¬ 9223372036854775807 < S.size + (jsB TJ).size := by omega
            clear hii hiv hTJ hj0 HE
            have e0 := h5.1
            have e1 := h5.2.1
            have e2 := h5.2.2.1
            have e3 := h5.2.2.2.1
            have e4 := h5.2.2.2.2
            have HU := Lib.hid (hIH hTl _ hBw (by have := HB4.out.size; omega))
            clear h5 hIH
            go_wp2_with (go_at_call 21; refine HU.out.mono ?_; rintro e w5 ⟨rfl, hb5⟩; refine Hid.out ?_)
            refine Lib.hid ?_
            have HB5 : Hid (Below W.heap.size W w5) := Lib.hid (HB4.out.trans (hb5.mono HB4.out.size))
            have HK5 := Lib.hid (HK4.out.below hb5)
            clear hb5
            go_wp2_with fail
            go_roundg g2'
            case measure => omega
            case rel => exact ⟨j + 1, S ++ jsB TJ, by go_num, rfl, by omega, Lib.hid (by rw [← HE2.out]; simp only [app_bytes, jsB_list]; simp), HB5, HK5, by omega⟩
          · have HE2 : Hid ((S.data.toList ++ ([44] ++ (jsT TJ))) ++ jsI (its.drop (j + 1)) (decide (j + 1 = 0)) = X) := Lib.hid (by
              rw [← HE.out, jsI_drop hjl, hTJ]
              rw [decide_eq_false hj0]
              simp)
            have q0 : (0 : Int) < (j : Int) := by omega
            have hsum := congrArg List.length HE2.out
            simp only [List.length_append, List.length_cons, List.length_nil] at hsum
            have hSz : S.data.toList.length = S.size := by simp
            have hJz : (jsT TJ).length = (jsB TJ).size := (jsB_size TJ).symm
            have hTl : (jsT TJ).length ≤ 1000000000 := by omega
            have s1 : ¬ 9223372036854775807 < S.size + 1 := by omega
            have s2 : ¬ 9223372036854775807 < S.size + 1 + (jsB TJ).size := by omega
            clear hii hiv hTJ hj0 HE
            have e0 := h5.1
            have e1 := h5.2.1
            have e2 := h5.2.2.1
            have e3 := h5.2.2.2.1
            have e4 := h5.2.2.2.2
            have HU := Lib.hid (hIH hTl _ hBw (by have := HB4.out.size; omega))
            clear h5 hIH
            go_wp2_with (go_at_call 21; refine HU.out.mono ?_; rintro e w5 ⟨rfl, hb5⟩; refine Hid.out ?_)
            refine Lib.hid ?_
            have HB5 : Hid (Below W.heap.size W w5) := Lib.hid (HB4.out.trans (hb5.mono HB4.out.size))
            have HK5 := Lib.hid (HK4.out.below hb5)
            clear hb5
            go_wp2_with fail
            go_roundg g2'
            case measure => omega
            case rel => exact ⟨j + 1, S ++ ⟨#[44]⟩ ++ jsB TJ, by go_num, rfl, by omega, Lib.hid (by rw [← HE2.out]; simp only [app_bytes, jsB_list]; simp), HB5, HK5, by omega⟩
        · have hje : j = len := by omega
          have HXE : Hid (S.data.toList = X) := Lib.hid (by
            rw [← HE.out, hje, ← HL.out, List.drop_length]
            unfold jsI
            simp)
          have i2 : ¬ (j : Int) < (len : Int) := by omega
          have hSz : S.size ≤ 1000000000 := by
            have h1 := congrArg List.length HXE.out
            have h2 : S.data.toList.length = S.size := by simp
            omega
          have s1 : ¬ 9223372036854775807 < 1 + S.size := by omega
          have s2 : ¬ 9223372036854775807 < 1 + S.size + 1 := by omega
          clear HE hje
          go_wp2
          go_ret
          have hB : (⟨#[91]⟩ ++ S ++ ⟨#[93]⟩ : ByteArray) = ⟨(91 :: (X ++ [93])).toArray⟩ := bytes_eq (by rw [← HXE.out]; simp)
          rw [HT.out, ← hB]
          exact ⟨rfl, HB4.out⟩
    · obtain ⟨X, hX⟩ : ∃ X, jsP ks its true = X := ⟨_, rfl⟩
      have HX := Lib.hid hX
      have hXl : X.length ≤ 1000000000 := by
        rw [← hX]
        refine Nat.le_trans ?_ hbig
        unfold jsT
        simp
        try omega
      have HT : Hid (jsB (.node 6 false ⟨#[]⟩ its ks) = ⟨(123 :: (X ++ [125])).toArray⟩) := Lib.hid (by unfold jsB jsT; rw [← hX]; rfl)
      have HLK : Hid (nk = len) := Lib.hid (by rw [← HK.out, ← HL.out]; exact hlen6)
      clear hal hkn hut hX hlen6 hok
      have c3 := HK0.out.cell 3
      go_enter Tryz.func21, Tryz.ntmps21
      go_wp2_with fail
      go_loopg [3, 25] (len + 1) (fun gf s3 s25 wx => ∃ (j : Nat) (S : ByteArray), s25 = .int .i64 (j : Int) ∧ s3 = .string S ∧ j ≤ len ∧ Hid (S.data.toList ++ jsP (ks.drop j) (its.drop j) (decide (j = 0)) = X) ∧ Hid (Below W.heap.size W wx) ∧ Hid (Blk wx W.heap.size #[.int .i64 6, .bool false, .string ⟨#[]⟩, .slice ad len cap, .slice adk nk capk] 26) ∧ len - j < gf)
      case atStart => exact ⟨0, ⟨#[]⟩, rfl, rfl, by omega, HX, HZ, HK0, by omega⟩
      case round =>
        obtain ⟨j, S, rfl, rfl, hj, HE, HB4, HK4, hf2⟩ := hrel
        obtain ⟨g2', rfl⟩ : ∃ g2', gk = g2' + 1 := ⟨gk - 1, by omega⟩
        have c0 := HK4.out.cell 0
        have c3 := HK4.out.cell 3
        have c4 := HK4.out.cell 4
        by_cases hlt : j < len
        · have hjl : j < its.length := by have := HL.out; omega
          obtain ⟨rfl, hg⟩ := HA.out (by omega)
          have hBw : Below B w wr := HBW.out.trans (HB4.out.mono hBW)
          obtain ⟨adj, nj, capj, adkj, nkj, capkj, hii, hiv⟩ := shape_five (HIS.out j hjl)
          have h5 := (HC.out j hjl).below hg hBw
          have hIH := IH.out j hjl
          rw [hii, hiv] at h5 hIH
          have i1 : (0 : Int) ≤ (j : Int) := by omega
          have i2 : (j : Int) < (len : Int) := by omega
          have hw : IntKind.i64.wrap ((j : Int) + 1) = (j : Int) + 1 := IntWalk.i64_in _ (by omega)
          obtain ⟨TJ, hTJ⟩ : ∃ TJ, its[j] = TJ := ⟨_, rfl⟩
          rw [hTJ] at hIH
          have hjk : j < ks.length := by have := HK.out; have := HLK.out; omega
          obtain ⟨gk2, ok2, rfl, hgk, hkc⟩ := HKP.out (by omega)
          have k0 : wr.cell? ⟨gk2, ok2 + j, none⟩ = some (.string ks[j]) := (Below.cell hBw (by show gk2 < B; exact hgk)).trans (hkc j hjk)
          have i3 : (j : Int) < (nk : Int) := by have := HLK.out; omega
          have hky := HTX.out _ (List.getElem_mem hjk)
          obtain ⟨key, hkey⟩ : ∃ key, ks[j] = key := ⟨_, rfl⟩
          rw [hkey] at k0 hky
          have HQ := Lib.hid (fun W => rquote_js hky.1 (by have := hky.2; omega) W)
          generalize ik j = kj at *
          generalize ib j = bj at *
          generalize it j = tj at *
          by_cases hj0 : j = 0
          · have HE2 : Hid ((S.data.toList ++ ([] ++ (jsQ key ++ (58 :: jsT TJ)))) ++ jsP (ks.drop (j + 1)) (its.drop (j + 1)) (decide (j + 1 = 0)) = X) := Lib.hid (by
              rw [← HE.out, jsP_drop hjk hjl, hTJ, hkey]
              rw [decide_eq_true hj0]
              simp)
            have q0 : ¬ (0 : Int) < (j : Int) := by omega
            have hsum := congrArg List.length HE2.out
            simp only [List.length_append, List.length_cons, List.length_nil] at hsum
            have hSz : S.data.toList.length = S.size := by simp
            have hJz : (jsT TJ).length = (jsB TJ).size := (jsB_size TJ).symm
            have hTl : (jsT TJ).length ≤ 1000000000 := by omega
            have s1 : ¬ 9223372036854775807 < S.size + (jsQ key).length := by omega
            have s2 : ¬ 9223372036854775807 < S.size + (jsQ key).length + 1 := by omega
            have s3 : ¬ 9223372036854775807 < S.size + (jsQ key).length + 1 + (jsB TJ).size := by omega
            clear hii hiv hTJ hj0 HE hkey hkc hky
            have H5 := Lib.hid h5
            have HIH := Lib.hid hIH
            clear h5 hIH
            go_wp2_with (go_at_call 39; refine (HQ.out _).mono ?_; rintro e w2 ⟨rfl, hb2⟩; refine Hid.out ?_)
            refine Lib.hid ?_
            have HBX : Hid (Below W.heap.size W w2) := Lib.hid (HB4.out.trans (hb2.mono HB4.out.size))
            have HKX := Lib.hid (HK4.out.below hb2)
            have hBw2 : Below B w w2 := HBW.out.trans (HBX.out.mono hBW)
            have h52 := H5.out.below (B := wr.heap.size) (by have := HB4.out.size; omega) hb2
            have e0 := h52.1
            have e1 := h52.2.1
            have e2 := h52.2.2.1
            have e3 := h52.2.2.2.1
            have e4 := h52.2.2.2.2
            have d3 := HKX.out.cell 3
            have HU := Lib.hid (HIH.out hTl _ hBw2 (by have := HBX.out.size; omega))
            clear hb2 h52 k0 c0 c3 c4
            go_wp2_with (go_at_call 21; refine HU.out.mono ?_; rintro e w5 ⟨rfl, hb5⟩; refine Hid.out ?_)
            refine Lib.hid ?_
            have HB5 : Hid (Below W.heap.size W w5) := Lib.hid (HBX.out.trans (hb5.mono HBX.out.size))
            have HK5 := Lib.hid (HKX.out.below hb5)
            clear hb5
            go_wp2_with fail
            go_roundg g2'
            case measure => omega
            case rel => exact ⟨j + 1, S ++ ⟨(jsQ key).toArray⟩ ++ ⟨#[58]⟩ ++ jsB TJ, by go_num, rfl, by omega, Lib.hid (by rw [← HE2.out]; simp only [app_bytes, jsB_list]; simp), HB5, HK5, by omega⟩
          · have HE2 : Hid ((S.data.toList ++ ([44] ++ (jsQ key ++ (58 :: jsT TJ)))) ++ jsP (ks.drop (j + 1)) (its.drop (j + 1)) (decide (j + 1 = 0)) = X) := Lib.hid (by
              rw [← HE.out, jsP_drop hjk hjl, hTJ, hkey]
              rw [decide_eq_false hj0]
              simp)
            have q0 : (0 : Int) < (j : Int) := by omega
            have hsum := congrArg List.length HE2.out
            simp only [List.length_append, List.length_cons, List.length_nil] at hsum
            have hSz : S.data.toList.length = S.size := by simp
            have hJz : (jsT TJ).length = (jsB TJ).size := (jsB_size TJ).symm
            have hTl : (jsT TJ).length ≤ 1000000000 := by omega
            have s0 : ¬ 9223372036854775807 < S.size + 1 := by omega
            have s1 : ¬ 9223372036854775807 < S.size + 1 + (jsQ key).length := by omega
            have s2 : ¬ 9223372036854775807 < S.size + 1 + (jsQ key).length + 1 := by omega
            have s3 : ¬ 9223372036854775807 < S.size + 1 + (jsQ key).length + 1 + (jsB TJ).size := by omega
            clear hii hiv hTJ hj0 HE hkey hkc hky
            have H5 := Lib.hid h5
            have HIH := Lib.hid hIH
            clear h5 hIH
            go_wp2_with (go_at_call 39; refine (HQ.out _).mono ?_; rintro e w2 ⟨rfl, hb2⟩; refine Hid.out ?_)
            refine Lib.hid ?_
            have HBX : Hid (Below W.heap.size W w2) := Lib.hid (HB4.out.trans (hb2.mono HB4.out.size))
            have HKX := Lib.hid (HK4.out.below hb2)
            have hBw2 : Below B w w2 := HBW.out.trans (HBX.out.mono hBW)
            have h52 := H5.out.below (B := wr.heap.size) (by have := HB4.out.size; omega) hb2
            have e0 := h52.1
            have e1 := h52.2.1
            have e2 := h52.2.2.1
            have e3 := h52.2.2.2.1
            have e4 := h52.2.2.2.2
            have d3 := HKX.out.cell 3
            have HU := Lib.hid (HIH.out hTl _ hBw2 (by have := HBX.out.size; omega))
            clear hb2 h52 k0 c0 c3 c4
            go_wp2_with (go_at_call 21; refine HU.out.mono ?_; rintro e w5 ⟨rfl, hb5⟩; refine Hid.out ?_)
            refine Lib.hid ?_
            have HB5 : Hid (Below W.heap.size W w5) := Lib.hid (HBX.out.trans (hb5.mono HBX.out.size))
            have HK5 := Lib.hid (HKX.out.below hb5)
            clear hb5
            go_wp2_with fail
            go_roundg g2'
            case measure => omega
            case rel => exact ⟨j + 1, S ++ ⟨#[44]⟩ ++ ⟨(jsQ key).toArray⟩ ++ ⟨#[58]⟩ ++ jsB TJ, by go_num, rfl, by omega, Lib.hid (by rw [← HE2.out]; simp only [app_bytes, jsB_list]; simp), HB5, HK5, by omega⟩
        · have hje : j = len := by omega
          have HXE : Hid (S.data.toList = X) := Lib.hid (by
            rw [← HE.out, hje, ← HL.out, List.drop_length]
            rw [List.drop_of_length_le (by rw [HK.out, HLK.out, HL.out]; exact Nat.le_refl _)]; unfold jsP
            simp)
          have i2 : ¬ (j : Int) < (len : Int) := by omega
          have hSz : S.size ≤ 1000000000 := by
            have h1 := congrArg List.length HXE.out
            have h2 : S.data.toList.length = S.size := by simp
            omega
          have s1 : ¬ 9223372036854775807 < 1 + S.size := by omega
          have s2 : ¬ 9223372036854775807 < 1 + S.size + 1 := by omega
          clear HE hje
          go_wp2
          go_ret
          have hB : (⟨#[123]⟩ ++ S ++ ⟨#[125]⟩ : ByteArray) = ⟨(123 :: (X ++ [125])).toArray⟩ := bytes_eq (by rw [← HXE.out]; simp)
          rw [HT.out, ← hB]
          exact ⟨rfl, HB4.out⟩
end Go.Proofs.YtcbcjeabpjjhbaaGreatDoor
