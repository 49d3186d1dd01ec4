/- A pair whose value is wrong -/
import Derived.Test.YtnmfoedfllmclaaGreatDoorJr34
namespace Go.Proofs.YtnmfoedfllmclaaGreatDoor
open Go.RowKit Go.Shelf Go.Sort
set_option linter.unusedVariables false
set_option linter.unusedSimpArgs false

set_option maxRecDepth 100000 in
set_option maxHeartbeats 8000000 in
theorem pair_val {H P a n d n' : Nat} {dep : Int} {W : World} {t : ByteArray} {kv v : Value} {yy : List It} {st : List (ByteArray × VT)} {ks : List ByteArray} (h : Rdr W P t a n) (hR : ReadyJ W) (hP7 : 7 ≤ P) (hPH : P < H) (hks : st.map Prod.fst = ks) (hyy : yy.map It.T = st.map Prod.snd) (hst : JObjAt H P dep W ks ks kv v yy) (hlen2 : ks.length ≤ 10000) (hd0 : 0 ≤ dep) (hd1 : dep ≤ 100) (hsm : ∀ x ∈ ks, x.size ≤ 16384) {kk : ByteArray} {R1 R' : List UInt8} {T : VT} {b : Bad} (hr : keyJ ks (rest t a) = .ok (kk, R1)) (hc : Lib.hasPrefix (skipB R1) [58] = true) (hvr : valJ d ((skipB R1).drop 1) n = .error b) (hv : ∀ W a n, Rdr W P t a n → ReadyJ W → Calls Tryz.prog 41 #[.pointer (some ⟨P, 0, none⟩), .int .i64 (dep + 1)] W (VEnds W P t (valJ d (rest t a) n))) :
    Calls Tryz.prog 79 #[.pointer (some ⟨H + 3, 0, none⟩), .pointer (some ⟨H, 0, none⟩), .pointer (some ⟨H + 6, 0, none⟩), .pointer (some ⟨H + 4, 0, none⟩), .pointer (some ⟨H + 1, 0, none⟩)] W (CEnds H W P t (ObjSt2 H P dep) (pairJ (valJ d) st (rest t a) n)) := by
  obtain ⟨iV, zV, hiV, hzV, hzV5, hsV, hbV⟩ := info_val
  have hzs : zV.cells.size = 5 := by rw [hzV5]; rfl
  clear hzV5
  obtain ⟨iS, zS, hiS, hzS, hzS1, hsS, hbS⟩ := info_strg
  have hzsS : zS.cells.size = 1 := by rw [hzS1]; rfl
  clear hzS1
  obtain ⟨adk, capk, hkv⟩ := row_shape hst.krow
  obtain ⟨ad, cap, hv0⟩ := row_shape hst.row
  have hyl : yy.length = ks.length := by
    have := congrArg List.length hyy
    rw [List.length_map, List.length_map] at this
    rw [this, ← hks, List.length_map]
  obtain ⟨k, hk⟩ : ∃ k, ks.length = k := ⟨_, rfl⟩
  have hyk : yy.length = k := hyl.trans hk
  rw [hk] at hkv hlen2
  rw [hyk] at hv0
  subst hkv
  subst hv0
  have HK := Lib.hid hk
  have HYK := Lib.hid hyk
  have HL := Lib.hid hst
  have HSM := Lib.hid hsm
  have HYY := Lib.hid hyy
  have HKS := Lib.hid hks
  have hHW : H + 7 ≤ W.heap.size := by have := hst.sbox.lt; omega
  have HBW : Hid (∀ X, AsideB (H + 7) P W X → Below (H + 7) W X → Rdr X P t a n ∧ ReadyJ X ∧ SeenAt X (H + 5) ks) := Lib.hid (fun X _ hb => ⟨⟨(hb.block P (by omega)).trans h.1, h.2⟩, hR.below7 ⟨hb.os, hb.tape, hb.output, hb.size, fun k hk => hb.block k (by omega)⟩, hst.seen.same (hb.block _ (by omega))⟩)
  obtain ⟨r0, hr0⟩ : ∃ r0, keyJ ks (rest t a) = r0 := ⟨_, rfl⟩
  have HKC : Hid (Calls Tryz.prog 80 #[.pointer (some ⟨P, 0, none⟩), .map (some (H + 5))] W.drew (KEnds W.drew P (H + 5) t n ks r0)) := Lib.hid (by
    have hb : Below (H + 7) W W.drew := (below_drew W).mono hHW
    have := HBW.out W.drew (AsideB.ofBelow hb) hb
    rw [← hr0]
    exact key_any this.1 this.2.1 hP7 this.2.2 (by omega) (by rw [hk]; exact hlen2))
  rw [← hks] at hr0
  obtain rfl : r0 = .ok (kk, R1) := by rw [← hr0, hks]; exact hr
  have HQ := Lib.hid hr0
  have HRR := Lib.hid hR
  have hkk := keyJ_size hr
  clear h hst hr hr0 hks hyy hyl hk hyk hsm
  go_enter Tryz.func79, Tryz.ntmps79
  go_upto_region 0 with fail
  go_cut [] (fun wx => Keyed H P dep W wx t n ks kk R1 (.slice ad k cap) yy)
  case first =>
    obtain ⟨W0, hW0⟩ : ∃ W0, W.drew = W0 := ⟨_, rfl⟩
    rw [hW0] at HKC
    have HL0 : Hid (JObjAt H P dep W0 ks ks (.slice adk k capk) (.slice ad k cap) yy) := by rw [← hW0]; exact Lib.hid (HL.out.aside (Aside.of (below_drew W)) hPH)
    have HA0 : Hid (AsideB H P W W0) := by rw [← hW0]; exact Lib.hid ((Aside.of (below_drew W)).toB (by omega))
    have hz0 : H + 7 ≤ W0.heap.size := by rw [← hW0]; exact hHW
    have hn3 : ¬ H = H + 3 := by omega
    have hn63 : ¬ H + 6 = H + 3 := by omega
    have c0 := HL0.out.rp.cell 0
    have c6 := HL0.out.sbox.cell 0
    have c3 := HL0.out.kbox.cell 0
    have hz0' : H ≤ W0.heap.size := by omega
    refine wp_region_held_drew (S := fun w' => w'.cell? ⟨H, 0, none⟩ = some (.pointer (some ⟨P, 0, none⟩)) ∧ w'.cell? ⟨H + 6, 0, none⟩ = some (.map (some (H + 5)))) (by kernel_rfl) ?_ (fun hHeld => ?_)
    · rw [hW0]; exact ⟨c0, c6⟩
    rw [hW0] at hHeld ⊢
    refine wpAnyH_take (i := 1) (oi := _) (v := ?f_v1) rfl (by kernel_rfl) (by kernel_rfl) (by kernel_rfl) (fun _ _ _ h => h) (Or.inl ⟨by rfl, ?f_y1⟩) (by assumption) ?f_r1
    case f_y1 => (intro w hSw; (try dsimp only at hSw); go_simp; (try with_reducible rfl))
    try simp only [Act.put, List.setIfInBounds_toArray, List.set_cons_zero, List.set_cons_succ]
    refine wpAnyH_take (i := 2) (oi := _) (v := ?f_v2) rfl (by kernel_rfl) (by kernel_rfl) (by kernel_rfl) (fun _ _ _ h => h) (Or.inl ⟨by rfl, ?f_y2⟩) (by assumption) ?f_r2
    case f_y2 => (intro w hSw; (try dsimp only at hSw); go_simp; (try with_reducible rfl))
    try simp only [Act.put, List.setIfInBounds_toArray, List.set_cons_zero, List.set_cons_succ]
    refine wpAnyH_ready (rs := [0, 3]) (by kernel_rfl) (by simp) ?_
    refine AllReadyH.cons (o := _) rfl (fun K hK => ?_) ?_
    · go_simp
      refine hK.out _ _ ⟨c0, c6⟩ (fun hHeld => ?_)
      clear hK K
      try simp only [Act.put, List.setIfInBounds_toArray, List.set_cons_zero, List.set_cons_succ]
      refine wpAnyH_ready (rs := [3]) (by kernel_rfl) (by simp) ?_
      refine AllReadyH.cons (o := _) rfl (fun K hK => ?_) ?_
      · go_simp
        go_at_call 80; refine HKC.out.mono ?_; rintro e w5 ⟨rfl, hk16, a1, hoff, hrd5, hr5, hseen5⟩
        have HL5 := Lib.hid (HL0.out.off hoff hseen5 hPH)
        have d0 := HL5.out.rp.cell 0
        have d6 := HL5.out.sbox.cell 0
        have d3 := HL5.out.kbox.cell 0
        have HL6 := Lib.hid (HL5.out.aside (Aside.of (below_new0 w5 (.cells #[.string kk] 9))) hPH)
        have da0 := HL6.out.rp.cell 0
        have da6 := HL6.out.sbox.cell 0
        have da3 := HL6.out.kbox.cell 0
        have hrow6 := HL6.out.krow
        rw [HK.out] at hrow6
        have hb6 : H + 7 ≤ (w5.alloc (.cells #[.string kk] 9)).heap.size := by have := hoff.size; have := (below_new0 w5 (.cells #[.string kk] 9)).size; omega
        have hnews6 := news1 (Blk.new w5 #[.string kk] 9)
        have HOFF := Lib.hid hoff
        have HRD5 := Lib.hid hrd5
        have HR5 := Lib.hid hr5
        clear hoff hrd5 hr5 hseen5
        refine hK.out _ _ ⟨d0, d6⟩ (fun hHeld => ?_)
        clear hK K
        try simp only [Act.put, List.setIfInBounds_toArray, List.set_cons_zero, List.set_cons_succ]
        refine wpAnyH_ready (rs := [4]) (by kernel_rfl) (by simp) ?_
        refine AllReadyH.cons (o := _) rfl (fun K hK => ?_) ?_
        · go_simp
          refine hK.out _ _ ⟨da0, da6⟩ (fun hHeld => ?_)
          clear hK K
          try simp only [Act.put, List.setIfInBounds_toArray, List.set_cons_zero, List.set_cons_succ]
          refine wpAnyH_ready (rs := [5]) (by kernel_rfl) (by simp) ?_
          refine AllReadyH.cons (o := _) rfl (fun K hK => ?_) ?_
          · refine app_key Tryz.underlying24 hiS hzS hsS hbS hzsS rfl rfl rfl hrow6 rfl hnews6 hlen2 hb6 ?_
            intro g2 cap2 w7 hown7 hgrow7 hat7 hlt7
            have he := cells3 HL6.out hgrow7
            obtain ⟨e0, e6, e3, f3⟩ := he
            have HO7 := Lib.hid hown7
            have HG7 := Lib.hid (And.intro hgrow7 hat7)
            clear hown7 hgrow7 hat7
            refine hK.out _ _ ⟨e0, e6⟩ (fun hHeld => ?_)
            clear hK K
            try simp only [Act.put, List.setIfInBounds_toArray, List.set_cons_zero, List.set_cons_succ]
            refine wpAnyH_ready (rs := [6]) (by kernel_rfl) (by simp) ?_
            refine AllReadyH.cons (o := _) rfl (fun K hK => ?_) ?_
            · go_simp
              refine hK.out _ _ (held_set hHeld hn3 hn63) (fun hHeld => ?_)
              clear hK K
              try simp only [Act.put, List.setIfInBounds_toArray, List.set_cons_zero, List.set_cons_succ]
              refine wpAnyH_done (by kernel_rfl) ?_ _
              go_wp2_with fail
              go_meet
              exact keyed_of HK.out hPH HA0.out hz0 HOFF.out HRD5.out HR5.out HL5.out HO7.out HG7.out.1 HG7.out.2
            exact AllReadyH.nil
          exact AllReadyH.nil
        exact AllReadyH.nil
      exact AllReadyH.nil
    refine AllReadyH.cons (o := _) rfl (fun K hK => ?_) ?_
    · go_simp
      go_at_call 80; refine HKC.out.mono ?_; rintro e w5 ⟨rfl, hk16, a1, hoff, hrd5, hr5, hseen5⟩
      have HL5 := Lib.hid (HL0.out.off hoff hseen5 hPH)
      have d0 := HL5.out.rp.cell 0
      have d6 := HL5.out.sbox.cell 0
      have d3 := HL5.out.kbox.cell 0
      have HL6 := Lib.hid (HL5.out.aside (Aside.of (below_new0 w5 (.cells #[.string kk] 9))) hPH)
      have da0 := HL6.out.rp.cell 0
      have da6 := HL6.out.sbox.cell 0
      have da3 := HL6.out.kbox.cell 0
      have hrow6 := HL6.out.krow
      rw [HK.out] at hrow6
      have hb6 : H + 7 ≤ (w5.alloc (.cells #[.string kk] 9)).heap.size := by have := hoff.size; have := (below_new0 w5 (.cells #[.string kk] 9)).size; omega
      have hnews6 := news1 (Blk.new w5 #[.string kk] 9)
      have HOFF := Lib.hid hoff
      have HRD5 := Lib.hid hrd5
      have HR5 := Lib.hid hr5
      clear hoff hrd5 hr5 hseen5
      refine hK.out _ _ ⟨d0, d6⟩ (fun hHeld => ?_)
      clear hK K
      try simp only [Act.put, List.setIfInBounds_toArray, List.set_cons_zero, List.set_cons_succ]
      refine wpAnyH_ready (rs := [0, 4]) (by kernel_rfl) (by simp) ?_
      refine AllReadyH.cons (o := _) rfl (fun K hK => ?_) ?_
      · go_simp
        refine hK.out _ _ ⟨d0, d6⟩ (fun hHeld => ?_)
        clear hK K
        try simp only [Act.put, List.setIfInBounds_toArray, List.set_cons_zero, List.set_cons_succ]
        refine wpAnyH_ready (rs := [4]) (by kernel_rfl) (by simp) ?_
        refine AllReadyH.cons (o := _) rfl (fun K hK => ?_) ?_
        · go_simp
          refine hK.out _ _ ⟨da0, da6⟩ (fun hHeld => ?_)
          clear hK K
          try simp only [Act.put, List.setIfInBounds_toArray, List.set_cons_zero, List.set_cons_succ]
          refine wpAnyH_ready (rs := [5]) (by kernel_rfl) (by simp) ?_
          refine AllReadyH.cons (o := _) rfl (fun K hK => ?_) ?_
          · refine app_key Tryz.underlying24 hiS hzS hsS hbS hzsS rfl rfl rfl hrow6 rfl hnews6 hlen2 hb6 ?_
            intro g2 cap2 w7 hown7 hgrow7 hat7 hlt7
            have he := cells3 HL6.out hgrow7
            obtain ⟨e0, e6, e3, f3⟩ := he
            have HO7 := Lib.hid hown7
            have HG7 := Lib.hid (And.intro hgrow7 hat7)
            clear hown7 hgrow7 hat7
            refine hK.out _ _ ⟨e0, e6⟩ (fun hHeld => ?_)
            clear hK K
            try simp only [Act.put, List.setIfInBounds_toArray, List.set_cons_zero, List.set_cons_succ]
            refine wpAnyH_ready (rs := [6]) (by kernel_rfl) (by simp) ?_
            refine AllReadyH.cons (o := _) rfl (fun K hK => ?_) ?_
            · go_simp
              refine hK.out _ _ (held_set hHeld hn3 hn63) (fun hHeld => ?_)
              clear hK K
              try simp only [Act.put, List.setIfInBounds_toArray, List.set_cons_zero, List.set_cons_succ]
              refine wpAnyH_done (by kernel_rfl) ?_ _
              go_wp2_with fail
              go_meet
              exact keyed_of HK.out hPH HA0.out hz0 HOFF.out HRD5.out HR5.out HL5.out HO7.out HG7.out.1 HG7.out.2
            exact AllReadyH.nil
          exact AllReadyH.nil
        exact AllReadyH.nil
      refine AllReadyH.cons (o := _) rfl (fun K hK => ?_) ?_
      · go_simp
        refine hK.out _ _ ⟨da0, da6⟩ (fun hHeld => ?_)
        clear hK K
        try simp only [Act.put, List.setIfInBounds_toArray, List.set_cons_zero, List.set_cons_succ]
        refine wpAnyH_ready (rs := [0]) (by kernel_rfl) (by simp) ?_
        refine AllReadyH.cons (o := _) rfl (fun K hK => ?_) ?_
        · go_simp
          refine hK.out _ _ ⟨da0, da6⟩ (fun hHeld => ?_)
          clear hK K
          try simp only [Act.put, List.setIfInBounds_toArray, List.set_cons_zero, List.set_cons_succ]
          refine wpAnyH_ready (rs := [5]) (by kernel_rfl) (by simp) ?_
          refine AllReadyH.cons (o := _) rfl (fun K hK => ?_) ?_
          · refine app_key Tryz.underlying24 hiS hzS hsS hbS hzsS rfl rfl rfl hrow6 rfl hnews6 hlen2 hb6 ?_
            intro g2 cap2 w7 hown7 hgrow7 hat7 hlt7
            have he := cells3 HL6.out hgrow7
            obtain ⟨e0, e6, e3, f3⟩ := he
            have HO7 := Lib.hid hown7
            have HG7 := Lib.hid (And.intro hgrow7 hat7)
            clear hown7 hgrow7 hat7
            refine hK.out _ _ ⟨e0, e6⟩ (fun hHeld => ?_)
            clear hK K
            try simp only [Act.put, List.setIfInBounds_toArray, List.set_cons_zero, List.set_cons_succ]
            refine wpAnyH_ready (rs := [6]) (by kernel_rfl) (by simp) ?_
            refine AllReadyH.cons (o := _) rfl (fun K hK => ?_) ?_
            · go_simp
              refine hK.out _ _ (held_set hHeld hn3 hn63) (fun hHeld => ?_)
              clear hK K
              try simp only [Act.put, List.setIfInBounds_toArray, List.set_cons_zero, List.set_cons_succ]
              refine wpAnyH_done (by kernel_rfl) ?_ _
              go_wp2_with fail
              go_meet
              exact keyed_of HK.out hPH HA0.out hz0 HOFF.out HRD5.out HR5.out HL5.out HO7.out HG7.out.1 HG7.out.2
            exact AllReadyH.nil
          exact AllReadyH.nil
        exact AllReadyH.nil
      exact AllReadyH.nil
    exact AllReadyH.nil
  case rest =>
    obtain ⟨w2, hw2⟩ : ∃ w2 : World, w2 = wc := ⟨_, rfl⟩
    subst hw2
    obtain ⟨a1, g1, cap1, hw2, hr2, hj2⟩ := hcut
    have HW2 := Lib.hid hw2
    have HR2 := Lib.hid hr2
    have HJ2 := Lib.hid hj2
    have HRW2 := Lib.hid (HRR.out.asideB hw2.1 hP7 (by omega))
    have c0 := hj2.rp.cell 0
    clear hw2 hr2 hj2 HKC HL HBW HRR
    have HI := Lib.hid (pairJ_val (rd := valJ d) (n := n) HQ.out hc hvr)
    have HY := Lib.hid (want_yes HW2.out.2 (q := 58) (by rw [HR2.out]; exact hc))
    clear hc
    go_wp2_with (go_at_call 81; refine HY.out.mono ?_; rintro e w3 ⟨rfl, a3, hw3, hr3⟩)
    rw [HR2.out] at hr3
    have HA3 := Lib.hid (HW2.out.1.trans (hw3.1.toB (by have := HJ2.out.sbox.lt; omega)))
    have HL := Lib.hid (HJ2.out.aside hw3.1 hPH)
    have HB3 := Lib.hid hw3.2
    have HRW3 := Lib.hid (HRW2.out.aside hw3.1 hP7)
    have hHW3 : H + 7 ≤ w3.heap.size := by have := HL.out.sbox.lt; omega
    have i0 : (0 : Int) ≤ (k : Int) := by omega
    have i1 : (k : Int) < (k : Int) + 1 := by omega
    have i2 : (k : Int) < ((k + 1 : Nat) : Int) := by omega
    have hmx : k + 1 ≤ maxLen := by unfold maxLen; omega
    have hcb : (k + 1) * 80 ≤ 140737488355328 := by omega
    have hd : IntKind.i64.wrap (dep + 1) = dep + 1 := IntWalk.i64_in _ (by omega)
    have HV2 : Hid (∀ X, Below (H + 7) w3 X → Calls Tryz.prog 41 #[.pointer (some ⟨P, 0, none⟩), .int .i64 (dep + 1)] X (Thrown X P t b)) := Lib.hid (fun X hb => by
      have := hv X a3 n ⟨(hb.block P (by omega)).trans HB3.out.1, HB3.out.2⟩ (HRW3.out.below7 ⟨hb.os, hb.tape, hb.output, hb.size, fun k hk => hb.block k (by omega)⟩)
      rw [hr3, hvr] at this
      exact this)
    clear hw3 hr3 hvr hv c0
    go_wp2_with fail
    obtain ⟨W0, hW0⟩ : ∃ W0, w3.drew = W0 := ⟨_, rfl⟩
    have HL0 : Hid (JObjAt H P dep W0 (ks ++ [kk]) (ks ++ [kk]) (.slice (some ⟨g1, 0, none⟩) (ks.length + 1) cap1) (.slice ad k cap) yy) := by rw [← hW0]; exact Lib.hid (HL.out.aside (Aside.of (below_drew w3)) hPH)
    have HB0 : Hid (Below (H + 7) w3 W0) := by rw [← hW0]; exact Lib.hid ((below_drew w3).mono hHW3)
    have HA0 : Hid (AsideB H P W W0) := by rw [← hW0]; exact Lib.hid (HA3.out.trans ((Aside.of (below_drew w3)).toB (by omega)))
    have hnv0 : ¬ H = H + 4 := by omega
    have hnv1 : ¬ H + 1 = H + 4 := by omega
    have hz0 : H + 7 ≤ W0.heap.size := by rw [← hW0]; exact hHW3
    have c0 := HL0.out.rp.cell 0
    have c1 := HL0.out.dp.cell 0
    have c3 := HL0.out.box.cell 0
    have HLZ := Lib.hid (HL0.out.aside (Aside.of (below_new0 W0 (.cells #[.int .i64 0, .bool false, .string ⟨#[]⟩, .slice none 0 0, .slice none 0 0] 26))) hPH)
    have HBZ : Hid (Below (H + 7) w3 (W0.alloc (.cells #[.int .i64 0, .bool false, .string ⟨#[]⟩, .slice none 0 0, .slice none 0 0] 26))) := Lib.hid (HB0.out.trans ((below_new0 W0 _).mono hz0))
    have HBLK := Lib.hid (Blk.new W0 #[.int .i64 0, .bool false, .string ⟨#[]⟩, .slice none 0 0, .slice none 0 0] 26)
    have hbz : ∀ X : World, H + 7 ≤ X.heap.size → H + 7 ≤ (X.alloc (.cells #[.int .i64 0, .bool false, .string ⟨#[]⟩, .slice none 0 0, .slice none 0 0] 26)).heap.size := fun X h => Nat.le_trans h (below_new0 X _).size
    have hb0z := hbz W0 hz0
    have HBZ9 := Lib.hid hbz
    clear hbz
    have hnews0 := news5 HBLK.out
    have hrow0 := HLZ.out.row
    have c3z := HLZ.out.box.cell 0
    have ca0 := HLZ.out.rp.cell 0
    have ca1 := HLZ.out.dp.cell 0
    rw [HYK.out] at hrow0
    have hz0' : H ≤ W0.heap.size := by omega
    have HAZ : Hid (AsideB H P W (W0.alloc (.cells #[.int .i64 0, .bool false, .string ⟨#[]⟩, .slice none 0 0, .slice none 0 0] 26))) := Lib.hid (HA0.out.trans ((Aside.of (below_new0 W0 _)).toB hz0'))
    refine wp_region_held_drew (S := fun w' => w'.cell? ⟨H, 0, none⟩ = some (.pointer (some ⟨P, 0, none⟩)) ∧ w'.cell? ⟨H + 1, 0, none⟩ = some (.int .i64 dep)) (by kernel_rfl) ?_ (fun hHeld => ?_)
    · rw [hW0]; exact ⟨c0, c1⟩
    rw [hW0] at hHeld ⊢
    refine wpAnyH_take (i := 1) (oi := _) (v := ?e_v1) rfl (by kernel_rfl) (by kernel_rfl) (by kernel_rfl) (fun _ _ _ h => h) (Or.inl ⟨by rfl, ?e_y1⟩) (by assumption) ?e_r1
    case e_y1 => (intro w hSw; (try dsimp only at hSw); go_simp; (try with_reducible rfl))
    try simp only [Act.put, List.setIfInBounds_toArray, List.set_cons_zero, List.set_cons_succ]
    refine wpAnyH_take (i := 2) (oi := _) (v := ?e_v2) rfl (by kernel_rfl) (by kernel_rfl) (by kernel_rfl) (fun _ _ _ h => h) (Or.inl ⟨by rfl, ?e_y2⟩) (by assumption) ?e_r2
    case e_y2 => (intro w hSw; (try dsimp only at hSw); go_simp; (try with_reducible rfl))
    try simp only [Act.put, List.setIfInBounds_toArray, List.set_cons_zero, List.set_cons_succ]
    refine wpAnyH_take (i := 3) (oi := _) (v := ?e_v3) rfl (by kernel_rfl) (by kernel_rfl) (by kernel_rfl) (fun _ _ _ h => h) (Or.inl ⟨by rfl, ?e_y3⟩) (by assumption) ?e_r3
    case e_y3 => (intro w hSw; (try dsimp only at hSw); go_simp; (try with_reducible rfl))
    try simp only [Act.put, List.setIfInBounds_toArray, List.set_cons_zero, List.set_cons_succ]
    refine wpAnyH_ready (rs := [0, 4, 6]) (by kernel_rfl) (by simp) ?_
    refine AllReadyH.cons (o := _) rfl (fun K hK => ?_) ?_
    · go_simp
      refine hK.out _ _ ⟨c0, c1⟩ (fun hHeld => ?_)
      clear hK K
      try simp only [Act.put, List.setIfInBounds_toArray, List.set_cons_zero, List.set_cons_succ]
      refine wpAnyH_take (i := 5) (oi := _) (v := ?e_v4) rfl (by kernel_rfl) (by kernel_rfl) (by kernel_rfl) (fun _ _ _ h => h) (Or.inl ⟨by rfl, ?e_y4⟩) (by assumption) ?e_r4
      case e_y4 => (intro w hSw; (try dsimp only at hSw); go_simp; (try with_reducible rfl))
      try simp only [Act.put, List.setIfInBounds_toArray, List.set_cons_zero, List.set_cons_succ]
      refine wpAnyH_ready (rs := [4, 6]) (by kernel_rfl) (by simp) ?_
      refine AllReadyH.cons (o := _) rfl (fun K hK => ?_) ?_
      · go_simp
        go_at_call 41; refine (HV2.out _ HB0.out).mono ?_; rintro e w5 ⟨D, rfl, h1, h2, h3⟩
        refine ⟨rfl, ?_⟩
        rw [HI.out]
        exact ThrownB.after (Thrown.toB ⟨D, rfl, h1, h2, h3⟩ hz0') HA0.out
      refine AllReadyH.cons (o := _) rfl (fun K hK => ?_) ?_
      · go_simp
        refine hK.out _ _ ⟨ca0, ca1⟩ (fun hHeld => ?_)
        clear hK K
        try simp only [Act.put, List.setIfInBounds_toArray, List.set_cons_zero, List.set_cons_succ]
        refine wpAnyH_ready (rs := [4]) (by kernel_rfl) (by simp) ?_
        refine AllReadyH.cons (o := _) rfl (fun K hK => ?_) ?_
        · go_simp
          go_at_call 41; refine (HV2.out _ HBZ.out).mono ?_; rintro e w5 ⟨D, rfl, h1, h2, h3⟩
          refine ⟨rfl, ?_⟩
          rw [HI.out]
          exact ThrownB.after (Thrown.toB ⟨D, rfl, h1, h2, h3⟩ (Nat.le_trans hz0' (below_new0 W0 _).size)) HAZ.out
        exact AllReadyH.nil
      exact AllReadyH.nil
    refine AllReadyH.cons (o := _) rfl (fun K hK => ?_) ?_
    · go_simp
      go_at_call 41; refine (HV2.out _ HB0.out).mono ?_; rintro e w5 ⟨D, rfl, h1, h2, h3⟩
      refine ⟨rfl, ?_⟩
      rw [HI.out]
      exact ThrownB.after (Thrown.toB ⟨D, rfl, h1, h2, h3⟩ hz0') HA0.out
    refine AllReadyH.cons (o := _) rfl (fun K hK => ?_) ?_
    · go_simp
      refine hK.out _ _ ⟨ca0, ca1⟩ (fun hHeld => ?_)
      clear hK K
      try simp only [Act.put, List.setIfInBounds_toArray, List.set_cons_zero, List.set_cons_succ]
      refine wpAnyH_ready (rs := [0, 4]) (by kernel_rfl) (by simp) ?_
      refine AllReadyH.cons (o := _) rfl (fun K hK => ?_) ?_
      · go_simp
        refine hK.out _ _ ⟨ca0, ca1⟩ (fun hHeld => ?_)
        clear hK K
        try simp only [Act.put, List.setIfInBounds_toArray, List.set_cons_zero, List.set_cons_succ]
        refine wpAnyH_take (i := 5) (oi := _) (v := ?e_v5) rfl (by kernel_rfl) (by kernel_rfl) (by kernel_rfl) (fun _ _ _ h => h) (Or.inl ⟨by rfl, ?e_y5⟩) (by assumption) ?e_r5
        case e_y5 => (intro w hSw; (try dsimp only at hSw); go_simp; (try with_reducible rfl))
        try simp only [Act.put, List.setIfInBounds_toArray, List.set_cons_zero, List.set_cons_succ]
        refine wpAnyH_ready (rs := [4]) (by kernel_rfl) (by simp) ?_
        refine AllReadyH.cons (o := _) rfl (fun K hK => ?_) ?_
        · go_simp
          go_at_call 41; refine (HV2.out _ HBZ.out).mono ?_; rintro e w5 ⟨D, rfl, h1, h2, h3⟩
          refine ⟨rfl, ?_⟩
          rw [HI.out]
          exact ThrownB.after (Thrown.toB ⟨D, rfl, h1, h2, h3⟩ (Nat.le_trans hz0' (below_new0 W0 _).size)) HAZ.out
        exact AllReadyH.nil
      refine AllReadyH.cons (o := _) rfl (fun K hK => ?_) ?_
      · go_simp
        go_at_call 41; refine (HV2.out _ HBZ.out).mono ?_; rintro e w5 ⟨D, rfl, h1, h2, h3⟩
        refine ⟨rfl, ?_⟩
        rw [HI.out]
        exact ThrownB.after (Thrown.toB ⟨D, rfl, h1, h2, h3⟩ (Nat.le_trans hz0' (below_new0 W0 _).size)) HAZ.out
      exact AllReadyH.nil
    exact AllReadyH.nil
end Go.Proofs.YtnmfoedfllmclaaGreatDoor
