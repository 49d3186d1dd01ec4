/- A pair without a colon -/
import Derived.Test.YtcbcjeabpjjhbaaGreatDoorJb30
namespace Go.Proofs.YtcbcjeabpjjhbaaGreatDoor
open Go.RowKit Go.Shelf Go.Sort
set_option linter.unusedVariables false
set_option linter.unusedSimpArgs false

theorem info_strg : ∃ iV zV, Tryz.prog.info? 9 = some iV ∧ iV.zero = some zV ∧ zV = .string ⟨#[]⟩ ∧ iV.size = 1 ∧ iV.bytes = 16 := by
  have h := info_str1
  cases hi : Tryz.prog.info? 9 with
  | none => rw [hi] at h; cases h
  | some iV =>
    rw [hi] at h
    simp only [Option.map_some, Option.some.injEq, Prod.mk.injEq] at h
    exact ⟨iV, .string ⟨#[]⟩, rfl, h.1, rfl, h.2.1, h.2.2⟩
theorem keyJ_size {ks : List ByteArray} {R R' : List UInt8} {k : ByteArray} (h : keyJ ks R = .ok (k, R')) : k.size ≤ 16384 := by
  unfold keyJ at h
  split at h
  · split at h
    · cases h
    · rename_i hq
      split at h
      · cases h
      · cases h
        exact quotedJ_size hq
  · cases h
set_option maxRecDepth 100000 in
set_option maxHeartbeats 8000000 in
theorem pair_colon {H P a n d n' : Nat} {dep : Int} {W : World} {t : ByteArray} {kv v : Value} {yy : List It} {st : List (ByteArray × VT)} {ks : List ByteArray} (h : Rdr W P t a n) (hR : ReadyJ W) (hP7 : 7 ≤ P) (hPH : P < H) (hks : st.map Prod.fst = ks) (hyy : yy.map It.T = st.map Prod.snd) (hst : JObjAt H P dep W ks ks kv v yy) (hlen2 : ks.length ≤ 10000) (hd0 : 0 ≤ dep) (hd1 : dep ≤ 100) (hsm : ∀ x ∈ ks, x.size ≤ 16384) {kk : ByteArray} {R1 R' : List UInt8} {T : VT} {b : Bad} (hr : keyJ ks (rest t a) = .ok (kk, R1)) (hc : Lib.hasPrefix (skipB R1) [58] = false) :
    Calls Tryz.prog 79 #[.pointer (some ⟨H + 3, 0, none⟩), .pointer (some ⟨H, 0, none⟩), .pointer (some ⟨H + 6, 0, none⟩), .pointer (some ⟨H + 4, 0, none⟩), .pointer (some ⟨H + 1, 0, none⟩)] W (CEnds H W P t (ObjSt2 H P dep) (pairJ (valJ d) st (rest t a) n)) := by
  obtain ⟨iV, zV, hiV, hzV, hzV5, hsV, hbV⟩ := info_val
  have hzs : zV.cells.size = 5 := by rw [hzV5]; rfl
  clear hzV5
  obtain ⟨iS, zS, hiS, hzS, hzS1, hsS, hbS⟩ := info_strg
  have hzsS : zS.cells.size = 1 := by rw [hzS1]; rfl
  clear hzS1
  obtain ⟨adk, capk, hkv⟩ := row_shape hst.krow
  obtain ⟨ad, cap, hv0⟩ := row_shape hst.row
  have hyl : yy.length = ks.length := by
    have := congrArg List.length hyy
    rw [List.length_map, List.length_map] at this
    rw [this, ← hks, List.length_map]
  obtain ⟨k, hk⟩ : ∃ k, ks.length = k := ⟨_, rfl⟩
  have hyk : yy.length = k := hyl.trans hk
  rw [hk] at hkv hlen2
  rw [hyk] at hv0
  subst hkv
  subst hv0
  have HK := Lib.hid hk
  have HYK := Lib.hid hyk
  have HL := Lib.hid hst
  have HSM := Lib.hid hsm
  have HYY := Lib.hid hyy
  have HKS := Lib.hid hks
  have hHW : H + 7 ≤ W.heap.size := by have := hst.sbox.lt; omega
  have HBW : Hid (∀ X, AsideB (H + 7) P W X → Below (H + 7) W X → Rdr X P t a n ∧ ReadyJ X ∧ SeenAt X (H + 5) ks) := Lib.hid (fun X _ hb => ⟨⟨(hb.block P (by omega)).trans h.1, h.2⟩, hR.below7 ⟨hb.os, hb.tape, hb.output, hb.size, fun k hk => hb.block k (by omega)⟩, hst.seen.same (hb.block _ (by omega))⟩)
  obtain ⟨r0, hr0⟩ : ∃ r0, keyJ ks (rest t a) = r0 := ⟨_, rfl⟩
  have HKC : Hid (Calls Tryz.prog 80 #[.pointer (some ⟨P, 0, none⟩), .map (some (H + 5))] W.drew (KEnds W.drew P (H + 5) t n ks r0)) := Lib.hid (by
    have hb : Below (H + 7) W W.drew := (below_drew W).mono hHW
    have := HBW.out W.drew (AsideB.ofBelow hb) hb
    rw [← hr0]
    exact key_any this.1 this.2.1 hP7 this.2.2 (by omega) (by rw [hk]; exact hlen2))
  rw [← hks] at hr0
  obtain rfl : r0 = .ok (kk, R1) := by rw [← hr0, hks]; exact hr
  have HQ := Lib.hid hr0
  have HRR := Lib.hid hR
  have hkk := keyJ_size hr
  clear h hst hr hr0 hks hyy hyl hk hyk hsm
  go_enter Tryz.func79, Tryz.ntmps79
  go_upto_region 0 with fail
  go_cut [] (fun wx => Keyed H P dep W wx t n ks kk R1 (.slice ad k cap) yy)
  case first =>
    obtain ⟨W0, hW0⟩ : ∃ W0, W.drew = W0 := ⟨_, rfl⟩
    rw [hW0] at HKC
    have HL0 : Hid (JObjAt H P dep W0 ks ks (.slice adk k capk) (.slice ad k cap) yy) := by rw [← hW0]; exact Lib.hid (HL.out.aside (Aside.of (below_drew W)) hPH)
    have HA0 : Hid (AsideB H P W W0) := by rw [← hW0]; exact Lib.hid ((Aside.of (below_drew W)).toB (by omega))
    have hz0 : H + 7 ≤ W0.heap.size := by rw [← hW0]; exact hHW
    have hn3 : ¬ H = H + 3 := by omega
    have hn63 : ¬ H + 6 = H + 3 := by omega
    have c0 := HL0.out.rp.cell 0
    have c6 := HL0.out.sbox.cell 0
    have c3 := HL0.out.kbox.cell 0
    have hz0' : H ≤ W0.heap.size := by omega
    refine wp_region_held_drew (S := fun w' => w'.cell? ⟨H, 0, none⟩ = some (.pointer (some ⟨P, 0, none⟩)) ∧ w'.cell? ⟨H + 6, 0, none⟩ = some (.map (some (H + 5)))) (by kernel_rfl) ?_ (fun hHeld => ?_)
    · rw [hW0]; exact ⟨c0, c6⟩
    rw [hW0] at hHeld ⊢
    refine wpAnyH_take (i := 1) (oi := _) (v := ?f_v1) rfl (by kernel_rfl) (by kernel_rfl) (by kernel_rfl) (fun _ _ _ h => h) (Or.inl ⟨by rfl, ?f_y1⟩) (by assumption) ?f_r1
    case f_y1 => (intro w hSw; (try dsimp only at hSw); go_simp; (try with_reducible rfl))
    try simp only [Act.put, List.setIfInBounds_toArray, List.set_cons_zero, List.set_cons_succ]
    refine wpAnyH_take (i := 2) (oi := _) (v := ?f_v2) rfl (by kernel_rfl) (by kernel_rfl) (by kernel_rfl) (fun _ _ _ h => h) (Or.inl ⟨by rfl, ?f_y2⟩) (by assumption) ?f_r2
    case f_y2 => (intro w hSw; (try dsimp only at hSw); go_simp; (try with_reducible rfl))
    try simp only [Act.put, List.setIfInBounds_toArray, List.set_cons_zero, List.set_cons_succ]
    refine wpAnyH_ready (rs := [0, 3]) (by kernel_rfl) (by simp) ?_
    refine AllReadyH.cons (o := _) rfl (fun K hK => ?_) ?_
    · go_simp
      refine hK.out _ _ ⟨c0, c6⟩ (fun hHeld => ?_)
      clear hK K
      try simp only [Act.put, List.setIfInBounds_toArray, List.set_cons_zero, List.set_cons_succ]
      refine wpAnyH_ready (rs := [3]) (by kernel_rfl) (by simp) ?_
      refine AllReadyH.cons (o := _) rfl (fun K hK => ?_) ?_
      · go_simp
        go_at_call 80; refine HKC.out.mono ?_; rintro e w5 ⟨rfl, hk16, a1, hoff, hrd5, hr5, hseen5⟩
        have HL5 := Lib.hid (HL0.out.off hoff hseen5 hPH)
        have d0 := HL5.out.rp.cell 0
        have d6 := HL5.out.sbox.cell 0
        have d3 := HL5.out.kbox.cell 0
        have HL6 := Lib.hid (HL5.out.aside (Aside.of (below_new0 w5 (.cells #[.string kk] 9))) hPH)
        have da0 := HL6.out.rp.cell 0
        have da6 := HL6.out.sbox.cell 0
        have da3 := HL6.out.kbox.cell 0
        have hrow6 := HL6.out.krow
        rw [HK.out] at hrow6
        have hb6 : H + 7 ≤ (w5.alloc (.cells #[.string kk] 9)).heap.size := by have := hoff.size; have := (below_new0 w5 (.cells #[.string kk] 9)).size; omega
        have hnews6 := news1 (Blk.new w5 #[.string kk] 9)
        have HOFF := Lib.hid hoff
        have HRD5 := Lib.hid hrd5
        have HR5 := Lib.hid hr5
        clear hoff hrd5 hr5 hseen5
        refine hK.out _ _ ⟨d0, d6⟩ (fun hHeld => ?_)
        clear hK K
        try simp only [Act.put, List.setIfInBounds_toArray, List.set_cons_zero, List.set_cons_succ]
        refine wpAnyH_ready (rs := [4]) (by kernel_rfl) (by simp) ?_
        refine AllReadyH.cons (o := _) rfl (fun K hK => ?_) ?_
        · go_simp
          refine hK.out _ _ ⟨da0, da6⟩ (fun hHeld => ?_)
          clear hK K
          try simp only [Act.put, List.setIfInBounds_toArray, List.set_cons_zero, List.set_cons_succ]
          refine wpAnyH_ready (rs := [5]) (by kernel_rfl) (by simp) ?_
          refine AllReadyH.cons (o := _) rfl (fun K hK => ?_) ?_
          · refine app_key Tryz.underlying24 hiS hzS hsS hbS hzsS rfl rfl rfl hrow6 rfl hnews6 hlen2 hb6 ?_
            intro g2 cap2 w7 hown7 hgrow7 hat7 hlt7
            have he := cells3 HL6.out hgrow7
            obtain ⟨e0, e6, e3, f3⟩ := he
            have HO7 := Lib.hid hown7
            have HG7 := Lib.hid (And.intro hgrow7 hat7)
            clear hown7 hgrow7 hat7
            refine hK.out _ _ ⟨e0, e6⟩ (fun hHeld => ?_)
            clear hK K
            try simp only [Act.put, List.setIfInBounds_toArray, List.set_cons_zero, List.set_cons_succ]
            refine wpAnyH_ready (rs := [6]) (by kernel_rfl) (by simp) ?_
            refine AllReadyH.cons (o := _) rfl (fun K hK => ?_) ?_
            · go_simp
              refine hK.out _ _ (held_set hHeld hn3 hn63) (fun hHeld => ?_)
              clear hK K
              try simp only [Act.put, List.setIfInBounds_toArray, List.set_cons_zero, List.set_cons_succ]
              refine wpAnyH_done (by kernel_rfl) ?_ _
              go_wp2_with fail
              go_meet
              exact keyed_of HK.out hPH HA0.out hz0 HOFF.out HRD5.out HR5.out HL5.out HO7.out HG7.out.1 HG7.out.2
            exact AllReadyH.nil
          exact AllReadyH.nil
        exact AllReadyH.nil
      exact AllReadyH.nil
    refine AllReadyH.cons (o := _) rfl (fun K hK => ?_) ?_
    · go_simp
      go_at_call 80; refine HKC.out.mono ?_; rintro e w5 ⟨rfl, hk16, a1, hoff, hrd5, hr5, hseen5⟩
      have HL5 := Lib.hid (HL0.out.off hoff hseen5 hPH)
      have d0 := HL5.out.rp.cell 0
      have d6 := HL5.out.sbox.cell 0
      have d3 := HL5.out.kbox.cell 0
      have HL6 := Lib.hid (HL5.out.aside (Aside.of (below_new0 w5 (.cells #[.string kk] 9))) hPH)
      have da0 := HL6.out.rp.cell 0
      have da6 := HL6.out.sbox.cell 0
      have da3 := HL6.out.kbox.cell 0
      have hrow6 := HL6.out.krow
      rw [HK.out] at hrow6
      have hb6 : H + 7 ≤ (w5.alloc (.cells #[.string kk] 9)).heap.size := by have := hoff.size; have := (below_new0 w5 (.cells #[.string kk] 9)).size; omega
      have hnews6 := news1 (Blk.new w5 #[.string kk] 9)
      have HOFF := Lib.hid hoff
      have HRD5 := Lib.hid hrd5
      have HR5 := Lib.hid hr5
      clear hoff hrd5 hr5 hseen5
      refine hK.out _ _ ⟨d0, d6⟩ (fun hHeld => ?_)
      clear hK K
      try simp only [Act.put, List.setIfInBounds_toArray, List.set_cons_zero, List.set_cons_succ]
      refine wpAnyH_ready (rs := [0, 4]) (by kernel_rfl) (by simp) ?_
      refine AllReadyH.cons (o := _) rfl (fun K hK => ?_) ?_
      · go_simp
        refine hK.out _ _ ⟨d0, d6⟩ (fun hHeld => ?_)
        clear hK K
        try simp only [Act.put, List.setIfInBounds_toArray, List.set_cons_zero, List.set_cons_succ]
        refine wpAnyH_ready (rs := [4]) (by kernel_rfl) (by simp) ?_
        refine AllReadyH.cons (o := _) rfl (fun K hK => ?_) ?_
        · go_simp
          refine hK.out _ _ ⟨da0, da6⟩ (fun hHeld => ?_)
          clear hK K
          try simp only [Act.put, List.setIfInBounds_toArray, List.set_cons_zero, List.set_cons_succ]
          refine wpAnyH_ready (rs := [5]) (by kernel_rfl) (by simp) ?_
          refine AllReadyH.cons (o := _) rfl (fun K hK => ?_) ?_
          · refine app_key Tryz.underlying24 hiS hzS hsS hbS hzsS rfl rfl rfl hrow6 rfl hnews6 hlen2 hb6 ?_
            intro g2 cap2 w7 hown7 hgrow7 hat7 hlt7
            have he := cells3 HL6.out hgrow7
            obtain ⟨e0, e6, e3, f3⟩ := he
            have HO7 := Lib.hid hown7
            have HG7 := Lib.hid (And.intro hgrow7 hat7)
            clear hown7 hgrow7 hat7
            refine hK.out _ _ ⟨e0, e6⟩ (fun hHeld => ?_)
            clear hK K
            try simp only [Act.put, List.setIfInBounds_toArray, List.set_cons_zero, List.set_cons_succ]
            refine wpAnyH_ready (rs := [6]) (by kernel_rfl) (by simp) ?_
            refine AllReadyH.cons (o := _) rfl (fun K hK => ?_) ?_
            · go_simp
              refine hK.out _ _ (held_set hHeld hn3 hn63) (fun hHeld => ?_)
              clear hK K
              try simp only [Act.put, List.setIfInBounds_toArray, List.set_cons_zero, List.set_cons_succ]
              refine wpAnyH_done (by kernel_rfl) ?_ _
              go_wp2_with fail
              go_meet
              exact keyed_of HK.out hPH HA0.out hz0 HOFF.out HRD5.out HR5.out HL5.out HO7.out HG7.out.1 HG7.out.2
            exact AllReadyH.nil
          exact AllReadyH.nil
        exact AllReadyH.nil
      refine AllReadyH.cons (o := _) rfl (fun K hK => ?_) ?_
      · go_simp
        refine hK.out _ _ ⟨da0, da6⟩ (fun hHeld => ?_)
        clear hK K
        try simp only [Act.put, List.setIfInBounds_toArray, List.set_cons_zero, List.set_cons_succ]
        refine wpAnyH_ready (rs := [0]) (by kernel_rfl) (by simp) ?_
        refine AllReadyH.cons (o := _) rfl (fun K hK => ?_) ?_
        · go_simp
          refine hK.out _ _ ⟨da0, da6⟩ (fun hHeld => ?_)
          clear hK K
          try simp only [Act.put, List.setIfInBounds_toArray, List.set_cons_zero, List.set_cons_succ]
          refine wpAnyH_ready (rs := [5]) (by kernel_rfl) (by simp) ?_
          refine AllReadyH.cons (o := _) rfl (fun K hK => ?_) ?_
          · refine app_key Tryz.underlying24 hiS hzS hsS hbS hzsS rfl rfl rfl hrow6 rfl hnews6 hlen2 hb6 ?_
            intro g2 cap2 w7 hown7 hgrow7 hat7 hlt7
            have he := cells3 HL6.out hgrow7
            obtain ⟨e0, e6, e3, f3⟩ := he
            have HO7 := Lib.hid hown7
            have HG7 := Lib.hid (And.intro hgrow7 hat7)
            clear hown7 hgrow7 hat7
            refine hK.out _ _ ⟨e0, e6⟩ (fun hHeld => ?_)
            clear hK K
            try simp only [Act.put, List.setIfInBounds_toArray, List.set_cons_zero, List.set_cons_succ]
            refine wpAnyH_ready (rs := [6]) (by kernel_rfl) (by simp) ?_
            refine AllReadyH.cons (o := _) rfl (fun K hK => ?_) ?_
            · go_simp
              refine hK.out _ _ (held_set hHeld hn3 hn63) (fun hHeld => ?_)
              clear hK K
              try simp only [Act.put, List.setIfInBounds_toArray, List.set_cons_zero, List.set_cons_succ]
              refine wpAnyH_done (by kernel_rfl) ?_ _
              go_wp2_with fail
              go_meet
              exact keyed_of HK.out hPH HA0.out hz0 HOFF.out HRD5.out HR5.out HL5.out HO7.out HG7.out.1 HG7.out.2
            exact AllReadyH.nil
          exact AllReadyH.nil
        exact AllReadyH.nil
      exact AllReadyH.nil
    exact AllReadyH.nil
  case rest =>
    obtain ⟨w2, hw2⟩ : ∃ w2 : World, w2 = wc := ⟨_, rfl⟩
    subst hw2
    obtain ⟨a1, g1, cap1, hw2, hr2, hj2⟩ := hcut
    have HW2 := Lib.hid hw2
    have HR2 := Lib.hid hr2
    have HJ2 := Lib.hid hj2
    have HRW2 := Lib.hid (HRR.out.asideB hw2.1 hP7 (by omega))
    have c0 := hj2.rp.cell 0
    clear hw2 hr2 hj2 HKC HL HBW HRR
    have HI := Lib.hid (pairJ_colon (rd := valJ d) (n := n) HQ.out hc)
    have HN := Lib.hid (want_no HW2.out.2 (q := 58) (by rw [HR2.out]; exact hc))
    clear hc
    go_wp2_with (go_at_call 81; refine HN.out.mono ?_; rintro e w4 ⟨D, rfl, h1, h2, h3⟩)
    refine ⟨rfl, ?_⟩
    rw [HI.out]
    rw [HR2.out] at h2
    exact ThrownB.after (Thrown.toB ⟨D, rfl, h1, h2, h3⟩ (by have := HJ2.out.sbox.lt; omega)) HW2.out.1
end Go.Proofs.YtcbcjeabpjjhbaaGreatDoor
