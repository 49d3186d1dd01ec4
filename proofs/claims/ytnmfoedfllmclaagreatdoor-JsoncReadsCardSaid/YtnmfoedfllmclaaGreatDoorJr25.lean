/- A list's items, one by one -/
import Derived.Deep.RegionHeld2
import Derived.Deep.AppendLies
import Derived.OwnWalk
import Derived.Test.YtnmfoedfllmclaaGreatDoorJr24
namespace Go.Proofs.YtnmfoedfllmclaaGreatDoor
open Go.RowKit Go.Shelf Go.Sort
set_option linter.unusedVariables false
set_option linter.unusedSimpArgs false

theorem news5 {X : World} {B : Nat} {c0 c1 c2 c3 c4 : Value} {ty : TypeId} (h : Blk X B #[c0, c1, c2, c3, c4] ty) : ∀ j u, [c0, c1, c2, c3, c4][j]? = some u → X.cell? ((⟨B, 0, none⟩ : Addr).add j) = some u := World.news_of_block h
theorem app_item {P : Program} (hu : P.underlying 23 = some (.slice 26)) {iV : TypeInfo} {zV : Value} (hiV : P.info? 26 = some iV) (hzV : iV.zero = some zV) (hsV : iV.size = 5) (hbV : iV.bytes = 80) (hzs : zV.cells.size = 5) {ops : Array Oper} {o : Oper} {a : Act} {w : World} {K : Act → World → Prop} {Q : Exit → Act → World → Prop} {E : Prop} {H k B s x : Nat} {v : Value} {xs : List Value} (hgd : o.guard = none)
    (ho : o.op = .call { callee := .builtin .append, args := #[.tmp s, .tmp x], argTypes := #[23, 23] }) (hs : a.eval (.tmp s) = v) (hown : w.ownsRow H 26 5 v k xs) (hx : a.eval (.tmp x) = .slice (some ⟨B, 0, none⟩) 1 1)
    (hnews : ∀ j u, [.int .i64 0, .bool false, .string ⟨#[]⟩, .slice none 0 0, .slice none 0 0][j]? = some u → w.cell? ((⟨B, 0, none⟩ : Addr).add j) = some u) (hk : k ≤ 10000) (hbase : H ≤ w.heap.size)
    (h : ∀ g cap w', w'.ownsRow H 26 5 (.slice (some ⟨g, 0, none⟩) (k + 1) cap) (k + 1) (xs ++ zero5) → w.grownBy w' v.ownBlock → (v.ownBlock = some g ∨ g = w.heap.size) → g < w'.heap.size → K (a.put o.dst (.slice (some ⟨g, 0, none⟩) (k + 1) cap)) w') :
    if Region.wanted o (yielded ops a.tmps) = true then Oper.wp P o a w K Q else E :=
  step_append_lies w hgd (.tmp s) (.tmp x) 23 ho H 26 iV zV 5 80 hu hiV hzV hsV hbV hzs (by decide) v k xs hs hown ⟨B, 0, none⟩ 1 1 [.int .i64 0, .bool false, .string ⟨#[]⟩, .slice none 0 0, .slice none 0 0] hx rfl hnews
    (by intro u hu; simp at hu; rcases hu with rfl | rfl | rfl | rfl <;> rfl) (by decide) (by unfold maxLen; omega) (by omega) hbase w.heap.size rfl h
/-- The end of one item more. -/
theorem list_fin {H P n' k a' : Nat} {dep : Int} {WW Wc w5 X w7 Wf : World} {t : ByteArray} {v : Value} {yy : List It} {T : VT} {R' : List UInt8} {g cap : Nat} {y1 : Int} {y2 : Bool} {y3 : ByteArray} {y4 y5 : Value} {r : Except Bad (List VT × List UInt8 × Nat)} (hk : yy.length = k) (hI : r = .ok (yy.map It.T ++ [T], R', n')) (hPH : P < H) (hAc : AsideB H P WW Wc) (hL : ListAt H P dep Wc v yy) (hfr : Fresh Wc.heap.size w5.heap.size w5 (.agg #[.int .i64 y1, .bool y2, .string y3, y4, y5]) T) (hw5 : Went Wc w5 P t a' n') (hr5 : rest t a' = R') (hsm : smallT T) (hbX : Below w5.heap.size w5 X)
    (hP7 : ListPre H P dep w7 v g cap yy) (hG : X.grownBy w7 v.ownBlock ∧ (v.ownBlock = some g ∨ g = X.heap.size)) (hlen : k + 1 ≤ n')
    (hf : Wf = (set5 w7 g (k * 5) (.int .i64 y1) (.bool y2) (.string y3) y4 y5).setCell ⟨H + 3, 0, none⟩ (.slice (some ⟨g, 0, none⟩) (k + 1) cap) ∨ Wf = set5 (w7.setCell ⟨H + 3, 0, none⟩ (.slice (some ⟨g, 0, none⟩) (k + 1) cap)) g (k * 5) (.int .i64 y1) (.bool y2) (.string y3) y4 y5) :
    CEnds H WW P t (ListSt H P dep) r (.returned (.tuple #[])) Wf := by
  subst hI
  subst hk
  have hb := hP7.base
  have hf' : Wf = (set5 w7 g (yy.length * 5) (.int .i64 y1) (.bool y2) (.string y3) y4 y5).setCell ⟨H + 3, 0, none⟩ (.slice (some ⟨g, 0, none⟩) (yy.length + 1) cap) := by
    rcases hf with h | h
    · exact h
    · rw [h]; exact set5_comm w7 (by omega) _ _ _ _ _ _
  subst hf'
  have hown : ∀ q, v.ownBlock = some q → H + 4 ≤ q ∧ q < Wc.heap.size := fun q e => World.ownsRow.lt hL.row q e
  have hs5 := hw5.1.size
  have hsX := hbX.size
  have hs7 := hG.1.size
  have hnew : FarIt (H + 3) w7 nilV (.slice (some ⟨g, 0, none⟩) (yy.length + 1) cap) ⟨y1, y2, y3, y4, y5, T⟩ := by
    refine ⟨Wc.heap.size, w5.heap.size, by have := hL.box.lt; omega, by omega, hfr.keep (fun q h1 h2 => ?_) (Nat.le_refl _) (Nat.le_refl _), fun q e => (by cases e), fun q e => ?_⟩
    · rw [hG.1.block q (by omega) (fun e => by have := hown q e.symm; omega)]
      exact hbX.block q h2
    · obtain rfl : g = q := Option.some.inj e
      rcases hG.2 with h | h
      · exact .inl (hown _ h).2
      · exact .inr (by omega)
  have hdone := hP7.done hnew hsm
  have hlow : ∀ q, q < H → w7.heap[q]? = w5.heap[q]? := fun q hq => by
    rw [hG.1.block q (by have := hL.box.lt; omega) (fun e => by have := hown q e.symm; omega)]
    exact hbX.block q (by have := hL.box.lt; omega)
  have hs1 : AsideB H P w5 w7 := ⟨hG.1.os.trans hbX.os, hG.1.tape.trans hbX.tape, hG.1.output.trans hbX.output, by omega, fun q hq _ => hlow q hq⟩
  have hs2 := (hs1.set5 (B := g) (by omega) (yy.length * 5) (.int .i64 y1) (.bool y2) (.string y3) y4 y5).setFar (p := ⟨H + 3, 0, none⟩) (by show H ≤ H + 3; omega) (.slice (some ⟨g, 0, none⟩) (yy.length + 1) cap)
  have hpb : ((set5 w7 g (yy.length * 5) (.int .i64 y1) (.bool y2) (.string y3) y4 y5).setCell ⟨H + 3, 0, none⟩ (.slice (some ⟨g, 0, none⟩) (yy.length + 1) cap)).heap[P]? = w5.heap[P]? := by
    rw [Below.heap_setCell _ _ _ _ (by show P ≠ H + 3; omega), set5_other _ _ _ _ _ _ _ _ (by omega)]
    exact hlow P hPH
  exact ⟨rfl, a', ⟨(hAc.trans (hw5.1.toB (by have := hL.box.lt; omega))).trans hs2, ⟨hpb.trans hw5.2.1, hw5.2.2⟩⟩, hr5, _, _, hdone, by simp, by simp; omega⟩
set_option maxRecDepth 100000 in
set_option maxHeartbeats 8000000 in
theorem item_ok {H P a n d n' : Nat} {dep : Int} {W : World} {t : ByteArray} {v : Value} {yy : List It} {T : VT} {R' : List UInt8} (h : Rdr W P t a n) (hR : ReadyJ W) (hP7 : 7 ≤ P) (hPH : P < H) (hst : ListAt H P dep W v yy) (hlen : yy.length + 1 ≤ n') (hlen2 : yy.length ≤ 10000) (hd0 : 0 ≤ dep) (hd1 : dep ≤ 100) (hr : valJ d (rest t a) n = .ok (T, R', n'))
    (hv : ∀ W a n, Rdr W P t a n → ReadyJ W → Calls Tryz.prog 41 #[.pointer (some ⟨P, 0, none⟩), .int .i64 (dep + 1)] W (VEnds W P t (valJ d (rest t a) n))) :
    Calls Tryz.prog 77 #[.pointer (some ⟨H + 3, 0, none⟩), .pointer (some ⟨H, 0, none⟩), .pointer (some ⟨H + 1, 0, none⟩)] W (CEnds H W P t (ListSt H P dep) (itemJ (valJ d) (yy.map It.T) (rest t a) n)) := by
  obtain ⟨iV, zV, hiV, hzV, hzV5, hsV, hbV⟩ := info_val
  have hzs : zV.cells.size = 5 := by rw [hzV5]; rfl
  clear hzV5
  obtain ⟨ad, cap, hv0⟩ := row_shape hst.row
  obtain ⟨k, hk⟩ : ∃ k, yy.length = k := ⟨_, rfl⟩
  rw [hk] at hv0 hlen hlen2
  subst hv0
  have HK := Lib.hid hk
  have HS := Lib.hid h
  have HR := Lib.hid hR
  have HL := Lib.hid hst
  have hmx : k + 1 ≤ maxLen := by unfold maxLen; omega
  have hcb : (k + 1) * 80 ≤ 140737488355328 := by omega
  have i0 : (0 : Int) ≤ (k : Int) := by omega
  have i1 : (k : Int) < (k : Int) + 1 := by omega
  have i2 : (k : Int) < ((k + 1 : Nat) : Int) := by omega
  have HBW : Hid (∀ X, Below (H + 4) W X → Rdr X P t a n ∧ ReadyJ X) := Lib.hid (fun X hb => ⟨⟨(hb.block P (by omega)).trans h.1, h.2⟩, hR.below7 ⟨hb.os, hb.tape, hb.output, hb.size, fun k hk => hb.block k (by omega)⟩⟩)
  have hd : IntKind.i64.wrap (dep + 1) = dep + 1 := IntWalk.i64_in _ (by omega)
  have hHW : H + 4 ≤ W.heap.size := by have := hst.box.lt; omega
  have HV2 : Hid (∀ X, Below (H + 4) W X → Calls Tryz.prog 41 #[.pointer (some ⟨P, 0, none⟩), .int .i64 (dep + 1)] X (VEnds X P t (.ok (T, R', n')))) := Lib.hid (fun X hb => by have := hv X a n (HBW.out X hb).1 (HBW.out X hb).2; rw [hr] at this; exact this)
  have HI : Hid (itemJ (valJ d) (yy.map It.T) (rest t a) n = .ok (yy.map It.T ++ [T], R', n')) := Lib.hid (by unfold itemJ; rw [hr])
  clear h hR hst hv hr hk
  go_enter Tryz.func77, Tryz.ntmps77
  go_wp2_with fail
  obtain ⟨W0, hW0⟩ : ∃ W0, W.drew = W0 := ⟨_, rfl⟩
  have HL0 : Hid (ListAt H P dep W0 (.slice ad k cap) yy) := by rw [← hW0]; exact Lib.hid (HL.out.aside (Aside.of (below_drew W)) hPH)
  have HB0 : Hid (Below (H + 4) W W0) := by rw [← hW0]; exact Lib.hid ((below_drew W).mono hHW)
  have HA0 : Hid (AsideB H P W W0) := by rw [← hW0]; exact Lib.hid ((Aside.of (below_drew W)).toB (by omega))
  have hnv0 : ¬ H = H + 3 := by omega
  have hnv1 : ¬ H + 1 = H + 3 := by omega
  have hz0 : H + 4 ≤ W0.heap.size := by rw [← hW0]; exact hHW
  have c0 := HL0.out.rp.cell 0
  have c1 := HL0.out.dp.cell 0
  have c3 := HL0.out.box.cell 0
  have HLZ := Lib.hid (HL0.out.aside (Aside.of (below_new0 W0 (.cells #[.int .i64 0, .bool false, .string ⟨#[]⟩, .slice none 0 0, .slice none 0 0] 26))) hPH)
  have HBZ : Hid (Below (H + 4) W (W0.alloc (.cells #[.int .i64 0, .bool false, .string ⟨#[]⟩, .slice none 0 0, .slice none 0 0] 26))) := Lib.hid (HB0.out.trans ((below_new0 W0 _).mono hz0))
  have HBLK := Lib.hid (Blk.new W0 #[.int .i64 0, .bool false, .string ⟨#[]⟩, .slice none 0 0, .slice none 0 0] 26)
  have hbz : ∀ X : World, H + 4 ≤ X.heap.size → H + 4 ≤ (X.alloc (.cells #[.int .i64 0, .bool false, .string ⟨#[]⟩, .slice none 0 0, .slice none 0 0] 26)).heap.size := fun X h => Nat.le_trans h (below_new0 X _).size
  have hb0z := hbz W0 hz0
  have HBZ9 := Lib.hid hbz
  clear hbz
  have hnews0 := news5 HBLK.out
  have hrow0 := HLZ.out.row
  have c3z := HLZ.out.box.cell 0
  have ca0 := HLZ.out.rp.cell 0
  have ca1 := HLZ.out.dp.cell 0
  rw [HK.out] at hrow0
  have hz0' : H ≤ W0.heap.size := by omega
  have HAZ : Hid (AsideB H P W (W0.alloc (.cells #[.int .i64 0, .bool false, .string ⟨#[]⟩, .slice none 0 0, .slice none 0 0] 26))) := Lib.hid (HA0.out.trans ((Aside.of (below_new0 W0 _)).toB hz0'))
  refine wp_region_held_drew (S := fun w' => w'.cell? ⟨H, 0, none⟩ = some (.pointer (some ⟨P, 0, none⟩)) ∧ w'.cell? ⟨H + 1, 0, none⟩ = some (.int .i64 dep)) (by kernel_rfl) ?_ (fun hHeld => ?_)
  · rw [hW0]; exact ⟨c0, c1⟩
  rw [hW0] at hHeld ⊢
  refine wpAnyH_take (i := 1) (oi := _) (v := ?k_v1) rfl (by kernel_rfl) (by kernel_rfl) (by kernel_rfl) (fun _ _ _ h => h) (Or.inl ⟨by rfl, ?k_y1⟩) (by assumption) ?k_r1
  case k_y1 => (intro w hSw; (try dsimp only at hSw); go_simp; (try with_reducible rfl))
  try simp only [Act.put, List.setIfInBounds_toArray, List.set_cons_zero, List.set_cons_succ]
  refine wpAnyH_take (i := 2) (oi := _) (v := ?k_v2) rfl (by kernel_rfl) (by kernel_rfl) (by kernel_rfl) (fun _ _ _ h => h) (Or.inl ⟨by rfl, ?k_y2⟩) (by assumption) ?k_r2
  case k_y2 => (intro w hSw; (try dsimp only at hSw); go_simp; (try with_reducible rfl))
  try simp only [Act.put, List.setIfInBounds_toArray, List.set_cons_zero, List.set_cons_succ]
  refine wpAnyH_take (i := 3) (oi := _) (v := ?k_v3) rfl (by kernel_rfl) (by kernel_rfl) (by kernel_rfl) (fun _ _ _ h => h) (Or.inl ⟨by rfl, ?k_y3⟩) (by assumption) ?k_r3
  case k_y3 => (intro w hSw; (try dsimp only at hSw); go_simp; (try with_reducible rfl))
  try simp only [Act.put, List.setIfInBounds_toArray, List.set_cons_zero, List.set_cons_succ]
  refine wpAnyH_ready (rs := [0, 4, 6]) (by kernel_rfl) (by simp) ?_
  refine AllReadyH.cons (o := _) rfl (fun K hK => ?_) ?_
  · go_simp
    refine hK.out _ _ ⟨c0, c1⟩ (fun hHeld => ?_)
    clear hK K
    try simp only [Act.put, List.setIfInBounds_toArray, List.set_cons_zero, List.set_cons_succ]
    refine wpAnyH_take (i := 5) (oi := _) (v := ?k_v4) rfl (by kernel_rfl) (by kernel_rfl) (by kernel_rfl) (fun _ _ _ h => h) (Or.inl ⟨by rfl, ?k_y4⟩) (by assumption) ?k_r4
    case k_y4 => (intro w hSw; (try dsimp only at hSw); go_simp; (try with_reducible rfl))
    try simp only [Act.put, List.setIfInBounds_toArray, List.set_cons_zero, List.set_cons_succ]
    refine wpAnyH_ready (rs := [4, 6]) (by kernel_rfl) (by simp) ?_
    refine AllReadyH.cons (o := _) rfl (fun K hK => ?_) ?_
    · go_simp
      go_at_call 41; refine (HV2.out _ HB0.out).mono ?_; rintro e w5 ⟨v5, a', rfl, hfr5, hsm5, hw5, hr5⟩
      obtain ⟨y1, y2, y3, ya, yn, yc, yk, ym, yd, rfl⟩ := hfr5.shape
      have HL5 := Lib.hid (HL0.out.aside hw5.1 hPH)
      have d0 := HL5.out.rp.cell 0
      have d1 := HL5.out.dp.cell 0
      have d3 := HL5.out.box.cell 0
      have hz5 : H + 4 ≤ w5.heap.size := Nat.le_trans hz0 hw5.1.size
      have HL6 := Lib.hid (HL5.out.aside (Aside.of (below_new0 w5 (.cells #[.int .i64 0, .bool false, .string ⟨#[]⟩, .slice none 0 0, .slice none 0 0] 26))) hPH)
      have hrow6 := HL6.out.row
      rw [HK.out] at hrow6
      have d3z := HL6.out.box.cell 0
      have da0 := HL6.out.rp.cell 0
      have da1 := HL6.out.dp.cell 0
      have hb6 := HBZ9.out _ hz5
      have hnews6 := news5 (Blk.new w5 #[.int .i64 0, .bool false, .string ⟨#[]⟩, .slice none 0 0, .slice none 0 0] 26)
      have HFR := Lib.hid hfr5
      have HW5 := Lib.hid hw5
      clear hfr5 hw5
      refine hK.out _ _ ⟨d0, d1⟩ (fun hHeld => ?_)
      clear hK K
      try simp only [Act.put, List.setIfInBounds_toArray, List.set_cons_zero, List.set_cons_succ]
      refine wpAnyH_ready (rs := [6]) (by kernel_rfl) (by simp) ?_
      refine AllReadyH.cons (o := _) rfl (fun K hK => ?_) ?_
      · go_simp
        refine hK.out _ _ ⟨da0, da1⟩ (fun hHeld => ?_)
        clear hK K
        try simp only [Act.put, List.setIfInBounds_toArray, List.set_cons_zero, List.set_cons_succ]
        refine wpAnyH_ready (rs := [7]) (by kernel_rfl) (by simp) ?_
        refine AllReadyH.cons (o := _) rfl (fun K hK => ?_) ?_
        · refine app_item Tryz.underlying23 hiV hzV hsV hbV hzs rfl rfl rfl hrow6 rfl hnews6 hlen2 hb6 ?_
          intro g2 cap2 w7 hown7 hgrow7 hat7 hlt7
          rw [← HK.out] at hown7
          have HP7 := Lib.hid (HL6.out.append (g := g2) (cap := cap2) hown7 hgrow7 hat7)
          have HG7 := Lib.hid (And.intro hgrow7 hat7)
          clear hown7 hgrow7 hat7
          have e0 := HP7.out.rp.cell 0
          have e1 := HP7.out.dp.cell 0
          have hz := pre_cells HP7.out
          rw [HK.out] at hz
          obtain ⟨hg4, z0, z1, z2, z3, z4, x0, x1, x2, x3, x4⟩ := hz
          have xb := HP7.out.box.cell 0
          have xf := HP7.out.box.frozen 0
          have hne0 : ¬ H = g2 := by omega
          have hne1 : ¬ H + 1 = g2 := by omega
          have hne3 : ¬ H + 3 = g2 := by omega
          have hne4 : ¬ g2 = H + 3 := by omega
          refine hK.out _ _ ⟨e0, e1⟩ (fun hHeld => ?_)
          clear hK K
          try simp only [Act.put, List.setIfInBounds_toArray, List.set_cons_zero, List.set_cons_succ]
          refine wpAnyH_take (i := 8) (oi := _) (v := ?k_v5) rfl (by kernel_rfl) (by kernel_rfl) (by kernel_rfl) (fun _ _ _ h => h) (Or.inl ⟨by rfl, ?k_y5⟩) (by assumption) ?k_r5
          case k_y5 => (intro w hSw; (try dsimp only at hSw); go_simp; (try with_reducible rfl))
          try simp only [Act.put, List.setIfInBounds_toArray, List.set_cons_zero, List.set_cons_succ]
          refine wpAnyH_ready (rs := [9, 10]) (by kernel_rfl) (by simp) ?_
          refine AllReadyH.cons (o := _) rfl (fun K hK => ?_) ?_
          · go_simp
            refine hK.out _ _ (held_set5 hHeld hne0 hne1 _ _ _ _ _) (fun hHeld => ?_)
            clear hK K
            try simp only [Act.put, List.setIfInBounds_toArray, List.set_cons_zero, List.set_cons_succ]
            refine wpAnyH_ready (rs := [10]) (by kernel_rfl) (by simp) ?_
            refine AllReadyH.cons (o := _) rfl (fun K hK => ?_) ?_
            · go_simp
              refine hK.out _ _ (held_set hHeld hnv0 hnv1) (fun hHeld => ?_)
              clear hK K
              try simp only [Act.put, List.setIfInBounds_toArray, List.set_cons_zero, List.set_cons_succ]
              refine wpAnyH_done (by kernel_rfl) ?_ _
              go_end0
              exact list_fin HK.out HI.out hPH HA0.out HL0.out HFR.out HW5.out hr5 hsm5 (below_new0 w5 _) HP7.out HG7.out hlen (.inl rfl)
            exact AllReadyH.nil
          refine AllReadyH.cons (o := _) rfl (fun K hK => ?_) ?_
          · go_simp
            refine hK.out _ _ (held_set hHeld hnv0 hnv1) (fun hHeld => ?_)
            clear hK K
            try simp only [Act.put, List.setIfInBounds_toArray, List.set_cons_zero, List.set_cons_succ]
            refine wpAnyH_ready (rs := [9]) (by kernel_rfl) (by simp) ?_
            refine AllReadyH.cons (o := _) rfl (fun K hK => ?_) ?_
            · go_simp
              refine hK.out _ _ (held_set5 hHeld hne0 hne1 _ _ _ _ _) (fun hHeld => ?_)
              clear hK K
              try simp only [Act.put, List.setIfInBounds_toArray, List.set_cons_zero, List.set_cons_succ]
              refine wpAnyH_done (by kernel_rfl) ?_ _
              go_end0
              exact list_fin HK.out HI.out hPH HA0.out HL0.out HFR.out HW5.out hr5 hsm5 (below_new0 w5 _) HP7.out HG7.out hlen (.inr rfl)
            exact AllReadyH.nil
          exact AllReadyH.nil
        exact AllReadyH.nil
      exact AllReadyH.nil
    refine AllReadyH.cons (o := _) rfl (fun K hK => ?_) ?_
    · go_simp
      refine hK.out _ _ ⟨ca0, ca1⟩ (fun hHeld => ?_)
      clear hK K
      try simp only [Act.put, List.setIfInBounds_toArray, List.set_cons_zero, List.set_cons_succ]
      refine wpAnyH_ready (rs := [4]) (by kernel_rfl) (by simp) ?_
      refine AllReadyH.cons (o := _) rfl (fun K hK => ?_) ?_
      · go_simp
        go_at_call 41; refine (HV2.out _ HBZ.out).mono ?_; rintro e w5 ⟨v5, a', rfl, hfr5, hsm5, hw5, hr5⟩
        obtain ⟨y1, y2, y3, ya, yn, yc, yk, ym, yd, rfl⟩ := hfr5.shape
        have HL5 := Lib.hid (HLZ.out.aside hw5.1 hPH)
        have d0 := HL5.out.rp.cell 0
        have d1 := HL5.out.dp.cell 0
        have d3 := HL5.out.box.cell 0
        have hrow5 := HL5.out.row
        rw [HK.out] at hrow5
        have hnews5 := news5 (HBLK.out.aside hw5.1 (by omega))
        have hb5 : H + 4 ≤ w5.heap.size := Nat.le_trans hb0z hw5.1.size
        have HFR := Lib.hid hfr5
        have HW5 := Lib.hid hw5
        clear hfr5 hw5
        refine hK.out _ _ ⟨d0, d1⟩ (fun hHeld => ?_)
        clear hK K
        try simp only [Act.put, List.setIfInBounds_toArray, List.set_cons_zero, List.set_cons_succ]
        refine wpAnyH_ready (rs := [7]) (by kernel_rfl) (by simp) ?_
        refine AllReadyH.cons (o := _) rfl (fun K hK => ?_) ?_
        · refine app_item Tryz.underlying23 hiV hzV hsV hbV hzs rfl rfl rfl hrow5 rfl hnews5 hlen2 hb5 ?_
          intro g2 cap2 w7 hown7 hgrow7 hat7 hlt7
          rw [← HK.out] at hown7
          have HP7 := Lib.hid (HL5.out.append (g := g2) (cap := cap2) hown7 hgrow7 hat7)
          have HG7 := Lib.hid (And.intro hgrow7 hat7)
          clear hown7 hgrow7 hat7
          have e0 := HP7.out.rp.cell 0
          have e1 := HP7.out.dp.cell 0
          have hz := pre_cells HP7.out
          rw [HK.out] at hz
          obtain ⟨hg4, z0, z1, z2, z3, z4, x0, x1, x2, x3, x4⟩ := hz
          have xb := HP7.out.box.cell 0
          have xf := HP7.out.box.frozen 0
          have hne0 : ¬ H = g2 := by omega
          have hne1 : ¬ H + 1 = g2 := by omega
          have hne3 : ¬ H + 3 = g2 := by omega
          have hne4 : ¬ g2 = H + 3 := by omega
          refine hK.out _ _ ⟨e0, e1⟩ (fun hHeld => ?_)
          clear hK K
          try simp only [Act.put, List.setIfInBounds_toArray, List.set_cons_zero, List.set_cons_succ]
          refine wpAnyH_take (i := 8) (oi := _) (v := ?k_v6) rfl (by kernel_rfl) (by kernel_rfl) (by kernel_rfl) (fun _ _ _ h => h) (Or.inl ⟨by rfl, ?k_y6⟩) (by assumption) ?k_r6
          case k_y6 => (intro w hSw; (try dsimp only at hSw); go_simp; (try with_reducible rfl))
          try simp only [Act.put, List.setIfInBounds_toArray, List.set_cons_zero, List.set_cons_succ]
          refine wpAnyH_ready (rs := [9, 10]) (by kernel_rfl) (by simp) ?_
          refine AllReadyH.cons (o := _) rfl (fun K hK => ?_) ?_
          · go_simp
            refine hK.out _ _ (held_set5 hHeld hne0 hne1 _ _ _ _ _) (fun hHeld => ?_)
            clear hK K
            try simp only [Act.put, List.setIfInBounds_toArray, List.set_cons_zero, List.set_cons_succ]
            refine wpAnyH_ready (rs := [10]) (by kernel_rfl) (by simp) ?_
            refine AllReadyH.cons (o := _) rfl (fun K hK => ?_) ?_
            · go_simp
              refine hK.out _ _ (held_set hHeld hnv0 hnv1) (fun hHeld => ?_)
              clear hK K
              try simp only [Act.put, List.setIfInBounds_toArray, List.set_cons_zero, List.set_cons_succ]
              refine wpAnyH_done (by kernel_rfl) ?_ _
              go_end0
              exact list_fin HK.out HI.out hPH HAZ.out HLZ.out HFR.out HW5.out hr5 hsm5 (Below.refl _ _) HP7.out HG7.out hlen (.inl rfl)
            exact AllReadyH.nil
          refine AllReadyH.cons (o := _) rfl (fun K hK => ?_) ?_
          · go_simp
            refine hK.out _ _ (held_set hHeld hnv0 hnv1) (fun hHeld => ?_)
            clear hK K
            try simp only [Act.put, List.setIfInBounds_toArray, List.set_cons_zero, List.set_cons_succ]
            refine wpAnyH_ready (rs := [9]) (by kernel_rfl) (by simp) ?_
            refine AllReadyH.cons (o := _) rfl (fun K hK => ?_) ?_
            · go_simp
              refine hK.out _ _ (held_set5 hHeld hne0 hne1 _ _ _ _ _) (fun hHeld => ?_)
              clear hK K
              try simp only [Act.put, List.setIfInBounds_toArray, List.set_cons_zero, List.set_cons_succ]
              refine wpAnyH_done (by kernel_rfl) ?_ _
              go_end0
              exact list_fin HK.out HI.out hPH HAZ.out HLZ.out HFR.out HW5.out hr5 hsm5 (Below.refl _ _) HP7.out HG7.out hlen (.inr rfl)
            exact AllReadyH.nil
          exact AllReadyH.nil
        exact AllReadyH.nil
      exact AllReadyH.nil
    exact AllReadyH.nil
  refine AllReadyH.cons (o := _) rfl (fun K hK => ?_) ?_
  · go_simp
    go_at_call 41; refine (HV2.out _ HB0.out).mono ?_; rintro e w5 ⟨v5, a', rfl, hfr5, hsm5, hw5, hr5⟩
    obtain ⟨y1, y2, y3, ya, yn, yc, yk, ym, yd, rfl⟩ := hfr5.shape
    have HL5 := Lib.hid (HL0.out.aside hw5.1 hPH)
    have d0 := HL5.out.rp.cell 0
    have d1 := HL5.out.dp.cell 0
    have d3 := HL5.out.box.cell 0
    have hz5 : H + 4 ≤ w5.heap.size := Nat.le_trans hz0 hw5.1.size
    have HL6 := Lib.hid (HL5.out.aside (Aside.of (below_new0 w5 (.cells #[.int .i64 0, .bool false, .string ⟨#[]⟩, .slice none 0 0, .slice none 0 0] 26))) hPH)
    have hrow6 := HL6.out.row
    rw [HK.out] at hrow6
    have d3z := HL6.out.box.cell 0
    have da0 := HL6.out.rp.cell 0
    have da1 := HL6.out.dp.cell 0
    have hb6 := HBZ9.out _ hz5
    have hnews6 := news5 (Blk.new w5 #[.int .i64 0, .bool false, .string ⟨#[]⟩, .slice none 0 0, .slice none 0 0] 26)
    have HFR := Lib.hid hfr5
    have HW5 := Lib.hid hw5
    clear hfr5 hw5
    refine hK.out _ _ ⟨d0, d1⟩ (fun hHeld => ?_)
    clear hK K
    try simp only [Act.put, List.setIfInBounds_toArray, List.set_cons_zero, List.set_cons_succ]
    refine wpAnyH_ready (rs := [0, 6]) (by kernel_rfl) (by simp) ?_
    refine AllReadyH.cons (o := _) rfl (fun K hK => ?_) ?_
    · go_simp
      refine hK.out _ _ ⟨d0, d1⟩ (fun hHeld => ?_)
      clear hK K
      try simp only [Act.put, List.setIfInBounds_toArray, List.set_cons_zero, List.set_cons_succ]
      refine wpAnyH_take (i := 5) (oi := _) (v := ?k_v7) rfl (by kernel_rfl) (by kernel_rfl) (by kernel_rfl) (fun _ _ _ h => h) (Or.inl ⟨by rfl, ?k_y7⟩) (by assumption) ?k_r7
      case k_y7 => (intro w hSw; (try dsimp only at hSw); go_simp; (try with_reducible rfl))
      try simp only [Act.put, List.setIfInBounds_toArray, List.set_cons_zero, List.set_cons_succ]
      refine wpAnyH_ready (rs := [6]) (by kernel_rfl) (by simp) ?_
      refine AllReadyH.cons (o := _) rfl (fun K hK => ?_) ?_
      · go_simp
        refine hK.out _ _ ⟨da0, da1⟩ (fun hHeld => ?_)
        clear hK K
        try simp only [Act.put, List.setIfInBounds_toArray, List.set_cons_zero, List.set_cons_succ]
        refine wpAnyH_ready (rs := [7]) (by kernel_rfl) (by simp) ?_
        refine AllReadyH.cons (o := _) rfl (fun K hK => ?_) ?_
        · refine app_item Tryz.underlying23 hiV hzV hsV hbV hzs rfl rfl rfl hrow6 rfl hnews6 hlen2 hb6 ?_
          intro g2 cap2 w7 hown7 hgrow7 hat7 hlt7
          rw [← HK.out] at hown7
          have HP7 := Lib.hid (HL6.out.append (g := g2) (cap := cap2) hown7 hgrow7 hat7)
          have HG7 := Lib.hid (And.intro hgrow7 hat7)
          clear hown7 hgrow7 hat7
          have e0 := HP7.out.rp.cell 0
          have e1 := HP7.out.dp.cell 0
          have hz := pre_cells HP7.out
          rw [HK.out] at hz
          obtain ⟨hg4, z0, z1, z2, z3, z4, x0, x1, x2, x3, x4⟩ := hz
          have xb := HP7.out.box.cell 0
          have xf := HP7.out.box.frozen 0
          have hne0 : ¬ H = g2 := by omega
          have hne1 : ¬ H + 1 = g2 := by omega
          have hne3 : ¬ H + 3 = g2 := by omega
          have hne4 : ¬ g2 = H + 3 := by omega
          refine hK.out _ _ ⟨e0, e1⟩ (fun hHeld => ?_)
          clear hK K
          try simp only [Act.put, List.setIfInBounds_toArray, List.set_cons_zero, List.set_cons_succ]
          refine wpAnyH_take (i := 8) (oi := _) (v := ?k_v8) rfl (by kernel_rfl) (by kernel_rfl) (by kernel_rfl) (fun _ _ _ h => h) (Or.inl ⟨by rfl, ?k_y8⟩) (by assumption) ?k_r8
          case k_y8 => (intro w hSw; (try dsimp only at hSw); go_simp; (try with_reducible rfl))
          try simp only [Act.put, List.setIfInBounds_toArray, List.set_cons_zero, List.set_cons_succ]
          refine wpAnyH_ready (rs := [9, 10]) (by kernel_rfl) (by simp) ?_
          refine AllReadyH.cons (o := _) rfl (fun K hK => ?_) ?_
          · go_simp
            refine hK.out _ _ (held_set5 hHeld hne0 hne1 _ _ _ _ _) (fun hHeld => ?_)
            clear hK K
            try simp only [Act.put, List.setIfInBounds_toArray, List.set_cons_zero, List.set_cons_succ]
            refine wpAnyH_ready (rs := [10]) (by kernel_rfl) (by simp) ?_
            refine AllReadyH.cons (o := _) rfl (fun K hK => ?_) ?_
            · go_simp
              refine hK.out _ _ (held_set hHeld hnv0 hnv1) (fun hHeld => ?_)
              clear hK K
              try simp only [Act.put, List.setIfInBounds_toArray, List.set_cons_zero, List.set_cons_succ]
              refine wpAnyH_done (by kernel_rfl) ?_ _
              go_end0
              exact list_fin HK.out HI.out hPH HA0.out HL0.out HFR.out HW5.out hr5 hsm5 (below_new0 w5 _) HP7.out HG7.out hlen (.inl rfl)
            exact AllReadyH.nil
          refine AllReadyH.cons (o := _) rfl (fun K hK => ?_) ?_
          · go_simp
            refine hK.out _ _ (held_set hHeld hnv0 hnv1) (fun hHeld => ?_)
            clear hK K
            try simp only [Act.put, List.setIfInBounds_toArray, List.set_cons_zero, List.set_cons_succ]
            refine wpAnyH_ready (rs := [9]) (by kernel_rfl) (by simp) ?_
            refine AllReadyH.cons (o := _) rfl (fun K hK => ?_) ?_
            · go_simp
              refine hK.out _ _ (held_set5 hHeld hne0 hne1 _ _ _ _ _) (fun hHeld => ?_)
              clear hK K
              try simp only [Act.put, List.setIfInBounds_toArray, List.set_cons_zero, List.set_cons_succ]
              refine wpAnyH_done (by kernel_rfl) ?_ _
              go_end0
              exact list_fin HK.out HI.out hPH HA0.out HL0.out HFR.out HW5.out hr5 hsm5 (below_new0 w5 _) HP7.out HG7.out hlen (.inr rfl)
            exact AllReadyH.nil
          exact AllReadyH.nil
        exact AllReadyH.nil
      exact AllReadyH.nil
    refine AllReadyH.cons (o := _) rfl (fun K hK => ?_) ?_
    · go_simp
      refine hK.out _ _ ⟨da0, da1⟩ (fun hHeld => ?_)
      clear hK K
      try simp only [Act.put, List.setIfInBounds_toArray, List.set_cons_zero, List.set_cons_succ]
      refine wpAnyH_ready (rs := [0]) (by kernel_rfl) (by simp) ?_
      refine AllReadyH.cons (o := _) rfl (fun K hK => ?_) ?_
      · go_simp
        refine hK.out _ _ ⟨da0, da1⟩ (fun hHeld => ?_)
        clear hK K
        try simp only [Act.put, List.setIfInBounds_toArray, List.set_cons_zero, List.set_cons_succ]
        refine wpAnyH_take (i := 5) (oi := _) (v := ?k_v9) rfl (by kernel_rfl) (by kernel_rfl) (by kernel_rfl) (fun _ _ _ h => h) (Or.inl ⟨by rfl, ?k_y9⟩) (by assumption) ?k_r9
        case k_y9 => (intro w hSw; (try dsimp only at hSw); go_simp; (try with_reducible rfl))
        try simp only [Act.put, List.setIfInBounds_toArray, List.set_cons_zero, List.set_cons_succ]
        refine wpAnyH_ready (rs := [7]) (by kernel_rfl) (by simp) ?_
        refine AllReadyH.cons (o := _) rfl (fun K hK => ?_) ?_
        · refine app_item Tryz.underlying23 hiV hzV hsV hbV hzs rfl rfl rfl hrow6 rfl hnews6 hlen2 hb6 ?_
          intro g2 cap2 w7 hown7 hgrow7 hat7 hlt7
          rw [← HK.out] at hown7
          have HP7 := Lib.hid (HL6.out.append (g := g2) (cap := cap2) hown7 hgrow7 hat7)
          have HG7 := Lib.hid (And.intro hgrow7 hat7)
          clear hown7 hgrow7 hat7
          have e0 := HP7.out.rp.cell 0
          have e1 := HP7.out.dp.cell 0
          have hz := pre_cells HP7.out
          rw [HK.out] at hz
          obtain ⟨hg4, z0, z1, z2, z3, z4, x0, x1, x2, x3, x4⟩ := hz
          have xb := HP7.out.box.cell 0
          have xf := HP7.out.box.frozen 0
          have hne0 : ¬ H = g2 := by omega
          have hne1 : ¬ H + 1 = g2 := by omega
          have hne3 : ¬ H + 3 = g2 := by omega
          have hne4 : ¬ g2 = H + 3 := by omega
          refine hK.out _ _ ⟨e0, e1⟩ (fun hHeld => ?_)
          clear hK K
          try simp only [Act.put, List.setIfInBounds_toArray, List.set_cons_zero, List.set_cons_succ]
          refine wpAnyH_take (i := 8) (oi := _) (v := ?k_v10) rfl (by kernel_rfl) (by kernel_rfl) (by kernel_rfl) (fun _ _ _ h => h) (Or.inl ⟨by rfl, ?k_y10⟩) (by assumption) ?k_r10
          case k_y10 => (intro w hSw; (try dsimp only at hSw); go_simp; (try with_reducible rfl))
          try simp only [Act.put, List.setIfInBounds_toArray, List.set_cons_zero, List.set_cons_succ]
          refine wpAnyH_ready (rs := [9, 10]) (by kernel_rfl) (by simp) ?_
          refine AllReadyH.cons (o := _) rfl (fun K hK => ?_) ?_
          · go_simp
            refine hK.out _ _ (held_set5 hHeld hne0 hne1 _ _ _ _ _) (fun hHeld => ?_)
            clear hK K
            try simp only [Act.put, List.setIfInBounds_toArray, List.set_cons_zero, List.set_cons_succ]
            refine wpAnyH_ready (rs := [10]) (by kernel_rfl) (by simp) ?_
            refine AllReadyH.cons (o := _) rfl (fun K hK => ?_) ?_
            · go_simp
              refine hK.out _ _ (held_set hHeld hnv0 hnv1) (fun hHeld => ?_)
              clear hK K
              try simp only [Act.put, List.setIfInBounds_toArray, List.set_cons_zero, List.set_cons_succ]
              refine wpAnyH_done (by kernel_rfl) ?_ _
              go_end0
              exact list_fin HK.out HI.out hPH HA0.out HL0.out HFR.out HW5.out hr5 hsm5 (below_new0 w5 _) HP7.out HG7.out hlen (.inl rfl)
            exact AllReadyH.nil
          refine AllReadyH.cons (o := _) rfl (fun K hK => ?_) ?_
          · go_simp
            refine hK.out _ _ (held_set hHeld hnv0 hnv1) (fun hHeld => ?_)
            clear hK K
            try simp only [Act.put, List.setIfInBounds_toArray, List.set_cons_zero, List.set_cons_succ]
            refine wpAnyH_ready (rs := [9]) (by kernel_rfl) (by simp) ?_
            refine AllReadyH.cons (o := _) rfl (fun K hK => ?_) ?_
            · go_simp
              refine hK.out _ _ (held_set5 hHeld hne0 hne1 _ _ _ _ _) (fun hHeld => ?_)
              clear hK K
              try simp only [Act.put, List.setIfInBounds_toArray, List.set_cons_zero, List.set_cons_succ]
              refine wpAnyH_done (by kernel_rfl) ?_ _
              go_end0
              exact list_fin HK.out HI.out hPH HA0.out HL0.out HFR.out HW5.out hr5 hsm5 (below_new0 w5 _) HP7.out HG7.out hlen (.inr rfl)
            exact AllReadyH.nil
          exact AllReadyH.nil
        exact AllReadyH.nil
      exact AllReadyH.nil
    exact AllReadyH.nil
  refine AllReadyH.cons (o := _) rfl (fun K hK => ?_) ?_
  · go_simp
    refine hK.out _ _ ⟨ca0, ca1⟩ (fun hHeld => ?_)
    clear hK K
    try simp only [Act.put, List.setIfInBounds_toArray, List.set_cons_zero, List.set_cons_succ]
    refine wpAnyH_ready (rs := [0, 4]) (by kernel_rfl) (by simp) ?_
    refine AllReadyH.cons (o := _) rfl (fun K hK => ?_) ?_
    · go_simp
      refine hK.out _ _ ⟨ca0, ca1⟩ (fun hHeld => ?_)
      clear hK K
      try simp only [Act.put, List.setIfInBounds_toArray, List.set_cons_zero, List.set_cons_succ]
      refine wpAnyH_take (i := 5) (oi := _) (v := ?k_v11) rfl (by kernel_rfl) (by kernel_rfl) (by kernel_rfl) (fun _ _ _ h => h) (Or.inl ⟨by rfl, ?k_y11⟩) (by assumption) ?k_r11
      case k_y11 => (intro w hSw; (try dsimp only at hSw); go_simp; (try with_reducible rfl))
      try simp only [Act.put, List.setIfInBounds_toArray, List.set_cons_zero, List.set_cons_succ]
      refine wpAnyH_ready (rs := [4]) (by kernel_rfl) (by simp) ?_
      refine AllReadyH.cons (o := _) rfl (fun K hK => ?_) ?_
      · go_simp
        go_at_call 41; refine (HV2.out _ HBZ.out).mono ?_; rintro e w5 ⟨v5, a', rfl, hfr5, hsm5, hw5, hr5⟩
        obtain ⟨y1, y2, y3, ya, yn, yc, yk, ym, yd, rfl⟩ := hfr5.shape
        have HL5 := Lib.hid (HLZ.out.aside hw5.1 hPH)
        have d0 := HL5.out.rp.cell 0
        have d1 := HL5.out.dp.cell 0
        have d3 := HL5.out.box.cell 0
        have hrow5 := HL5.out.row
        rw [HK.out] at hrow5
        have hnews5 := news5 (HBLK.out.aside hw5.1 (by omega))
        have hb5 : H + 4 ≤ w5.heap.size := Nat.le_trans hb0z hw5.1.size
        have HFR := Lib.hid hfr5
        have HW5 := Lib.hid hw5
        clear hfr5 hw5
        refine hK.out _ _ ⟨d0, d1⟩ (fun hHeld => ?_)
        clear hK K
        try simp only [Act.put, List.setIfInBounds_toArray, List.set_cons_zero, List.set_cons_succ]
        refine wpAnyH_ready (rs := [7]) (by kernel_rfl) (by simp) ?_
        refine AllReadyH.cons (o := _) rfl (fun K hK => ?_) ?_
        · refine app_item Tryz.underlying23 hiV hzV hsV hbV hzs rfl rfl rfl hrow5 rfl hnews5 hlen2 hb5 ?_
          intro g2 cap2 w7 hown7 hgrow7 hat7 hlt7
          rw [← HK.out] at hown7
          have HP7 := Lib.hid (HL5.out.append (g := g2) (cap := cap2) hown7 hgrow7 hat7)
          have HG7 := Lib.hid (And.intro hgrow7 hat7)
          clear hown7 hgrow7 hat7
          have e0 := HP7.out.rp.cell 0
          have e1 := HP7.out.dp.cell 0
          have hz := pre_cells HP7.out
          rw [HK.out] at hz
          obtain ⟨hg4, z0, z1, z2, z3, z4, x0, x1, x2, x3, x4⟩ := hz
          have xb := HP7.out.box.cell 0
          have xf := HP7.out.box.frozen 0
          have hne0 : ¬ H = g2 := by omega
          have hne1 : ¬ H + 1 = g2 := by omega
          have hne3 : ¬ H + 3 = g2 := by omega
          have hne4 : ¬ g2 = H + 3 := by omega
          refine hK.out _ _ ⟨e0, e1⟩ (fun hHeld => ?_)
          clear hK K
          try simp only [Act.put, List.setIfInBounds_toArray, List.set_cons_zero, List.set_cons_succ]
          refine wpAnyH_take (i := 8) (oi := _) (v := ?k_v12) rfl (by kernel_rfl) (by kernel_rfl) (by kernel_rfl) (fun _ _ _ h => h) (Or.inl ⟨by rfl, ?k_y12⟩) (by assumption) ?k_r12
          case k_y12 => (intro w hSw; (try dsimp only at hSw); go_simp; (try with_reducible rfl))
          try simp only [Act.put, List.setIfInBounds_toArray, List.set_cons_zero, List.set_cons_succ]
          refine wpAnyH_ready (rs := [9, 10]) (by kernel_rfl) (by simp) ?_
          refine AllReadyH.cons (o := _) rfl (fun K hK => ?_) ?_
          · go_simp
            refine hK.out _ _ (held_set5 hHeld hne0 hne1 _ _ _ _ _) (fun hHeld => ?_)
            clear hK K
            try simp only [Act.put, List.setIfInBounds_toArray, List.set_cons_zero, List.set_cons_succ]
            refine wpAnyH_ready (rs := [10]) (by kernel_rfl) (by simp) ?_
            refine AllReadyH.cons (o := _) rfl (fun K hK => ?_) ?_
            · go_simp
              refine hK.out _ _ (held_set hHeld hnv0 hnv1) (fun hHeld => ?_)
              clear hK K
              try simp only [Act.put, List.setIfInBounds_toArray, List.set_cons_zero, List.set_cons_succ]
              refine wpAnyH_done (by kernel_rfl) ?_ _
              go_end0
              exact list_fin HK.out HI.out hPH HAZ.out HLZ.out HFR.out HW5.out hr5 hsm5 (Below.refl _ _) HP7.out HG7.out hlen (.inl rfl)
            exact AllReadyH.nil
          refine AllReadyH.cons (o := _) rfl (fun K hK => ?_) ?_
          · go_simp
            refine hK.out _ _ (held_set hHeld hnv0 hnv1) (fun hHeld => ?_)
            clear hK K
            try simp only [Act.put, List.setIfInBounds_toArray, List.set_cons_zero, List.set_cons_succ]
            refine wpAnyH_ready (rs := [9]) (by kernel_rfl) (by simp) ?_
            refine AllReadyH.cons (o := _) rfl (fun K hK => ?_) ?_
            · go_simp
              refine hK.out _ _ (held_set5 hHeld hne0 hne1 _ _ _ _ _) (fun hHeld => ?_)
              clear hK K
              try simp only [Act.put, List.setIfInBounds_toArray, List.set_cons_zero, List.set_cons_succ]
              refine wpAnyH_done (by kernel_rfl) ?_ _
              go_end0
              exact list_fin HK.out HI.out hPH HAZ.out HLZ.out HFR.out HW5.out hr5 hsm5 (Below.refl _ _) HP7.out HG7.out hlen (.inr rfl)
            exact AllReadyH.nil
          exact AllReadyH.nil
        exact AllReadyH.nil
      exact AllReadyH.nil
    refine AllReadyH.cons (o := _) rfl (fun K hK => ?_) ?_
    · go_simp
      go_at_call 41; refine (HV2.out _ HBZ.out).mono ?_; rintro e w5 ⟨v5, a', rfl, hfr5, hsm5, hw5, hr5⟩
      obtain ⟨y1, y2, y3, ya, yn, yc, yk, ym, yd, rfl⟩ := hfr5.shape
      have HL5 := Lib.hid (HLZ.out.aside hw5.1 hPH)
      have d0 := HL5.out.rp.cell 0
      have d1 := HL5.out.dp.cell 0
      have d3 := HL5.out.box.cell 0
      have hrow5 := HL5.out.row
      rw [HK.out] at hrow5
      have hnews5 := news5 (HBLK.out.aside hw5.1 (by omega))
      have hb5 : H + 4 ≤ w5.heap.size := Nat.le_trans hb0z hw5.1.size
      have HFR := Lib.hid hfr5
      have HW5 := Lib.hid hw5
      clear hfr5 hw5
      refine hK.out _ _ ⟨d0, d1⟩ (fun hHeld => ?_)
      clear hK K
      try simp only [Act.put, List.setIfInBounds_toArray, List.set_cons_zero, List.set_cons_succ]
      refine wpAnyH_ready (rs := [0]) (by kernel_rfl) (by simp) ?_
      refine AllReadyH.cons (o := _) rfl (fun K hK => ?_) ?_
      · go_simp
        refine hK.out _ _ ⟨d0, d1⟩ (fun hHeld => ?_)
        clear hK K
        try simp only [Act.put, List.setIfInBounds_toArray, List.set_cons_zero, List.set_cons_succ]
        refine wpAnyH_take (i := 5) (oi := _) (v := ?k_v13) rfl (by kernel_rfl) (by kernel_rfl) (by kernel_rfl) (fun _ _ _ h => h) (Or.inl ⟨by rfl, ?k_y13⟩) (by assumption) ?k_r13
        case k_y13 => (intro w hSw; (try dsimp only at hSw); go_simp; (try with_reducible rfl))
        try simp only [Act.put, List.setIfInBounds_toArray, List.set_cons_zero, List.set_cons_succ]
        refine wpAnyH_ready (rs := [7]) (by kernel_rfl) (by simp) ?_
        refine AllReadyH.cons (o := _) rfl (fun K hK => ?_) ?_
        · refine app_item Tryz.underlying23 hiV hzV hsV hbV hzs rfl rfl rfl hrow5 rfl hnews5 hlen2 hb5 ?_
          intro g2 cap2 w7 hown7 hgrow7 hat7 hlt7
          rw [← HK.out] at hown7
          have HP7 := Lib.hid (HL5.out.append (g := g2) (cap := cap2) hown7 hgrow7 hat7)
          have HG7 := Lib.hid (And.intro hgrow7 hat7)
          clear hown7 hgrow7 hat7
          have e0 := HP7.out.rp.cell 0
          have e1 := HP7.out.dp.cell 0
          have hz := pre_cells HP7.out
          rw [HK.out] at hz
          obtain ⟨hg4, z0, z1, z2, z3, z4, x0, x1, x2, x3, x4⟩ := hz
          have xb := HP7.out.box.cell 0
          have xf := HP7.out.box.frozen 0
          have hne0 : ¬ H = g2 := by omega
          have hne1 : ¬ H + 1 = g2 := by omega
          have hne3 : ¬ H + 3 = g2 := by omega
          have hne4 : ¬ g2 = H + 3 := by omega
          refine hK.out _ _ ⟨e0, e1⟩ (fun hHeld => ?_)
          clear hK K
          try simp only [Act.put, List.setIfInBounds_toArray, List.set_cons_zero, List.set_cons_succ]
          refine wpAnyH_take (i := 8) (oi := _) (v := ?k_v14) rfl (by kernel_rfl) (by kernel_rfl) (by kernel_rfl) (fun _ _ _ h => h) (Or.inl ⟨by rfl, ?k_y14⟩) (by assumption) ?k_r14
          case k_y14 => (intro w hSw; (try dsimp only at hSw); go_simp; (try with_reducible rfl))
          try simp only [Act.put, List.setIfInBounds_toArray, List.set_cons_zero, List.set_cons_succ]
          refine wpAnyH_ready (rs := [9, 10]) (by kernel_rfl) (by simp) ?_
          refine AllReadyH.cons (o := _) rfl (fun K hK => ?_) ?_
          · go_simp
            refine hK.out _ _ (held_set5 hHeld hne0 hne1 _ _ _ _ _) (fun hHeld => ?_)
            clear hK K
            try simp only [Act.put, List.setIfInBounds_toArray, List.set_cons_zero, List.set_cons_succ]
            refine wpAnyH_ready (rs := [10]) (by kernel_rfl) (by simp) ?_
            refine AllReadyH.cons (o := _) rfl (fun K hK => ?_) ?_
            · go_simp
              refine hK.out _ _ (held_set hHeld hnv0 hnv1) (fun hHeld => ?_)
              clear hK K
              try simp only [Act.put, List.setIfInBounds_toArray, List.set_cons_zero, List.set_cons_succ]
              refine wpAnyH_done (by kernel_rfl) ?_ _
              go_end0
              exact list_fin HK.out HI.out hPH HAZ.out HLZ.out HFR.out HW5.out hr5 hsm5 (Below.refl _ _) HP7.out HG7.out hlen (.inl rfl)
            exact AllReadyH.nil
          refine AllReadyH.cons (o := _) rfl (fun K hK => ?_) ?_
          · go_simp
            refine hK.out _ _ (held_set hHeld hnv0 hnv1) (fun hHeld => ?_)
            clear hK K
            try simp only [Act.put, List.setIfInBounds_toArray, List.set_cons_zero, List.set_cons_succ]
            refine wpAnyH_ready (rs := [9]) (by kernel_rfl) (by simp) ?_
            refine AllReadyH.cons (o := _) rfl (fun K hK => ?_) ?_
            · go_simp
              refine hK.out _ _ (held_set5 hHeld hne0 hne1 _ _ _ _ _) (fun hHeld => ?_)
              clear hK K
              try simp only [Act.put, List.setIfInBounds_toArray, List.set_cons_zero, List.set_cons_succ]
              refine wpAnyH_done (by kernel_rfl) ?_ _
              go_end0
              exact list_fin HK.out HI.out hPH HAZ.out HLZ.out HFR.out HW5.out hr5 hsm5 (Below.refl _ _) HP7.out HG7.out hlen (.inr rfl)
            exact AllReadyH.nil
          exact AllReadyH.nil
        exact AllReadyH.nil
      exact AllReadyH.nil
    exact AllReadyH.nil
  exact AllReadyH.nil

set_option maxRecDepth 100000 in
set_option maxHeartbeats 8000000 in
theorem item_err {H P a n d : Nat} {dep : Int} {W : World} {t : ByteArray} {v : Value} {yy : List It} {b : Bad} (h : Rdr W P t a n) (hR : ReadyJ W) (hP7 : 7 ≤ P) (hPH : P < H) (hst : ListAt H P dep W v yy) (hlen2 : yy.length ≤ 10000) (hd0 : 0 ≤ dep) (hd1 : dep ≤ 100) (hr : valJ d (rest t a) n = .error b)
    (hv : ∀ W a n, Rdr W P t a n → ReadyJ W → Calls Tryz.prog 41 #[.pointer (some ⟨P, 0, none⟩), .int .i64 (dep + 1)] W (VEnds W P t (valJ d (rest t a) n))) :
    Calls Tryz.prog 77 #[.pointer (some ⟨H + 3, 0, none⟩), .pointer (some ⟨H, 0, none⟩), .pointer (some ⟨H + 1, 0, none⟩)] W (CEnds H W P t (ListSt H P dep) (itemJ (valJ d) (yy.map It.T) (rest t a) n)) := by
  obtain ⟨iV, zV, hiV, hzV, hzV5, hsV, hbV⟩ := info_val
  have hzs : zV.cells.size = 5 := by rw [hzV5]; rfl
  clear hzV5
  obtain ⟨ad, cap, hv0⟩ := row_shape hst.row
  obtain ⟨k, hk⟩ : ∃ k, yy.length = k := ⟨_, rfl⟩
  rw [hk] at hv0 hlen2
  subst hv0
  have HK := Lib.hid hk
  have HS := Lib.hid h
  have HR := Lib.hid hR
  have HL := Lib.hid hst
  have hmx : k + 1 ≤ maxLen := by unfold maxLen; omega
  have hcb : (k + 1) * 80 ≤ 140737488355328 := by omega
  have i0 : (0 : Int) ≤ (k : Int) := by omega
  have i1 : (k : Int) < (k : Int) + 1 := by omega
  have i2 : (k : Int) < ((k + 1 : Nat) : Int) := by omega
  have HBW : Hid (∀ X, Below (H + 4) W X → Rdr X P t a n ∧ ReadyJ X) := Lib.hid (fun X hb => ⟨⟨(hb.block P (by omega)).trans h.1, h.2⟩, hR.below7 ⟨hb.os, hb.tape, hb.output, hb.size, fun k hk => hb.block k (by omega)⟩⟩)
  have hd : IntKind.i64.wrap (dep + 1) = dep + 1 := IntWalk.i64_in _ (by omega)
  have hHW : H + 4 ≤ W.heap.size := by have := hst.box.lt; omega
  have HV2 : Hid (∀ X, Below (H + 4) W X → Calls Tryz.prog 41 #[.pointer (some ⟨P, 0, none⟩), .int .i64 (dep + 1)] X (Thrown X P t b)) := Lib.hid (fun X hb => by have := hv X a n (HBW.out X hb).1 (HBW.out X hb).2; rw [hr] at this; exact this)
  have HI : Hid (itemJ (valJ d) (yy.map It.T) (rest t a) n = .error b) := Lib.hid (by unfold itemJ; rw [hr])
  clear h hR hst hv hr hk
  go_enter Tryz.func77, Tryz.ntmps77
  go_wp2_with fail
  obtain ⟨W0, hW0⟩ : ∃ W0, W.drew = W0 := ⟨_, rfl⟩
  have HL0 : Hid (ListAt H P dep W0 (.slice ad k cap) yy) := by rw [← hW0]; exact Lib.hid (HL.out.aside (Aside.of (below_drew W)) hPH)
  have HB0 : Hid (Below (H + 4) W W0) := by rw [← hW0]; exact Lib.hid ((below_drew W).mono hHW)
  have HA0 : Hid (AsideB H P W W0) := by rw [← hW0]; exact Lib.hid ((Aside.of (below_drew W)).toB (by omega))
  have hnv0 : ¬ H = H + 3 := by omega
  have hnv1 : ¬ H + 1 = H + 3 := by omega
  have hz0 : H + 4 ≤ W0.heap.size := by rw [← hW0]; exact hHW
  have c0 := HL0.out.rp.cell 0
  have c1 := HL0.out.dp.cell 0
  have c3 := HL0.out.box.cell 0
  have HLZ := Lib.hid (HL0.out.aside (Aside.of (below_new0 W0 (.cells #[.int .i64 0, .bool false, .string ⟨#[]⟩, .slice none 0 0, .slice none 0 0] 26))) hPH)
  have HBZ : Hid (Below (H + 4) W (W0.alloc (.cells #[.int .i64 0, .bool false, .string ⟨#[]⟩, .slice none 0 0, .slice none 0 0] 26))) := Lib.hid (HB0.out.trans ((below_new0 W0 _).mono hz0))
  have HBLK := Lib.hid (Blk.new W0 #[.int .i64 0, .bool false, .string ⟨#[]⟩, .slice none 0 0, .slice none 0 0] 26)
  have hbz : ∀ X : World, H + 4 ≤ X.heap.size → H + 4 ≤ (X.alloc (.cells #[.int .i64 0, .bool false, .string ⟨#[]⟩, .slice none 0 0, .slice none 0 0] 26)).heap.size := fun X h => Nat.le_trans h (below_new0 X _).size
  have hb0z := hbz W0 hz0
  have HBZ9 := Lib.hid hbz
  clear hbz
  have hnews0 := news5 HBLK.out
  have hrow0 := HLZ.out.row
  have c3z := HLZ.out.box.cell 0
  have ca0 := HLZ.out.rp.cell 0
  have ca1 := HLZ.out.dp.cell 0
  rw [HK.out] at hrow0
  have hz0' : H ≤ W0.heap.size := by omega
  have HAZ : Hid (AsideB H P W (W0.alloc (.cells #[.int .i64 0, .bool false, .string ⟨#[]⟩, .slice none 0 0, .slice none 0 0] 26))) := Lib.hid (HA0.out.trans ((Aside.of (below_new0 W0 _)).toB hz0'))
  refine wp_region_held_drew (S := fun w' => w'.cell? ⟨H, 0, none⟩ = some (.pointer (some ⟨P, 0, none⟩)) ∧ w'.cell? ⟨H + 1, 0, none⟩ = some (.int .i64 dep)) (by kernel_rfl) ?_ (fun hHeld => ?_)
  · rw [hW0]; exact ⟨c0, c1⟩
  rw [hW0] at hHeld ⊢
  refine wpAnyH_take (i := 1) (oi := _) (v := ?e_v1) rfl (by kernel_rfl) (by kernel_rfl) (by kernel_rfl) (fun _ _ _ h => h) (Or.inl ⟨by rfl, ?e_y1⟩) (by assumption) ?e_r1
  case e_y1 => (intro w hSw; (try dsimp only at hSw); go_simp; (try with_reducible rfl))
  try simp only [Act.put, List.setIfInBounds_toArray, List.set_cons_zero, List.set_cons_succ]
  refine wpAnyH_take (i := 2) (oi := _) (v := ?e_v2) rfl (by kernel_rfl) (by kernel_rfl) (by kernel_rfl) (fun _ _ _ h => h) (Or.inl ⟨by rfl, ?e_y2⟩) (by assumption) ?e_r2
  case e_y2 => (intro w hSw; (try dsimp only at hSw); go_simp; (try with_reducible rfl))
  try simp only [Act.put, List.setIfInBounds_toArray, List.set_cons_zero, List.set_cons_succ]
  refine wpAnyH_take (i := 3) (oi := _) (v := ?e_v3) rfl (by kernel_rfl) (by kernel_rfl) (by kernel_rfl) (fun _ _ _ h => h) (Or.inl ⟨by rfl, ?e_y3⟩) (by assumption) ?e_r3
  case e_y3 => (intro w hSw; (try dsimp only at hSw); go_simp; (try with_reducible rfl))
  try simp only [Act.put, List.setIfInBounds_toArray, List.set_cons_zero, List.set_cons_succ]
  refine wpAnyH_ready (rs := [0, 4, 6]) (by kernel_rfl) (by simp) ?_
  refine AllReadyH.cons (o := _) rfl (fun K hK => ?_) ?_
  · go_simp
    refine hK.out _ _ ⟨c0, c1⟩ (fun hHeld => ?_)
    clear hK K
    try simp only [Act.put, List.setIfInBounds_toArray, List.set_cons_zero, List.set_cons_succ]
    refine wpAnyH_take (i := 5) (oi := _) (v := ?e_v4) rfl (by kernel_rfl) (by kernel_rfl) (by kernel_rfl) (fun _ _ _ h => h) (Or.inl ⟨by rfl, ?e_y4⟩) (by assumption) ?e_r4
    case e_y4 => (intro w hSw; (try dsimp only at hSw); go_simp; (try with_reducible rfl))
    try simp only [Act.put, List.setIfInBounds_toArray, List.set_cons_zero, List.set_cons_succ]
    refine wpAnyH_ready (rs := [4, 6]) (by kernel_rfl) (by simp) ?_
    refine AllReadyH.cons (o := _) rfl (fun K hK => ?_) ?_
    · go_simp
      go_at_call 41; refine (HV2.out _ HB0.out).mono ?_; rintro e w5 ⟨D, rfl, h1, h2, h3⟩
      refine ⟨rfl, ?_⟩
      rw [HI.out]
      exact ThrownB.after (Thrown.toB ⟨D, rfl, h1, h2, h3⟩ hz0') HA0.out
    refine AllReadyH.cons (o := _) rfl (fun K hK => ?_) ?_
    · go_simp
      refine hK.out _ _ ⟨ca0, ca1⟩ (fun hHeld => ?_)
      clear hK K
      try simp only [Act.put, List.setIfInBounds_toArray, List.set_cons_zero, List.set_cons_succ]
      refine wpAnyH_ready (rs := [4]) (by kernel_rfl) (by simp) ?_
      refine AllReadyH.cons (o := _) rfl (fun K hK => ?_) ?_
      · go_simp
        go_at_call 41; refine (HV2.out _ HBZ.out).mono ?_; rintro e w5 ⟨D, rfl, h1, h2, h3⟩
        refine ⟨rfl, ?_⟩
        rw [HI.out]
        exact ThrownB.after (Thrown.toB ⟨D, rfl, h1, h2, h3⟩ (Nat.le_trans hz0' (below_new0 W0 _).size)) HAZ.out
      exact AllReadyH.nil
    exact AllReadyH.nil
  refine AllReadyH.cons (o := _) rfl (fun K hK => ?_) ?_
  · go_simp
    go_at_call 41; refine (HV2.out _ HB0.out).mono ?_; rintro e w5 ⟨D, rfl, h1, h2, h3⟩
    refine ⟨rfl, ?_⟩
    rw [HI.out]
    exact ThrownB.after (Thrown.toB ⟨D, rfl, h1, h2, h3⟩ hz0') HA0.out
  refine AllReadyH.cons (o := _) rfl (fun K hK => ?_) ?_
  · go_simp
    refine hK.out _ _ ⟨ca0, ca1⟩ (fun hHeld => ?_)
    clear hK K
    try simp only [Act.put, List.setIfInBounds_toArray, List.set_cons_zero, List.set_cons_succ]
    refine wpAnyH_ready (rs := [0, 4]) (by kernel_rfl) (by simp) ?_
    refine AllReadyH.cons (o := _) rfl (fun K hK => ?_) ?_
    · go_simp
      refine hK.out _ _ ⟨ca0, ca1⟩ (fun hHeld => ?_)
      clear hK K
      try simp only [Act.put, List.setIfInBounds_toArray, List.set_cons_zero, List.set_cons_succ]
      refine wpAnyH_take (i := 5) (oi := _) (v := ?e_v5) rfl (by kernel_rfl) (by kernel_rfl) (by kernel_rfl) (fun _ _ _ h => h) (Or.inl ⟨by rfl, ?e_y5⟩) (by assumption) ?e_r5
      case e_y5 => (intro w hSw; (try dsimp only at hSw); go_simp; (try with_reducible rfl))
      try simp only [Act.put, List.setIfInBounds_toArray, List.set_cons_zero, List.set_cons_succ]
      refine wpAnyH_ready (rs := [4]) (by kernel_rfl) (by simp) ?_
      refine AllReadyH.cons (o := _) rfl (fun K hK => ?_) ?_
      · go_simp
        go_at_call 41; refine (HV2.out _ HBZ.out).mono ?_; rintro e w5 ⟨D, rfl, h1, h2, h3⟩
        refine ⟨rfl, ?_⟩
        rw [HI.out]
        exact ThrownB.after (Thrown.toB ⟨D, rfl, h1, h2, h3⟩ (Nat.le_trans hz0' (below_new0 W0 _).size)) HAZ.out
      exact AllReadyH.nil
    refine AllReadyH.cons (o := _) rfl (fun K hK => ?_) ?_
    · go_simp
      go_at_call 41; refine (HV2.out _ HBZ.out).mono ?_; rintro e w5 ⟨D, rfl, h1, h2, h3⟩
      refine ⟨rfl, ?_⟩
      rw [HI.out]
      exact ThrownB.after (Thrown.toB ⟨D, rfl, h1, h2, h3⟩ (Nat.le_trans hz0' (below_new0 W0 _).size)) HAZ.out
    exact AllReadyH.nil
  exact AllReadyH.nil

end Go.Proofs.YtnmfoedfllmclaaGreatDoor
