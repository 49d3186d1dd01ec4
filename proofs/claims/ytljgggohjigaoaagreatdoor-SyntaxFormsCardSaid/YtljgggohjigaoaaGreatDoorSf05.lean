/- SyntaxForms: the makes -/
import Derived.Deep.RegionWith
import Derived.Deep.RegionHeld
import Derived.Test.YtljgggohjigaoaaGreatDoorSf04
namespace Go.Proofs.YtljgggohjigaoaaGreatDoor
open Go.RowKit Go.Shelf
set_option linter.unusedVariables false
set_option linter.unusedSimpArgs false

set_option maxRecDepth 100000 in
set_option maxHeartbeats 8000000 in
theorem forms_ok {W : World} {t : ByteArray} {f : Fi} (hp : parseF (t.extract 0 (min t.size 6000)) = .ok f) (hR : ReadyP W) :
    Calls Tryz.prog 3 #[.string t] W fun e w' => e = .returned (.bool true) ∧ Below W.heap.size W w' := by
  obtain ⟨iI, hiI, hzI, hsI, hbI⟩ := info_of infoInt0
  have hU := parse_use hp
  have hL := parse_len hp
  have HC := Lib.hid (fun w => cut_any (W := w) t)
  obtain ⟨u, hu⟩ : ∃ u, t.extract 0 (min t.size 6000) = u := ⟨_, rfl⟩
  rw [hu] at hp hU hL HC
  have HP : Hid (∀ w, ReadyP w → Calls Tryz.prog 11 #[.string u] w (ParE w (.ok f))) := Lib.hid (fun w hw => by
    have := parse_any (t := u) hw
    rw [hp] at this
    exact this)
  have HA := Lib.hid (awake5 hR)
  have HR := Lib.hid hR
  have HU := Lib.hid hU
  clear hp hR hu hU
  go_enter Tryz.func3, Tryz.ntmps3
  go_wp2_with fail
  go_at_call 9; refine HA.out.mono ?_; rintro r w1 ⟨rfl, hb1⟩
  have HB1 := Lib.hid hb1
  have HCL := Lib.hid (HP.out w1 (HR.out.below hb1))
  clear hb1 HA HP HR
  go_wp2_with fail
  go_at_call 10; refine (HC.out w1).mono ?_; rintro r w2 ⟨rfl, rfl⟩
  clear HC
  go_wp2_with fail
  go_at_call 11; refine HCL.out.mono ?_
  rintro r w4 ⟨hb4, m, F, lo, rfl, hfo, -, -⟩
  obtain ⟨⟨aE, cE, eE⟩, ⟨aB, cB, eB⟩, aT, cT, eT⟩ := hfo.slices
  obtain ⟨nE, hnE⟩ : ∃ n, f.exprs.length = n := ⟨_, rfl⟩
  obtain ⟨nB, hnB⟩ : ∃ n, f.blocks.length = n := ⟨_, rfl⟩
  obtain ⟨nT, hnT⟩ : ∃ n, f.top.length = n := ⟨_, rfl⟩
  rw [hnE] at eE
  rw [hnB] at eB
  rw [hnT] at eT
  rw [hnE, hnB] at hL
  rw [eE, eB, eT]
  have s45 := below_new w4 (.cells #[.slice aE nE cE, .slice aB nB cB, .slice aT nT cT] 28)
  have b5 := Blk.new w4 #[.slice aE nE cE, .slice aB nB cB, .slice aT nT cT] 28
  obtain ⟨w5, hw5⟩ : ∃ w5, w4.alloc (.cells #[.slice aE nE cE, .slice aB nB cB, .slice aT nT cT] 28) = w5 := ⟨_, rfl⟩
  rw [hw5] at s45 b5
  have k0 := b5.cell 0
  have k1 := b5.cell 1
  have k2 := b5.cell 2
  have HB5 := Lib.hid (HB1.out.trans ((hb4.mono HB1.out.size).trans (s45.mono (Nat.le_trans HB1.out.size hb4.size))))
  have HC5 := Lib.hid b5
  have HF5 := Lib.hid (And.intro (hfo.below s45) (And.intro eE (And.intro eB eT)))
  have HNN := Lib.hid (And.intro hnE (And.intro hnB hnT))
  have HW5 := Lib.hid hw5
  clear b5 s45 hb4 hfo HCL HB1 hw5 eE eB eT hnE hnB hnT
  go_wp2_with fail
  rw [HW5.out]
  refine have AFTER : (∀ (wb : World) (g5 g6 : Nat), FSt w5 wb g5 g6 nE nB [] [] → (?G : World → Nat → Nat → Prop) wb g5 g6) := ?later; ?main
  case main =>
    refine wp_region_held_drew (S := fun w' => Blk w' w4.heap.size #[.slice aE nE cE, .slice aB nB cB, .slice aT nT cT] 28) (by kernel_rfl) HC5.out (fun hHeld => ?_)
    refine wpAnyH_take (i := 0) (oi := _) (v := ?q_v0) rfl (by kernel_rfl) (by kernel_rfl) (by kernel_rfl) (fun _ _ _ h => h) (Or.inl ⟨by rfl, ?q_y0⟩) (by assumption) ?q_r0
    case q_y0 => (intro w hSw; have z0 := hSw.cell 0; have z1 := hSw.cell 1; clear hSw; go_simp; (try with_reducible rfl))
    try simp only [Act.put, List.setIfInBounds_toArray, List.set_cons_zero, List.set_cons_succ]
    refine wpAnyH_take (i := 1) (oi := _) (v := ?q_v1) rfl (by kernel_rfl) (by kernel_rfl) (by kernel_rfl) (fun _ _ _ h => h) (Or.inl ⟨by rfl, ?q_y1⟩) (by assumption) ?q_r1
    case q_y1 => (intro w hSw; have z0 := hSw.cell 0; have z1 := hSw.cell 1; clear hSw; go_simp; (try with_reducible rfl))
    try simp only [Act.put, List.setIfInBounds_toArray, List.set_cons_zero, List.set_cons_succ]
    refine wpAnyH_take (i := 2) (oi := _) (v := ?q_v2) rfl (by kernel_rfl) (by kernel_rfl) (by kernel_rfl) (fun _ _ _ h => h) (Or.inl ⟨by rfl, ?q_y2⟩) (by assumption) ?q_r2
    case q_y2 => (intro w hSw; have z0 := hSw.cell 0; have z1 := hSw.cell 1; clear hSw; go_simp; (try with_reducible rfl))
    try simp only [Act.put, List.setIfInBounds_toArray, List.set_cons_zero, List.set_cons_succ]
    refine wpAnyH_take (i := 4) (oi := _) (v := ?q_v4) rfl (by kernel_rfl) (by kernel_rfl) (by kernel_rfl) (fun _ _ _ h => h) (Or.inl ⟨by rfl, ?q_y4⟩) (by assumption) ?q_r4
    case q_y4 => (intro w hSw; have z0 := hSw.cell 0; have z1 := hSw.cell 1; clear hSw; go_simp; (try with_reducible rfl))
    try simp only [Act.put, List.setIfInBounds_toArray, List.set_cons_zero, List.set_cons_succ]
    refine wpAnyH_take (i := 5) (oi := _) (v := ?q_v5) rfl (by kernel_rfl) (by kernel_rfl) (by kernel_rfl) (fun _ _ _ h => h) (Or.inl ⟨by rfl, ?q_y5⟩) (by assumption) ?q_r5
    case q_y5 => (intro w hSw; have z0 := hSw.cell 0; have z1 := hSw.cell 1; clear hSw; go_simp; (try with_reducible rfl))
    try simp only [Act.put, List.setIfInBounds_toArray, List.set_cons_zero, List.set_cons_succ]
    refine wpAnyH_take (i := 6) (oi := _) (v := ?q_v6) rfl (by kernel_rfl) (by kernel_rfl) (by kernel_rfl) (fun _ _ _ h => h) (Or.inl ⟨by rfl, ?q_y6⟩) (by assumption) ?q_r6
    case q_y6 => (intro w hSw; have z0 := hSw.cell 0; have z1 := hSw.cell 1; clear hSw; go_simp; (try with_reducible rfl))
    try simp only [Act.put, List.setIfInBounds_toArray, List.set_cons_zero, List.set_cons_succ]
    obtain ⟨wax, hrax, hcax, hlax⟩ := make_cnt_drew w5 nE (by omega)
    obtain ⟨way, hray, hcay, hlay⟩ := make_cnt_drew w5 nB (by omega)
    refine wpAnyH_ready (rs := [3, 7]) (by kernel_rfl) (by simp) ?_
    refine AllReadyH.cons (o := _) rfl (fun K hK => ?_) ?_
    · go_simp
      refine hK.out _ _ (HC5.out.below hlax) (fun hHeld => ?_)
      clear hrax
      clear hK K
      try simp only [Act.put, List.setIfInBounds_toArray, List.set_cons_zero, List.set_cons_succ]
      refine wpAnyH_take (i := 8) (oi := _) (v := ?rx_v8) rfl (by kernel_rfl) (by kernel_rfl) (by kernel_rfl) (fun _ _ _ h => h) (Or.inl ⟨by rfl, ?rx_y8⟩) (by assumption) ?rx_r8
      case rx_y8 => (intro w hSw; have z0 := hSw.cell 0; have z1 := hSw.cell 1; clear hSw; go_simp; (try with_reducible rfl))
      try simp only [List.getElem_toArray, List.getElem_cons_succ, List.getElem_cons_zero]
      try simp only [Act.put, List.setIfInBounds_toArray, List.set_cons_zero, List.set_cons_succ]
      obtain ⟨wbx, hrbx, hcbx, hlbx⟩ := make_cnt wax nB (by omega)
      refine wpAnyH_ready (rs := [7]) (by kernel_rfl) (by simp) ?_
      refine AllReadyH.cons (o := _) rfl (fun K hK => ?_) AllReadyH.nil
      go_simp
      refine hK.out _ _ ((HC5.out.below hlax).below hlbx) (fun hHeld => ?_)
      clear hrbx
      clear hK K
      try simp only [Act.put, List.setIfInBounds_toArray, List.set_cons_zero, List.set_cons_succ]
      refine wpAnyH_take (i := 9) (oi := _) (v := ?rx_v9) rfl (by kernel_rfl) (by kernel_rfl) (by kernel_rfl) (fun _ _ _ h => h) (Or.inl ⟨by rfl, ?rx_y9⟩) (by assumption) ?rx_r9
      case rx_y9 => (intro w hSw; have z0 := hSw.cell 0; have z1 := hSw.cell 1; clear hSw; go_simp; (try with_reducible rfl))
      try simp only [List.getElem_toArray, List.getElem_cons_succ, List.getElem_cons_zero]
      try simp only [Act.put, List.setIfInBounds_toArray, List.set_cons_zero, List.set_cons_succ]
      refine wpAnyH_done (by kernel_rfl) ?_ _
      have HST : FSt w5 wbx w5.heap.size wax.heap.size nE nB [] [] := ⟨hlax.trans (hlbx.mono hlax.size), hcax.same (hlbx.block _ hcax.lt), hcbx, Nat.le_refl _, hlax.size, Nat.ne_of_lt hcax.lt⟩
      obtain ⟨p5, hp5⟩ : ∃ g, w5.heap.size = g := ⟨_, rfl⟩
      obtain ⟨p6, hp6⟩ : ∃ g, wax.heap.size = g := ⟨_, rfl⟩
      rw [hp5, hp6] at HST ⊢
      exact AFTER wbx p5 p6 HST
    · refine AllReadyH.cons (o := _) rfl (fun K hK => ?_) AllReadyH.nil
      go_simp
      refine hK.out _ _ (HC5.out.below hlay) (fun hHeld => ?_)
      clear hray
      clear hK K
      try simp only [Act.put, List.setIfInBounds_toArray, List.set_cons_zero, List.set_cons_succ]
      obtain ⟨wby, hrby, hcby, hlby⟩ := make_cnt way nE (by omega)
      refine wpAnyH_ready (rs := [3]) (by kernel_rfl) (by simp) ?_
      refine AllReadyH.cons (o := _) rfl (fun K hK => ?_) AllReadyH.nil
      go_simp
      refine hK.out _ _ ((HC5.out.below hlay).below hlby) (fun hHeld => ?_)
      clear hrby
      clear hK K
      try simp only [Act.put, List.setIfInBounds_toArray, List.set_cons_zero, List.set_cons_succ]
      refine wpAnyH_take (i := 8) (oi := _) (v := ?ry_v8) rfl (by kernel_rfl) (by kernel_rfl) (by kernel_rfl) (fun _ _ _ h => h) (Or.inl ⟨by rfl, ?ry_y8⟩) (by assumption) ?ry_r8
      case ry_y8 => (intro w hSw; have z0 := hSw.cell 0; have z1 := hSw.cell 1; clear hSw; go_simp; (try with_reducible rfl))
      try simp only [List.getElem_toArray, List.getElem_cons_succ, List.getElem_cons_zero]
      try simp only [Act.put, List.setIfInBounds_toArray, List.set_cons_zero, List.set_cons_succ]
      refine wpAnyH_take (i := 9) (oi := _) (v := ?ry_v9) rfl (by kernel_rfl) (by kernel_rfl) (by kernel_rfl) (fun _ _ _ h => h) (Or.inl ⟨by rfl, ?ry_y9⟩) (by assumption) ?ry_r9
      case ry_y9 => (intro w hSw; have z0 := hSw.cell 0; have z1 := hSw.cell 1; clear hSw; go_simp; (try with_reducible rfl))
      try simp only [List.getElem_toArray, List.getElem_cons_succ, List.getElem_cons_zero]
      try simp only [Act.put, List.setIfInBounds_toArray, List.set_cons_zero, List.set_cons_succ]
      refine wpAnyH_done (by kernel_rfl) ?_ _
      have HST : FSt w5 wby way.heap.size w5.heap.size nE nB [] [] := ⟨hlay.trans (hlby.mono hlay.size), hcby, hcay.same (hlby.block _ hcay.lt), hlay.size, Nat.le_refl _, Nat.ne_of_gt hcay.lt⟩
      obtain ⟨p5, hp5⟩ : ∃ g, way.heap.size = g := ⟨_, rfl⟩
      obtain ⟨p6, hp6⟩ : ∃ g, w5.heap.size = g := ⟨_, rfl⟩
      rw [hp5, hp6] at HST ⊢
      exact AFTER wby p5 p6 HST
  case later =>
    intro wb g5 g6 hst
    have HST := Lib.hid hst
    clear hst
    have hle := HU.out.lenK
    have HLE := Lib.hid hle
    clear hle k0 k1 k2
    have k0 := (HC5.out.below HST.out.below).cell 0
    go_wp2_with fail
    clear k0
    go_loopg [71] (nE + 1) (fun gf s71 wx => ∃ i : Nat, s71 = .int .i64 (i : Int) ∧ Hid (FSt w5 wx g5 g6 nE nB ((f.exprs.take i).flatMap Ex.args) []) ∧ i + gf = nE + 1)
    case atStart => exact ⟨0, rfl, HST, by omega⟩
    case round =>
      obtain ⟨i, rfl, HSi, hgf⟩ := hrel
      by_cases hi : i < nE
      · obtain ⟨g', rfl⟩ : ∃ g', gk = g' + 1 := ⟨gk - 1, by omega⟩
        obtain ⟨e, he⟩ : ∃ e, f.exprs[i]? = some e := ⟨_, List.getElem?_eq_getElem (by rw [HNN.out.1]; exact hi)⟩
        obtain ⟨gE, cE', av, kv, e0, hcE, hx⟩ := HF5.out.1.ex he
        rw [HF5.out.2.1, HNN.out.1] at e0
        cases e0
        rw [HNN.out.1] at hcE
        obtain ⟨nA, hnA⟩ : ∃ n, e.args.length = n := ⟨_, rfl⟩
        obtain ⟨nK, hnK⟩ : ∃ n, e.keys.length = n := ⟨_, rfl⟩
        obtain ⟨⟨adA, cA, eA⟩, hrowA⟩ := hx.args
        obtain ⟨⟨adK, cK, eK⟩, -⟩ := hx.keys
        rw [hnA] at eA hrowA
        rw [hnK] at eK
        have hnA2 : nA ≤ i := by rw [← hnA]; exact HU.out.lenA he
        have hat : e.at_ < u.size := HU.out.at_ e (List.mem_of_getElem? he)
        have hxr := hx.below HSi.out.below
        have r0 := hxr.c_k
        have r1 := hxr.c_x
        have r2 := hxr.c_av
        have r3 := hxr.c_kv
        have r4 := hxr.c_at_
        rw [eA] at r2
        rw [eK] at r3
        have q1 : (i : Int) < (nE : Int) := by omega
        have q0 : (0 : Int) ≤ (i : Int) := by omega
        have q2 : ¬ (e.at_ : Int) < 0 := by omega
        have q3 : ¬ (u.size : Int) ≤ (e.at_ : Int) := by omega
        have bE := Blk.new wr #[.int .i64 e.k, .string e.x, .slice adA nA cA, .slice adK nK cK, .int .i64 (e.at_ : Int)] 38
        have t4 := bE.cell 4
        have t2 := bE.cell 2
        obtain ⟨w6, hw6⟩ : ∃ w6, (wr.alloc (.cells #[.int .i64 e.k, .string e.x, .slice adA nA cA, .slice adK nK cK, .int .i64 (e.at_ : Int)] 38)) = w6 := ⟨_, rfl⟩
        have HSL : Hid (FSt w5 w6 g5 g6 nE nB ((f.exprs.take i).flatMap Ex.args ++ e.args.take 0) []) := Lib.hid (by
          rw [← hw6, List.take_zero, List.append_nil]
          exact HSi.out.more (below_new _ _))
        have HW6 := Lib.hid hw6
        have HE := Lib.hid (And.intro he (And.intro hnA (And.intro eA hrowA)))
        clear hx hxr bE hw6 he hnA hnK eA eK hrowA hat
        go_wp2_with fail
        rw [HW6.out]
        clear r0 r1 r2 r3 r4 t4 t2
        go_loopg [89] (nA + 1) (fun gf s89 wx => ∃ j : Nat, s89 = .int .i64 (j : Int) ∧ Hid (FSt w5 wx g5 g6 nE nB ((f.exprs.take i).flatMap Ex.args ++ e.args.take j) []) ∧ j + gf = nA + 1)
        case atStart => exact ⟨0, rfl, HSL, by omega⟩
        case round =>
          obtain ⟨j, rfl, HSj, hgj⟩ := hrel
          by_cases hj : j < nA
          · obtain ⟨gj', rfl⟩ : ∃ g', gk = g' + 1 := ⟨gk - 1, by omega⟩
            obtain ⟨he, hnA, eA, hrowA⟩ := HE.out
            obtain ⟨a, ha⟩ : ∃ a, e.args[j]? = some a := ⟨_, List.getElem?_eq_getElem (by omega)⟩
            have hai : a < i := HU.out.args i e he a (List.mem_of_getElem? ha)
            have hcb := HU.out.once a (subA he j)
            rcases hrowA with h0 | ⟨gA, cA', e1, hcA, hgA, hr⟩
            · omega
            have e2 := eA.symm.trans e1
            cases e2
            have rA := cells_keep HSj.out.below (hr j (.int .i64 (a : Int)) (by unfold intsV; rw [List.getElem?_map, ha]; rfl))
            have HT := Lib.hid (take_snoc ha)
            have hcn := HSj.out.c5
            obtain ⟨c, hc⟩ : ∃ c, ((f.exprs.take i).flatMap Ex.args ++ e.args.take j).count a = c := ⟨_, rfl⟩
            have hs9 := HSj.out.inc5 a
            rw [hc] at hs9
            have v5 := hcn.cell (j := a) (by omega)
            rw [hc] at v5
            have f5 := hcn.frozen a
            have HS9 := Lib.hid hs9
            have u0 : (0 : Int) ≤ (c : Int) := by omega
            have u1 : (c : Int) ≤ 1 := by omega
            clear hcn hs9
            have u2 : ¬ (a : Int) < 0 := by omega
            have u3 : ¬ (i : Int) ≤ (a : Int) := by omega
            have u4 : (0 : Int) ≤ (a : Int) := by omega
            have u5 : (a : Int) < (nE : Int) := by omega
            have u6 : (j : Int) < (nA : Int) := by omega
            have u7 : (0 : Int) ≤ (j : Int) := by omega
            clear he hnA eA e1 hr ha hcb hc
            go_wp2_with fail
            go_roundg gj'
            case measure => omega
            case rel => exact ⟨j + 1, by push_cast; rfl, Lib.hid (by rw [HT.out, ← List.append_assoc]; exact HS9.out), by omega⟩
          · have u6 : ¬ (j : Int) < (nA : Int) := by omega
            have HFL := Lib.hid (flat_take (g := Ex.args) HE.out.1)
            have HTL : Hid (e.args.take j = e.args) := Lib.hid (List.take_of_length_le (by rw [HE.out.2.1]; omega))
            go_wp2_with fail
            go_roundg g'
            case measure => omega
            case rel => exact ⟨i + 1, by push_cast; rfl, Lib.hid (by rw [HFL.out]; have := HSj.out; rw [HTL.out] at this; exact this), by omega⟩
      · have q1 : ¬ (i : Int) < (nE : Int) := by omega
        have HS1 : Hid (FSt w5 wr g5 g6 nE nB (f.exprs.flatMap Ex.args) []) := Lib.hid (by have := HSi.out; rw [List.take_of_length_le (by rw [HNN.out.1]; omega)] at this; exact this)
        clear HSi HST
        have k1 := (HC5.out.below HS1.out.below).cell 1
        go_wp2_with fail
        clear k1
        go_loopg [111] (nB + 1) (fun gf s111 wx => ∃ i : Nat, s111 = .int .i64 (i : Int) ∧ Hid (FSt w5 wx g5 g6 nE nB (f.exprs.flatMap Ex.args ++ (f.blocks.take i).flatMap (fun b : Bl => b.attrs.map AtS.e)) ((f.blocks.take i).flatMap Bl.blocks)) ∧ i + gf = nB + 1)
        case atStart => exact ⟨0, rfl, Lib.hid (by simpa using HS1.out), by omega⟩
        case round =>
          obtain ⟨i, rfl, HSi, hgf⟩ := hrel
          clear HS1
          by_cases hi : i < nB
          · obtain ⟨g', rfl⟩ : ∃ g', gk = g' + 1 := ⟨gk - 1, by omega⟩
            obtain ⟨b, hb⟩ : ∃ b, f.blocks[i]? = some b := ⟨_, List.getElem?_eq_getElem (by rw [HNN.out.2.1]; exact hi)⟩
            obtain ⟨gB, cB', lv, av, bv, e0, hcB, hx⟩ := HF5.out.1.bl hb
            rw [HF5.out.2.2.1, HNN.out.2.1] at e0
            cases e0
            rw [HNN.out.2.1] at hcB
            obtain ⟨nL, hnL⟩ : ∃ n, b.labels.length = n := ⟨_, rfl⟩
            obtain ⟨nA, hnA⟩ : ∃ n, b.attrs.length = n := ⟨_, rfl⟩
            obtain ⟨nK, hnK⟩ : ∃ n, b.blocks.length = n := ⟨_, rfl⟩
            obtain ⟨⟨adL, cL, eL⟩, -⟩ := hx.labels
            obtain ⟨⟨adA, cA, eA⟩, hrowA⟩ := hx.attrs
            obtain ⟨⟨adK, cK, eK⟩, hrowK⟩ := hx.blocks
            rw [hnL] at eL
            rw [hnA] at eA hrowA
            rw [hnK] at eK hrowK
            have hnA2 : nA ≤ nE := by rw [← hnA, ← HNN.out.1]; exact HU.out.lenT hb
            have hnK2 : nK ≤ i := by rw [← hnK]; exact HU.out.lenB hb
            have hxr := hx.below HSi.out.below
            have r0 := hxr.c_t
            have r1 := hxr.c_lv
            have r2 := hxr.c_av
            have r3 := hxr.c_bv
            have r4 := hxr.c_at_
            rw [eL] at r1
            rw [eA] at r2
            rw [eK] at r3
            have q1 : (i : Int) < (nB : Int) := by omega
            have q0 : (0 : Int) ≤ (i : Int) := by omega
            have bE := Blk.new wr #[.string b.t, .slice adL nL cL, .slice adA nA cA, .slice adK nK cK, .int .i64 (b.at_ : Int)] 41
            have t2 := bE.cell 2
            obtain ⟨w6, hw6⟩ : ∃ w6, (wr.alloc (.cells #[.string b.t, .slice adL nL cL, .slice adA nA cA, .slice adK nK cK, .int .i64 (b.at_ : Int)] 41)) = w6 := ⟨_, rfl⟩
            have HSL : Hid (FSt w5 w6 g5 g6 nE nB ((f.exprs.flatMap Ex.args ++ (f.blocks.take i).flatMap (fun b : Bl => b.attrs.map AtS.e)) ++ (b.attrs.map AtS.e).take 0) ((f.blocks.take i).flatMap Bl.blocks)) := Lib.hid (by
              rw [← hw6, List.take_zero, List.append_nil]
              exact HSi.out.more (below_new _ _))
            have hne5 : wr.heap.size ≠ g5 := Nat.ne_of_gt HSi.out.c5.lt
            have HBk : Hid (Blk w6 wr.heap.size #[.string b.t, .slice adL nL cL, .slice adA nA cA, .slice adK nK cK, .int .i64 (b.at_ : Int)] 41) := Lib.hid (by rw [← hw6]; exact bE)
            have HW6 := Lib.hid hw6
            have HE := Lib.hid (And.intro hb (And.intro hnA (And.intro eA hrowA)))
            have HK := Lib.hid (And.intro hnK (And.intro eK hrowK))
            clear hx hxr bE hw6 hb hnA hnK hnL eA eK eL hrowA hrowK
            go_wp2_with fail
            rw [HW6.out]
            clear r0 r1 r2 r3 r4 t2
            obtain ⟨Bk, hBk⟩ : ∃ k, wr.heap.size = k := ⟨_, rfl⟩
            rw [hBk] at HBk hne5 ⊢
            have HNE := Lib.hid hne5
            clear hne5 hBk HW6
            go_loopg [119] (nA + 1) (fun gf s119 wx => ∃ j : Nat, s119 = .int .i64 (j : Int) ∧ Hid (FSt w5 wx g5 g6 nE nB ((f.exprs.flatMap Ex.args ++ (f.blocks.take i).flatMap (fun b : Bl => b.attrs.map AtS.e)) ++ (b.attrs.map AtS.e).take j) ((f.blocks.take i).flatMap Bl.blocks)) ∧ Hid (Blk wx Bk #[.string b.t, .slice adL nL cL, .slice adA nA cA, .slice adK nK cK, .int .i64 (b.at_ : Int)] 41) ∧ j + gf = nA + 1)
            case atStart => exact ⟨0, rfl, HSL, HBk, by omega⟩
            case round =>
              obtain ⟨j, rfl, HSj, HBj, hgj⟩ := hrel
              by_cases hj : j < nA
              · obtain ⟨gj', rfl⟩ : ∃ g', gk = g' + 1 := ⟨gk - 1, by omega⟩
                obtain ⟨hb, hnA, eA, hrowA⟩ := HE.out
                obtain ⟨a, ha⟩ : ∃ a, b.attrs[j]? = some a := ⟨_, List.getElem?_eq_getElem (by omega)⟩
                have hae : (b.attrs.map AtS.e)[j]? = some a.e := by rw [List.getElem?_map, ha]; rfl
                have hai := HU.out.attrs b (List.mem_of_getElem? hb) a (List.mem_of_getElem? ha)
                rw [HNN.out.1] at hai
                have hcb := HU.out.once a.e (subT hb j)
                rcases hrowA with h0 | ⟨gA, cA', e1, hcA, hgA, hr⟩
                · omega
                have e2 := eA.symm.trans e1
                cases e2
                have s0 := cells_keep HSj.out.below (hr (j * 3 + 0) (.string a.n) ((flat_at AtS.cells 3 (fun _ => rfl) _ j 0 a ha (by omega)).trans rfl))
                have s1 := cells_keep HSj.out.below (hr (j * 3 + 1) (.int .i64 (a.e : Int)) ((flat_at AtS.cells 3 (fun _ => rfl) _ j 1 a ha (by omega)).trans rfl))
                have s2 := cells_keep HSj.out.below (hr (j * 3 + 2) (.int .i64 (a.at_ : Int)) ((flat_at AtS.cells 3 (fun _ => rfl) _ j 2 a ha (by omega)).trans rfl))
                rw [Nat.add_zero] at s0
                have bA := Blk.new wr #[.string a.n, .int .i64 (a.e : Int), .int .i64 (a.at_ : Int)] 43
                have t0 := bA.cell 0
                have t1 := bA.cell 1
                have HSA := Lib.hid (HSj.out.more (below_new wr (.cells #[.string a.n, .int .i64 (a.e : Int), .int .i64 (a.at_ : Int)] 43)))
                have k0 := (HC5.out.below HSA.out.below).cell 0
                have HT := Lib.hid (take_snoc hae)
                have hcn := HSA.out.c5
                obtain ⟨c, hc⟩ : ∃ c, ((f.exprs.flatMap Ex.args ++ (f.blocks.take i).flatMap (fun b : Bl => b.attrs.map AtS.e)) ++ (b.attrs.map AtS.e).take j).count a.e = c := ⟨_, rfl⟩
                have hs9 := HSA.out.inc5 a.e
                rw [hc] at hs9
                have v5 := hcn.cell (j := a.e) (by omega)
                rw [hc] at v5
                have f5 := hcn.frozen a.e
                have HS9 := Lib.hid hs9
                have u0 : (0 : Int) ≤ (c : Int) := by omega
                have u1 : (c : Int) ≤ 1 := by omega
                clear hcn hs9
                have HB9 := Lib.hid (((HBj.out.alloc (.cells #[.string a.n, .int .i64 (a.e : Int), .int .i64 (a.at_ : Int)] 43)).other (p := ⟨g5, a.e, none⟩) HNE.out (.int .i64 ((c : Int) + 1))))
                have e3 : ¬ a.n = (⟨#[]⟩ : ByteArray) := hai.2
                have e4 : a.n.toList.isEmpty = false := by
                  rw [ByteArray.toList_eq]
                  cases hl : a.n.data.toList with
                  | nil => exact absurd (ByteArray.ext (Array.toList_inj.1 hl)) hai.2
                  | cons _ _ => rfl
                have u2 : ¬ (a.e : Int) < 0 := by omega
                have u3 : ¬ (nE : Int) ≤ (a.e : Int) := by omega
                have u4 : (0 : Int) ≤ (a.e : Int) := by omega
                have u5 : (a.e : Int) < (nE : Int) := by omega
                have u6 : (j : Int) < (nA : Int) := by omega
                have u7 : (0 : Int) ≤ (j : Int) := by omega
                clear hb hnA eA e1 hr ha hcb hc hae bA HSA
                go_wp2_with fail
                go_roundg gj'
                case measure => omega
                case rel => exact ⟨j + 1, by push_cast; rfl, Lib.hid (by rw [HT.out, ← List.append_assoc]; exact HS9.out), HB9, by omega⟩
              · have u6 : ¬ (j : Int) < (nA : Int) := by omega
                have t3 := HBj.out.cell 3
                have HSK : Hid (FSt w5 wr g5 g6 nE nB (f.exprs.flatMap Ex.args ++ (f.blocks.take (i + 1)).flatMap (fun b : Bl => b.attrs.map AtS.e)) (((f.blocks.take i).flatMap Bl.blocks) ++ b.blocks.take 0)) := Lib.hid (by
                  have h1 := HSj.out
                  have hTT : (b.attrs.map AtS.e).take j = b.attrs.map AtS.e := List.take_of_length_le (by rw [List.length_map, HE.out.2.1]; omega)
                  rw [hTT, List.append_assoc] at h1
                  rw [flat_take (g := (fun b : Bl => b.attrs.map AtS.e)) HE.out.1, List.take_zero, List.append_nil]
                  exact h1)
                go_wp2_with fail
                clear t3 HSj HBj
                go_loopg [150] (nK + 1) (fun gf s150 wx => ∃ j : Nat, s150 = .int .i64 (j : Int) ∧ Hid (FSt w5 wx g5 g6 nE nB (f.exprs.flatMap Ex.args ++ (f.blocks.take (i + 1)).flatMap (fun b : Bl => b.attrs.map AtS.e)) (((f.blocks.take i).flatMap Bl.blocks) ++ b.blocks.take j)) ∧ j + gf = nK + 1)
                case atStart => exact ⟨0, rfl, HSK, by omega⟩
                case round =>
                  obtain ⟨j, rfl, HSj, hgj⟩ := hrel
                  by_cases hj : j < nK
                  · obtain ⟨gj', rfl⟩ : ∃ g', gk = g' + 1 := ⟨gk - 1, by omega⟩
                    obtain ⟨hnK, eK, hrowK⟩ := HK.out
                    obtain ⟨a, ha⟩ : ∃ a, b.blocks[j]? = some a := ⟨_, List.getElem?_eq_getElem (by omega)⟩
                    have hai : a < i := HU.out.blocks i b HE.out.1 a (List.mem_of_getElem? ha)
                    have hcb := HU.out.onceB a (subB HE.out.1 j)
                    rcases hrowK with h0 | ⟨gA, cA', e1, hcA, hgA, hr⟩
                    · omega
                    have e2 := eK.symm.trans e1
                    cases e2
                    have rA := cells_keep HSj.out.below (hr j (.int .i64 (a : Int)) (by unfold intsV; rw [List.getElem?_map, ha]; rfl))
                    have HT := Lib.hid (take_snoc ha)
                    have hcn := HSj.out.c6
                    obtain ⟨c, hc⟩ : ∃ c, (((f.blocks.take i).flatMap Bl.blocks) ++ b.blocks.take j).count a = c := ⟨_, rfl⟩
                    have hs9 := HSj.out.inc6 a
                    rw [hc] at hs9
                    have v5 := hcn.cell (j := a) (by omega)
                    rw [hc] at v5
                    have f5 := hcn.frozen a
                    have HS9 := Lib.hid hs9
                    have u0 : (0 : Int) ≤ (c : Int) := by omega
                    have u1 : (c : Int) ≤ 1 := by omega
                    clear hcn hs9
                    have u2 : ¬ (a : Int) < 0 := by omega
                    have u3 : ¬ (i : Int) ≤ (a : Int) := by omega
                    have u4 : (0 : Int) ≤ (a : Int) := by omega
                    have u5 : (a : Int) < (nB : Int) := by omega
                    have u6 : (j : Int) < (nK : Int) := by omega
                    have u7 : (0 : Int) ≤ (j : Int) := by omega
                    clear hnK eK e1 hr ha hcb hc
                    go_wp2_with fail
                    go_roundg gj'
                    case measure => omega
                    case rel => exact ⟨j + 1, by push_cast; rfl, Lib.hid (by rw [HT.out, ← List.append_assoc]; exact HS9.out), by omega⟩
                  · have u6 : ¬ (j : Int) < (nK : Int) := by omega
                    have HFL := Lib.hid (flat_take (g := Bl.blocks) HE.out.1)
                    have HTL : Hid (b.blocks.take j = b.blocks) := Lib.hid (List.take_of_length_le (by rw [HK.out.1]; omega))
                    go_wp2_with fail
                    go_roundg g'
                    case measure => omega
                    case rel => exact ⟨i + 1, by push_cast; rfl, Lib.hid (by rw [HFL.out]; have := HSj.out; rw [HTL.out] at this; exact this), by omega⟩
          · have q1 : ¬ (i : Int) < (nB : Int) := by omega
            have HS3 : Hid (FSt w5 wr g5 g6 nE nB (useE f) (f.blocks.flatMap Bl.blocks)) := Lib.hid (by have := HSi.out; rw [List.take_of_length_le (by rw [HNN.out.2.1]; omega)] at this; exact this)
            clear HSi
            have k2 := (HC5.out.below HS3.out.below).cell 2
            go_wp2_with fail
            clear k2
            go_loopg [172] (nT + 1) (fun gf s172 wx => ∃ j : Nat, s172 = .int .i64 (j : Int) ∧ Hid (FSt w5 wx g5 g6 nE nB (useE f) (f.blocks.flatMap Bl.blocks ++ f.top.take j)) ∧ j + gf = nT + 1)
            case atStart => exact ⟨0, rfl, Lib.hid (by rw [List.take_zero, List.append_nil]; exact HS3.out), by omega⟩
            case round =>
              obtain ⟨j, rfl, HSj, hgj⟩ := hrel
              have hnT2 : nT ≤ nB := by have := HLE.out; rw [HNN.out.2.1, HNN.out.2.2] at this; exact this
              by_cases hj : j < nT
              · obtain ⟨gj', rfl⟩ : ∃ g', gk = g' + 1 := ⟨gk - 1, by omega⟩
                obtain ⟨a, ha⟩ : ∃ a, f.top[j]? = some a := ⟨_, List.getElem?_eq_getElem (by rw [HNN.out.2.2]; exact hj)⟩
                have hai : a < nB := by rw [← HNN.out.2.1]; exact HU.out.top a (List.mem_of_getElem? ha)
                have hcb := HU.out.onceB a (subK j)
                have hrt := row_read HF5.out.1.top
                rcases hrt.2 with h0 | ⟨gT, cT', e1, hcT, hgT, hr⟩
                · have := HNN.out.2.2; omega
                rw [HF5.out.2.2.2, HNN.out.2.2] at e1
                cases e1
                rw [HNN.out.2.2] at hcT
                have rA := cells_keep HSj.out.below (hr j (.int .i64 (a : Int)) (by unfold intsV; rw [List.getElem?_map, ha]; rfl))
                have HT := Lib.hid (take_snoc ha)
                have hcn := HSj.out.c6
                obtain ⟨c, hc⟩ : ∃ c, (f.blocks.flatMap Bl.blocks ++ f.top.take j).count a = c := ⟨_, rfl⟩
                have hs9 := HSj.out.inc6 a
                rw [hc] at hs9
                have v5 := hcn.cell (j := a) (by omega)
                rw [hc] at v5
                have f5 := hcn.frozen a
                have HS9 := Lib.hid hs9
                have u0 : (0 : Int) ≤ (c : Int) := by omega
                have u1 : (c : Int) ≤ 1 := by omega
                clear hcn hs9
                have u2 : ¬ (a : Int) < 0 := by omega
                have u3 : ¬ (nB : Int) ≤ (a : Int) := by omega
                have u4 : (0 : Int) ≤ (a : Int) := by omega
                have u5 : (a : Int) < (nB : Int) := by omega
                have u6 : (j : Int) < (nT : Int) := by omega
                have u7 : (0 : Int) ≤ (j : Int) := by omega
                clear hr ha hcb hc hrt
                go_wp2_with fail
                go_roundg gj'
                case measure => omega
                case rel => exact ⟨j + 1, by push_cast; rfl, Lib.hid (by rw [HT.out, ← List.append_assoc]; exact HS9.out), by omega⟩
              · have u6 : ¬ (j : Int) < (nT : Int) := by omega
                have HS6 : Hid (FSt w5 wr g5 g6 nE nB (useE f) (useB f)) := Lib.hid (by have := HSj.out; rw [List.take_of_length_le (by rw [HNN.out.2.2]; omega)] at this; exact this)
                clear HSj HS3
                by_cases hB : 0 < nB
                · have h1E : ∀ j, j < nE → (useE f).count j = 1 := fun j hj => by have := HU.out.oneE j (by rw [HNN.out.1]; exact hj); simpa using this
                  have h1B : ∀ j, j < nB → (useB f).count j = 1 := fun j hj => by have := HU.out.oneB j (by rw [HNN.out.2.1]; exact hj); simpa using this
                  have rowE := HS6.out.c5.ones (base := w5.heap.size) HS6.out.h5 (by omega) h1E
                  have hnews : ∀ j v, (List.replicate nB (Value.int .i64 1))[j]? = some v → wr.cell? ((⟨g6, 0, none⟩ : Addr).add j) = some v := fun j v hv => by
                    rw [List.getElem?_replicate] at hv
                    split at hv
                    · rename_i hj
                      cases hv
                      rw [add_off, HS6.out.c6.cell hj, h1B j hj]
                      rfl
                    · cases hv
                  have h1c : ∀ v ∈ List.replicate nB (Value.int .i64 1), v.oneCell' = true := fun v hv => by rw [List.eq_of_mem_replicate hv]; rfl
                  clear h1E h1B
                  go_wp2_with (at_builtin; refine wpList_append_lies _ rfl (.tmp 191) (.tmp 192) 26 rfl w5.heap.size 3 iI (.int .i64 0) 1 8 Tryz.underlying26 hiI hzI hsI hbI rfl (by decide) _ nE (List.replicate nE (.int .i64 1)) rfl rowE ⟨g6, 0, none⟩ nB nB (List.replicate nB (.int .i64 1)) rfl (by simp) hnews h1c hB (by unfold maxLen; omega) (by omega) HS6.out.below.size _ rfl ?_; intro g7 c7 w7 hown7 hgrow7 hat7 hlt7; refine Hid.out ?_)
                  refine Lib.hid ?_
                  have HOW := Lib.hid hown7
                  have HB7 : Hid (Below W.heap.size W w7) := Lib.hid (by
                    have h1 := HB5.out.trans (HS6.out.below.mono HB5.out.size)
                    exact ⟨hgrow7.os.trans h1.os, hgrow7.tape.trans h1.tape, hgrow7.output.trans h1.output, Nat.le_trans h1.size hgrow7.size, fun k hk => (hgrow7.block k (Nat.lt_of_lt_of_le hk h1.size) (by
                      intro e
                      have e2 : k = g5 := Option.some.inj e
                      have := HS6.out.h5
                      have := HB5.out.size
                      omega)).trans (h1.block k hk)⟩)
                  clear hown7 hgrow7 hat7 hlt7 hnews h1c rowE
                  go_wp2_with fail
                  go_loopg [195] (nE + nB + 1) (fun gf s195 wx => ∃ j : Nat, s195 = .int .i64 (j : Int) ∧ wx = w7 ∧ j + gf = nE + nB + 1)
                  case atStart => exact ⟨0, rfl, rfl, by omega⟩
                  case round =>
                    obtain ⟨j, rfl, rfl, hgj⟩ := hrel
                    by_cases hj : j < nE + nB
                    · obtain ⟨gj', rfl⟩ : ∃ g', gk = g' + 1 := ⟨gk - 1, by omega⟩
                      have v7 := World.ownsRow.cells HOW.out (g := g7) rfl j (.int .i64 1) (by rw [List.replicate_append_replicate, List.getElem?_replicate, if_pos hj])
                      rw [add_off] at v7
                      have u6 : (j : Int) < ((nE + nB : Nat) : Int) := by omega
                      have u8 : (j : Int) < (nE : Int) + (nB : Int) := by omega
                      have u7 : (0 : Int) ≤ (j : Int) := by omega
                      go_wp2_with fail
                      go_roundg gj'
                      case measure => omega
                      case rel => exact ⟨j + 1, by push_cast; rfl, rfl, by omega⟩
                    · have u6 : ¬ (j : Int) < ((nE + nB : Nat) : Int) := by omega
                      have u8 : ¬ (j : Int) < (nE : Int) + (nB : Int) := by omega
                      go_wp2_with fail
                      go_ret
                      exact ⟨rfl, HB7.out⟩
                · obtain rfl : nB = 0 := by omega
                  obtain rfl : nE = 0 := by
                    rcases Nat.eq_zero_or_pos nE with h0 | h0
                    · exact h0
                    · have h1 := HU.out.oneE (nE - 1) (by rw [HNN.out.1]; omega)
                      have h2 : (nE - 1) ∈ useE f := List.count_pos_iff.1 (by simp at h1; omega)
                      rcases List.mem_append.1 h2 with h3 | h3
                      · obtain ⟨e, he, hk⟩ := List.mem_flatMap.1 h3
                        obtain ⟨i, hi⟩ := List.mem_iff_getElem?.1 he
                        have h4 := HU.out.args i e hi _ hk
                        have h5 := (List.getElem?_eq_some_iff.1 hi).1
                        rw [HNN.out.1] at h5
                        omega
                      · have h4 := HNN.out.2.1
                        rw [List.length_eq_zero_iff.1 h4] at h3
                        simp at h3
                  have HB7 : Hid (Below W.heap.size W wr) := Lib.hid (HB5.out.trans (HS6.out.below.mono HB5.out.size))
                  go_wp2_with fail
                  go_loopg [195] 1 (fun gf s195 wx => s195 = .int .i64 0 ∧ wx = wr)
                  case atStart => exact ⟨rfl, rfl⟩
                  case round =>
                    obtain ⟨rfl, rfl⟩ := hrel
                    go_wp2_with fail
                    go_ret
                    exact ⟨rfl, HB7.out⟩
end Go.Proofs.YtljgggohjigaoaaGreatDoor
