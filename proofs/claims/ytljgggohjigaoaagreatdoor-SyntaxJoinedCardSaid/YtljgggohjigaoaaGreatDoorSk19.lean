/- What stands in a list, and what a for goes through · A list · Where a text's insertions stand: what goes behind a brace, behind a quote -/
import Derived.Deep.RegionWith
import Derived.Deep.RegionHeld
import Derived.Test.YtljgggohjigaoaaGreatDoorSk06
import Derived.Test.YtljgggohjigaoaaGreatDoorSk11
import Derived.Test.YtljgggohjigaoaaGreatDoorSk18
namespace Go.Proofs.YtljgggohjigaoaaGreatDoor
open Go.RowKit Go.Shelf
set_option linter.unusedVariables false
set_option linter.unusedSimpArgs false

theorem Un.args {W w : World} {P F T lo dp d : Nat} {m m1 : FileM} {X : List Nat} {s : Ps} {ex : PM Nat} (h : Un W w P F T lo dp d m X s m1) (en : ByteArray) (hE : Rds P F T lo dp d 75 #[.pointer (some ⟨P, 0, none⟩)] ex) (hD : Dec d 0 ex) :
  Calls Tryz.prog 171 #[.pointer (some ⟨P, 0, none⟩), .string en] w (fun e w' => match argsM en ex (s.toks.length + 1) [] s with
   | .ok (l, s2) => ∃ av m2, e = .returned av ∧ Stepped W w w' P F T lo dp d m X m1 s2 m2 ∧ OwnL w' P F T lo w.heap.size m2 3 1 av l.length (intsV l)
   | .error bd => Bad W P F m X bd e w') := by
 refine (args_any en hE hD h.ps h.env h.fit).mono ?_
 intro e w' hk
 unfold ArgsEnd at hk
 cases hm : argsM en ex (s.toks.length + 1) [] s with
 | error bd =>
  rw [hm] at hk
  obtain ⟨D, h1, h2, h3, h4⟩ := hk
  exact ⟨D, h1, Nat.le_trans h.outs.size h2, h3, h.outs.trans h.later (h4.o.x X)⟩
 | ok y =>
  obtain ⟨l, s2⟩ := y
  rw [hm] at hk
  obtain ⟨av, m2, h1, h2, h3⟩ := hk
  exact ⟨av, m2, h1, ⟨⟨h2.ps, h.outs.trans h.later (h2.outs.o.x X), h.later.trans h.outs.size h2.later, h2.env, h2.fit⟩, h2.outs.o, h2.later⟩, h3⟩
def listE (ex : PM Nat) : PM (Int × ByteArray × List Nat) := bindP (skipM (wb [102, 111, 114])) fun fr => if fr then bindP (kindM 1) fun t => bindP (wantM (wb [105, 110])) fun _ => bindP ex fun i => bindP (wantM (wb [58])) fun _ => bindP ex fun j s => .ok (((29 : Int), t.x, [i, j]), s) else fun s => bindP (argsM (wb [93]) ex (s.toks.length + 1) []) (fun l s' => .ok (((7 : Int), (⟨#[]⟩ : ByteArray), l), s')) s
set_option maxRecDepth 100000 in
set_option maxHeartbeats 4000000 in
theorem list1_any {W : World} {P F T lo dp d N E Bp : Nat} {s : Ps} {m : FileM} {X : List Nat} {ex : PM Nat} (hE : Rds P F T lo dp d 75 #[.pointer (some ⟨P, 0, none⟩)] ex) (hD : Dec d 0 ex) (h : UnS W W P F T lo dp d m X s m N E ⟨⟨7, ⟨#[]⟩, [], [], 0⟩, .slice none 0 0, .slice none 0 0⟩) (hB : Loc W P F T m Bp #[.pointer (some ⟨P, 0, none⟩)] 88) (hNB : Bp < N ∧ Bp ≠ E) :
  Calls Tryz.prog 172 #[.pointer (some ⟨Bp, 0, none⟩), .pointer (some ⟨E, 0, none⟩)] W (KEnd W P F T lo dp m X (StE P F T lo N E (fun (r : Int × ByteArray × List Nat) => ⟨r.1, r.2.1, r.2.2, [], 0⟩)) (listE ex s) (fun _ => .tuple #[])) := by
 obtain ⟨iI, hiI, hzI, hsI, hbI⟩ := info_of infoInt0
 have HS := Lib.hid h
 have HB := Lib.hid hB
 have HNB := Lib.hid hNB
 have HEX := Lib.hid (And.intro hE hD)
 have HSK := h.un.skip (b := ⟨#[102, 111, 114]⟩) (by decide)
 have c0 := hB.blk.cell 0
 obtain ⟨R, hR⟩ : ∃ R, listE ex s = R := ⟨_, rfl⟩
 have HR : Hid (bindP (skipM ⟨#[102, 111, 114]⟩) (fun fr => if fr then bindP (kindM 1) fun t => bindP (wantM ⟨#[105, 110]⟩) fun _ => bindP ex fun i => bindP (wantM ⟨#[58]⟩) fun _ => bindP ex fun j s => .ok (((29 : Int), t.x, [i, j]), s) else fun s => bindP (argsM ⟨#[93]⟩ ex (s.toks.length + 1) []) (fun l s' => .ok (((7 : Int), (⟨#[]⟩ : ByteArray), l), s')) s) s = R) := Lib.hid hR
 rw [hR]
 cases hm : skipM (⟨#[102, 111, 114]⟩ : ByteArray) s with
 | error bd =>
  exfalso
  unfold skipM at hm
  split at hm <;> cases hm
 | ok y =>
  obtain ⟨c, s2⟩ := y
  rw [hm] at HSK
  have HSK := Lib.hid HSK
  have HR2 := Lib.hid (bind_ok hm HR.out)
  clear h hB hE hD hm hR hNB
  go_enter Tryz.func172, Tryz.ntmps172
  go_wp2_with fail
  go_at_call 74; refine HSK.out.mono ?_
  rintro e w2 ⟨rfl, m2, hs2⟩
  have HS2 := Lib.hid (HS.out.step hs2)
  have HB2 := Lib.hid (HB.out.step hs2.outs hs2.later)
  clear hs2
  cases c with
  | true =>
   have HRT : Hid (bindP (kindM 1) (fun t => bindP (wantM ⟨#[105, 110]⟩) fun _ => bindP ex fun i => bindP (wantM ⟨#[58]⟩) fun _ => bindP ex fun j s => .ok (((29 : Int), t.x, [i, j]), s)) s2 = R) := HR2
   have b02 := HB2.out.blk.cell 0
   have hct1 := HS2.out.un.kind (k := 1) (by decide)
   cases hmt1 : kindM 1 s2 with
   | error bd =>
    rw [hmt1] at hct1
    have HCt1 := Lib.hid hct1
    have HREt1 := Lib.hid (bind_err hmt1 HRT.out)
    clear hct1 hmt1
    go_wp2_with fail
    go_at_call 35; refine HCt1.out.mono ?_
    rintro e we ⟨D, rfl, hk2⟩
    refine ⟨rfl, ?_⟩
    rw [HREt1.out]
    exact Bad.k ⟨D, rfl, hk2⟩
   | ok yt1 =>
    obtain ⟨at1, st1⟩ := yt1
    rw [hmt1] at hct1
    have HCt1 := Lib.hid hct1
    have HRt1 := Lib.hid (bind_ok hmt1 HRT.out)
    clear hct1 hmt1
    go_wp2_with fail
    go_at_call 35; refine HCt1.out.mono ?_
    rintro e wt1 ⟨rfl, mt1, hst1⟩
    have HSt1 := Lib.hid (HS2.out.step hst1)
    have HBt1 := Lib.hid (HB2.out.step hst1.outs hst1.later)
    clear hst1
    have hk1 := (HSt1.out.setK 29).setX at1.x
    have hl1 := (HBt1.out.lc (Lc.set wt1 E 0 (.int .i64 29) (Y := [E]) (by simp)) (by simp; exact HNB.out.2)).lc (Lc.set _ E 1 (.string at1.x) (Y := [E]) (by simp)) (by simp; exact HNB.out.2)
    have hfl2 : ∀ w : World, (Instr.field 75 (tkV at1) 1).run Tryz.prog w = .ok (.string at1.x) w := fun _ => rfl
    have g0 := HSt1.out.ue.loc.blk.cell 0
    have z0 := HSt1.out.ue.loc.blk.frozen 0
    have g1 := (HSt1.out.setK 29).ue.loc.blk.cell 1
    have z1 := (HSt1.out.setK 29).ue.loc.blk.frozen 1
    obtain ⟨wk, hwk⟩ : ∃ wk, (wt1.setCell ⟨E, 0, none⟩ (.int .i64 29)).setCell ⟨E, 1, none⟩ (.string at1.x) = wk := ⟨_, rfl⟩
    rw [hwk] at hk1 hl1
    have HSk := Lib.hid hk1
    have HBk := Lib.hid hl1
    clear hk1 hl1
    have b0k := HBk.out.blk.cell 0
    have hci := HSk.out.un.want (b := ⟨#[105, 110]⟩) (by decide)
    cases hmi : wantM (⟨#[105, 110]⟩ : ByteArray) st1 with
    | error bd =>
     rw [hmi] at hci
     have HCi := Lib.hid hci
     have HREi := Lib.hid (bind_err hmi HRt1.out)
     clear hci hmi
     go_wp2_with fail
     go_at_call 99; refine HCi.out.mono ?_
     rintro e we ⟨D, rfl, hk2⟩
     refine ⟨rfl, ?_⟩
     rw [HREi.out]
     exact Bad.k ⟨D, rfl, hk2⟩
    | ok yi =>
     obtain ⟨ai, si⟩ := yi
     rw [hmi] at hci
     have HCi := Lib.hid hci
     have HRi := Lib.hid (bind_ok hmi HRt1.out)
     clear hci hmi
     go_wp2_with fail
     go_at_call 99; refine HCi.out.mono ?_
     rintro e wi ⟨rfl, mi, hsi⟩
     have HSi := Lib.hid (HSk.out.step hsi)
     have HBi := Lib.hid (HBk.out.step hsi.outs hsi.later)
     clear hsi
     have HRa : Hid (bindP ex (fun i => bindP (wantM ⟨#[58]⟩) fun _ => bindP ex fun j s => .ok ((29, at1.x, [i, j]), s)) si = R) := HRi
     have HNa : Hid (([] : List Nat).length = 0) := Lib.hid rfl
     have hdra := HSi.out.below (Below.refl _ wi).drew
     have HDRa := Lib.hid hdra
     have HBDa := Lib.hid (HBi.out.lc (Lc.of (Below.refl _ wi).drew []) (by simp))
     have p0a := HBi.out.blk.cell 0
     have a2a := HSi.out.ue.loc.blk.cell 2
     have hrda := hdra.un.reads HEX.out.1 HEX.out.2
     clear hdra
     cases hma : ex si with
     | error bd =>
      rw [hma] at hrda
      have HRDa := Lib.hid hrda
      have HREa := Lib.hid (bind_err hma HRa.out)
      clear hrda hma
      go_wp2_with fail
      refine wp_region_held_drew (S := fun w' => w'.cell? ⟨Bp, 0, none⟩ = some (.pointer (some ⟨P, 0, none⟩)) ∧ w'.cell? ⟨E, 2, none⟩ = some (.slice none 0 0)) (by kernel_rfl) ⟨p0a, a2a⟩ (fun hHeld => ?_)
      refine wpAnyH_take (i := 0) (oi := _) (v := ?qa_v0) rfl (by kernel_rfl) (by kernel_rfl) (by kernel_rfl) (fun _ _ _ h => h) (Or.inl ⟨by rfl, ?qa_y0⟩) (by assumption) ?qa_r0
      case qa_y0 => (intro w hSw; (try dsimp only at hSw); go_simp; (try with_reducible rfl))
      try simp only [Act.put, List.setIfInBounds_toArray, List.set_cons_zero, List.set_cons_succ]
      refine wpAnyH_take (i := 1) (oi := _) (v := ?qa_v1) rfl (by kernel_rfl) (by kernel_rfl) (by kernel_rfl) (fun _ _ _ h => h) (Or.inl ⟨by rfl, ?qa_y1⟩) (by assumption) ?qa_r1
      case qa_y1 => (intro w hSw; (try dsimp only at hSw); go_simp; (try with_reducible rfl))
      try simp only [Act.put, List.setIfInBounds_toArray, List.set_cons_zero, List.set_cons_succ]
      refine wpAnyH_take (i := 2) (oi := _) (v := ?qa_v2) rfl (by kernel_rfl) (by kernel_rfl) (by kernel_rfl) (fun _ _ _ h => h) (Or.inl ⟨by rfl, ?qa_y2⟩) (by assumption) ?qa_r2
      case qa_y2 => (intro w hSw; (try dsimp only at hSw); go_simp; (try with_reducible rfl))
      try simp only [Act.put, List.setIfInBounds_toArray, List.set_cons_zero, List.set_cons_succ]
      refine wpAnyH_ready (rs := [3]) (by kernel_rfl) (by simp) ?_
      refine AllReadyH.cons (o := _) rfl (fun K hK => ?_) AllReadyH.nil
      go_simp
      go_at_call 75; refine HRDa.out.mono ?_; rintro e w4 ⟨D, rfl, hk⟩
      refine ⟨rfl, ?_⟩
      rw [HREa.out]
      exact ⟨D, rfl, hk⟩
     | ok ya =>
      obtain ⟨ia, s3a⟩ := ya
      rw [hma] at hrda
      have HRDa := Lib.hid hrda
      have HRoa := Lib.hid (bind_ok hma HRa.out)
      have HEAa : Hid (E ∉ ownB (.slice none 0 0)) := Lib.hid (fun e => (HSi.out.ue.foot E (List.mem_append.2 (.inl e))).2.2.2.1 rfl)
      clear hrda hma
      go_wp2_with fail
      refine have AFTERa : (∀ (w4 w5 : World) (g2 cap2 : Nat), (∃ m3, Stepped W wi.drew w4 P F T lo dp d m X mi s3a m3 ∧ w5.ownsRow lo 3 1 (.slice (some ⟨g2, 0, none⟩) (0 + 1) cap2) (0 + 1) (intsV [] ++ [.int .i64 (ia : Int)]) ∧ (w4.alloc (.cells #[.int .i64 (ia : Int)] 3)).grownBy w5 (Value.slice none 0 0).ownBlock ∧ ((Value.slice none 0 0).ownBlock = some g2 ∨ g2 = (w4.alloc (.cells #[.int .i64 (ia : Int)] 3)).heap.size)) → (?Ga : World → World → Nat → Nat → Prop) w4 w5 g2 cap2) := ?latera; ?maina
      case maina =>
       go_region_law (first
        | (go_simp; go_at_call 75; refine HRDa.out.mono ?_; rintro e w4 ⟨rfl, m3, hs4⟩; have hnv : natV ia = .int .i64 (ia : Int) := rfl; have H4 := Lib.hid (HDRa.out.step hs4); have hB4 := HBDa.out.step hs4.outs hs4.later; have a24 := H4.out.ue.loc.blk.cell 2; have a24a := (H4.out.ue.loc.blk.alloc (.cells #[.int .i64 (ia : Int)] 3)).cell 2; have hrow := H4.out.ue.ok.args.alloc (.cells #[.int .i64 (ia : Int)] 3); have hrow := (HNa.out ▸ hrow : (w4.alloc (.cells #[.int .i64 (ia : Int)] 3)).ownsRow lo 3 1 (.slice none 0 0) 0 (intsV [])); have hblk := World.alloc_heap_new w4 (.cells #[.int .i64 (ia : Int)] 3); have hlo4 : lo ≤ w4.heap.size := hs4.un.ps.base.2)
        | (refine step_append_lies _ rfl (.tmp 16) (.tmp 19) 26 rfl lo 3 iI (.int .i64 0) 1 8 Tryz.underlying26 hiI hzI hsI hbI rfl (by decide) _ _ _ rfl hrow ⟨w4.heap.size, 0, none⟩ 1 1 [.int .i64 (ia : Int)] rfl rfl (World.news_of_block hblk) (by intro u hu; simp at hu; subst hu; rfl) (by decide) (by unfold maxLen; omega) (by omega) (by simp; omega) _ rfl ?_; intro g2 cap2 w5 hown hgrow hat hlt; have hE5 := H4.out.ue.loc.lc (grown_lc (Y := ownB (.slice none 0 0)) hgrow (fun g e => mem_ownB.2 e)) HEAa.out; have c52 := hE5.blk.cell 2; have f52 := hE5.blk.frozen 2))
       all_goals exact AFTERa w4 w5 g2 cap2 ⟨m3, hs4, hown, hgrow, hat⟩
      case latera =>
       rintro w4 w5 ga ca ⟨m3a, hs4, hown, hgrow, hat⟩
       have h4a := HDRa.out.step hs4
       have hpa := h4a.push (n := 0) HNa.out hown hgrow hat
       have HBa := Lib.hid ((HBDa.out.step hs4.outs hs4.later).lc hpa.2 (fun hk => by
        rcases List.mem_cons.1 hk with h1 | h1
        ·exact HNB.out.2 h1
        ·have := (h4a.ue.foot Bp (List.mem_append.2 (.inl h1))).2.2.2.2
         have := HNB.out.1
         omega))
       have HSa := Lib.hid hpa.1
       have HNao : Hid (([] ++ [ia]).length = 0 + 1) := Lib.hid (by rw [List.length_append, HNa.out]; rfl)
       clear hs4 hown hgrow hat hpa h4a p0a a2a
       obtain ⟨w6a, hw6a⟩ : ∃ w6, w5.setCell ⟨E, 2, none⟩ (.slice (some ⟨ga, 0, none⟩) (0 + 1) ca) = w6 := ⟨_, rfl⟩
       rw [hw6a] at HBa HSa ⊢
       clear hw6a
       obtain ⟨ka, hka⟩ : ∃ q, 0 + 1 = q := ⟨_, rfl⟩
       rw [hka] at HSa HNao
       have hkba : ka ≤ 1000000000 := by omega
       clear hka
       have b0a := HBa.out.blk.cell 0
       have hcc := HSa.out.un.want (b := ⟨#[58]⟩) (by decide)
       cases hmc : wantM (⟨#[58]⟩ : ByteArray) s3a with
       | error bd =>
        rw [hmc] at hcc
        have HCc := Lib.hid hcc
        have HREc := Lib.hid (bind_err hmc HRoa.out)
        clear hcc hmc
        go_wp2_with fail
        go_at_call 99; refine HCc.out.mono ?_
        rintro e we ⟨D, rfl, hk2⟩
        refine ⟨rfl, ?_⟩
        rw [HREc.out]
        exact Bad.k ⟨D, rfl, hk2⟩
       | ok yc =>
        obtain ⟨ac, sc⟩ := yc
        rw [hmc] at hcc
        have HCc := Lib.hid hcc
        have HRc := Lib.hid (bind_ok hmc HRoa.out)
        clear hcc hmc
        go_wp2_with fail
        go_at_call 99; refine HCc.out.mono ?_
        rintro e wc ⟨rfl, mc, hsc⟩
        have HSc := Lib.hid (HSa.out.step hsc)
        have HBc := Lib.hid (HBa.out.step hsc.outs hsc.later)
        clear hsc
        have HRb : Hid (bindP ex (fun j s => .ok ((29, at1.x, [ia, j]), s)) sc = R) := HRc
        have HNb : Hid ([ia].length = ka) := HNao
        have HSc : Hid (UnS W wc P F T lo dp d m X sc mc N E ⟨⟨29, at1.x, [ia], [], 0⟩, .slice (some ⟨ga, 0, none⟩) ka ca, .slice none 0 0⟩) := HSc
        have hdrb := HSc.out.below (Below.refl _ wc).drew
        have HDRb := Lib.hid hdrb
        have HBDb := Lib.hid (HBc.out.lc (Lc.of (Below.refl _ wc).drew []) (by simp))
        have p0b := HBc.out.blk.cell 0
        have a2b := HSc.out.ue.loc.blk.cell 2
        have hrdb := hdrb.un.reads HEX.out.1 HEX.out.2
        clear hdrb
        cases hmb : ex sc with
        | error bd =>
         rw [hmb] at hrdb
         have HRDb := Lib.hid hrdb
         have HREb := Lib.hid (bind_err hmb HRb.out)
         clear hrdb hmb
         go_wp2_with fail
         refine wp_region_held_drew (S := fun w' => w'.cell? ⟨Bp, 0, none⟩ = some (.pointer (some ⟨P, 0, none⟩)) ∧ w'.cell? ⟨E, 2, none⟩ = some (.slice (some ⟨ga, 0, none⟩) ka ca)) (by kernel_rfl) ⟨p0b, a2b⟩ (fun hHeld => ?_)
         refine wpAnyH_take (i := 0) (oi := _) (v := ?qb_v0) rfl (by kernel_rfl) (by kernel_rfl) (by kernel_rfl) (fun _ _ _ h => h) (Or.inl ⟨by rfl, ?qb_y0⟩) (by assumption) ?qb_r0
         case qb_y0 => (intro w hSw; (try dsimp only at hSw); go_simp; (try with_reducible rfl))
         try simp only [Act.put, List.setIfInBounds_toArray, List.set_cons_zero, List.set_cons_succ]
         refine wpAnyH_take (i := 1) (oi := _) (v := ?qb_v1) rfl (by kernel_rfl) (by kernel_rfl) (by kernel_rfl) (fun _ _ _ h => h) (Or.inl ⟨by rfl, ?qb_y1⟩) (by assumption) ?qb_r1
         case qb_y1 => (intro w hSw; (try dsimp only at hSw); go_simp; (try with_reducible rfl))
         try simp only [Act.put, List.setIfInBounds_toArray, List.set_cons_zero, List.set_cons_succ]
         refine wpAnyH_take (i := 2) (oi := _) (v := ?qb_v2) rfl (by kernel_rfl) (by kernel_rfl) (by kernel_rfl) (fun _ _ _ h => h) (Or.inl ⟨by rfl, ?qb_y2⟩) (by assumption) ?qb_r2
         case qb_y2 => (intro w hSw; (try dsimp only at hSw); go_simp; (try with_reducible rfl))
         try simp only [Act.put, List.setIfInBounds_toArray, List.set_cons_zero, List.set_cons_succ]
         refine wpAnyH_ready (rs := [3]) (by kernel_rfl) (by simp) ?_
         refine AllReadyH.cons (o := _) rfl (fun K hK => ?_) AllReadyH.nil
         go_simp
         go_at_call 75; refine HRDb.out.mono ?_; rintro e w4 ⟨D, rfl, hk⟩
         refine ⟨rfl, ?_⟩
         rw [HREb.out]
         exact ⟨D, rfl, hk⟩
        | ok yb =>
         obtain ⟨ib, s3b⟩ := yb
         rw [hmb] at hrdb
         have HRDb := Lib.hid hrdb
         have HRob := Lib.hid (bind_ok hmb HRb.out)
         have HEAb : Hid (E ∉ ownB (.slice (some ⟨ga, 0, none⟩) ka ca)) := Lib.hid (fun e => (HSc.out.ue.foot E (List.mem_append.2 (.inl e))).2.2.2.1 rfl)
         clear hrdb hmb
         go_wp2_with fail
         refine have AFTERb : (∀ (w4 w5 : World) (g2 cap2 : Nat), (∃ m3, Stepped W wc.drew w4 P F T lo dp d m X mc s3b m3 ∧ w5.ownsRow lo 3 1 (.slice (some ⟨g2, 0, none⟩) (ka + 1) cap2) (ka + 1) (intsV [ia] ++ [.int .i64 (ib : Int)]) ∧ (w4.alloc (.cells #[.int .i64 (ib : Int)] 3)).grownBy w5 (Value.slice (some ⟨ga, 0, none⟩) ka ca).ownBlock ∧ ((Value.slice (some ⟨ga, 0, none⟩) ka ca).ownBlock = some g2 ∨ g2 = (w4.alloc (.cells #[.int .i64 (ib : Int)] 3)).heap.size)) → (?Gb : World → World → Nat → Nat → Prop) w4 w5 g2 cap2) := ?laterb; ?mainb
         case mainb =>
          go_region_law (first
           | (go_simp; go_at_call 75; refine HRDb.out.mono ?_; rintro e w4 ⟨rfl, m3, hs4⟩; have hnv : natV ib = .int .i64 (ib : Int) := rfl; have H4 := Lib.hid (HDRb.out.step hs4); have hB4 := HBDb.out.step hs4.outs hs4.later; have a24 := H4.out.ue.loc.blk.cell 2; have a24a := (H4.out.ue.loc.blk.alloc (.cells #[.int .i64 (ib : Int)] 3)).cell 2; have hrow := H4.out.ue.ok.args.alloc (.cells #[.int .i64 (ib : Int)] 3); have hrow := (HNb.out ▸ hrow : (w4.alloc (.cells #[.int .i64 (ib : Int)] 3)).ownsRow lo 3 1 (.slice (some ⟨ga, 0, none⟩) ka ca) ka (intsV [ia])); have hblk := World.alloc_heap_new w4 (.cells #[.int .i64 (ib : Int)] 3); have hlo4 : lo ≤ w4.heap.size := hs4.un.ps.base.2)
           | (refine step_append_lies _ rfl (.tmp 25) (.tmp 28) 26 rfl lo 3 iI (.int .i64 0) 1 8 Tryz.underlying26 hiI hzI hsI hbI rfl (by decide) _ _ _ rfl hrow ⟨w4.heap.size, 0, none⟩ 1 1 [.int .i64 (ib : Int)] rfl rfl (World.news_of_block hblk) (by intro u hu; simp at hu; subst hu; rfl) (by decide) (by unfold maxLen; omega) (by omega) (by simp; omega) _ rfl ?_; intro g2 cap2 w5 hown hgrow hat hlt; have hE5 := H4.out.ue.loc.lc (grown_lc (Y := ownB (.slice (some ⟨ga, 0, none⟩) ka ca)) hgrow (fun g e => mem_ownB.2 e)) HEAb.out; have c52 := hE5.blk.cell 2; have f52 := hE5.blk.frozen 2))
          all_goals exact AFTERb w4 w5 g2 cap2 ⟨m3, hs4, hown, hgrow, hat⟩
         case laterb =>
          rintro w4 w5 gb cb ⟨m3b, hs4, hown, hgrow, hat⟩
          have h4b := HDRb.out.step hs4
          have hpb := h4b.push (n := ka) HNb.out hown hgrow hat
          have HBb := Lib.hid ((HBDb.out.step hs4.outs hs4.later).lc hpb.2 (fun hk => by
           rcases List.mem_cons.1 hk with h1 | h1
           ·exact HNB.out.2 h1
           ·have := (h4b.ue.foot Bp (List.mem_append.2 (.inl h1))).2.2.2.2
            have := HNB.out.1
            omega))
          have HSb := Lib.hid hpb.1
          have HNbo : Hid (([ia] ++ [ib]).length = ka + 1) := Lib.hid (by rw [List.length_append, HNb.out]; rfl)
          clear hs4 hown hgrow hat hpb h4b p0b a2b
          obtain ⟨w6b, hw6b⟩ : ∃ w6, w5.setCell ⟨E, 2, none⟩ (.slice (some ⟨gb, 0, none⟩) (ka + 1) cb) = w6 := ⟨_, rfl⟩
          rw [hw6b] at HBb HSb ⊢
          clear hw6b
          obtain ⟨kb, hkb⟩ : ∃ q, ka + 1 = q := ⟨_, rfl⟩
          rw [hkb] at HSb HNbo
          have hkbb : kb ≤ 2000000000 := by omega
          clear hkb
          go_wp2_with fail
          go_end0
          rw [← HRob.out]
          exact HSb.out.k (by simp)
  | false =>
   have HRT : Hid (bindP (argsM ⟨#[93]⟩ ex (s2.toks.length + 1) []) (fun l s' => .ok (((7 : Int), (⟨#[]⟩ : ByteArray), l), s')) s2 = R) := HR2
   have b02 := HB2.out.blk.cell 0
   have hca := HS2.out.un.args ⟨#[93]⟩ HEX.out.1 HEX.out.2
   cases hma : argsM ⟨#[93]⟩ ex (s2.toks.length + 1) [] s2 with
   | error bd =>
    rw [hma] at hca
    have HCA := Lib.hid hca
    have HRE := Lib.hid (bind_err hma HRT.out)
    clear hca hma
    go_wp2_with fail
    go_at_call 171; refine HCA.out.mono ?_
    rintro e we ⟨D, rfl, hk2⟩
    refine ⟨rfl, ?_⟩
    rw [HRE.out]
    exact Bad.k ⟨D, rfl, hk2⟩
   | ok ya =>
    obtain ⟨l, s3⟩ := ya
    rw [hma] at hca
    have HCA := Lib.hid hca
    have HRE := Lib.hid (bind_ok hma HRT.out)
    clear hca hma
    go_wp2_with fail
    go_at_call 171; refine HCA.out.mono ?_
    rintro e w3 ⟨av, m3, rfl, hs3, ho3⟩
    obtain ⟨ad3, cap3, rfl⟩ := slice_of ho3.row
    have HS3 := Lib.hid (HS2.out.step hs3)
    have hsz := HS2.out.un.outs.size
    have hEl := HS2.out.ue.loc.blk.lt
    have hS4 := HS3.out.setArgs rfl (ho3.mono (by omega)) (fun e => by have := (ho3.out E e).2.2.2; omega)
    have HS4 := Lib.hid hS4
    have g2 := HS3.out.ue.loc.blk.cell 2
    have z2 := HS3.out.ue.loc.blk.frozen 2
    clear hs3 ho3 hS4
    go_wp2_with fail
    first | go_end0 | go_ret
    rw [← HRE.out]
    exact HS4.out.k rfl
end Go.Proofs.YtljgggohjigaoaaGreatDoor
namespace Go.Proofs.YtljgggohjigaoaaGreatDoor
open Go.RowKit Go.Shelf
set_option linter.unusedVariables false

theorem listE_dec {d : Nat} {ex : PM Nat} (hD : Dec d 0 ex) : Dec d 0 (listE ex) := by
 refine (Dec.bind (e := 0) Dec.skip fun fr => ?_).mono (by omega)
 cases fr with
 | true => exact (Dec.bind (e := 0) Dec.kind0 fun t => (Dec.bind (e := 0) (Dec.want (by decide)) fun _ => (Dec.bind (e := 0) hD fun i => (Dec.bind (e := 0) (Dec.want (by decide)) fun _ => (Dec.bind (e := 0) hD fun j => Dec.pure).mono (by omega)).mono (by omega)).mono (by omega)).mono (by omega)).mono (by omega)
 | false => exact fun s hS => (Dec.bind (e := 0) (args_dec hD _ _) fun l => Dec.pure).mono (by omega) s hS
section
variable {P F T lo dp d : Nat} {nx : Sub}
set_option maxRecDepth 100000 in
set_option maxHeartbeats 4000000 in
theorem list_any (hs : Subs F lo dp d nx) : Rds P F T lo dp d 162 #[.pointer (some ⟨P, 0, none⟩)] (listM nx) := by
 intro W s m h he hf
 have hB1 := Loc.new h #[.pointer (some ⟨P, 0, none⟩)] 88
 have hU1 := (Un.start (X := []) h he hf).alloc (.cells #[.pointer (some ⟨P, 0, none⟩)] 88)
 obtain ⟨W1, hW1⟩ : ∃ W1, W.alloc (.cells #[.pointer (some ⟨P, 0, none⟩)] 88) = W1 := ⟨_, rfl⟩
 have hs1 : W1.heap.size = W.heap.size + 1 := by rw [← hW1]; simp
 rw [hW1] at hB1 hU1
 have hE3 := UnE.new (N := W.heap.size + 1) hU1.ps 7 ⟨#[]⟩ 0
 have hU3 := hU1.alloc (.cells #[.int .i64 7, .string ⟨#[]⟩, .slice none 0 0, .slice none 0 0, .int .i64 0] 38)
 have hB3 := hB1.alloc (.cells #[.int .i64 7, .string ⟨#[]⟩, .slice none 0 0, .slice none 0 0, .int .i64 0] 38)
 have b3a := hB3.blk.cell 0
 obtain ⟨W3, hW3⟩ : ∃ W3, W1.alloc (.cells #[.int .i64 7, .string ⟨#[]⟩, .slice none 0 0, .slice none 0 0, .int .i64 0] 38) = W3 := ⟨_, rfl⟩
 have hE3 : UnE W3 P F T lo (W.heap.size + 1) m W1.heap.size (⟨⟨7, ⟨#[]⟩, [], [], 0⟩, .slice none 0 0, .slice none 0 0⟩ : ExM) := by rw [← hW3]; exact hE3
 have hs3 : W3.heap.size = W1.heap.size + 1 := by rw [← hW3]; simp
 rw [hW3] at hU3 hB3
 have h4W := he.ready.1
 have hXf : ∀ k, k ∈ W1.heap.size :: (⟨⟨7, ⟨#[]⟩, [], [], 0⟩, .slice none 0 0, .slice none 0 0⟩ : ExM).foot → 4 ≤ k ∧ W.heap.size < k ∧ k < W3.heap.size := fun k hk => by
  rcases List.mem_cons.1 hk with rfl | hk
  ·omega
  ·cases hk
 have hGR := grouped_any (α := Int × ByteArray × List Nat) hU3.ps hs.left (b := ⟨#[91]⟩) (en := ⟨#[93]⟩) (by decide) (by decide) (enters_of Tryz.func172 (by kernel_rfl) rfl) (lbr := #[.pointer (some ⟨W.heap.size, 0, none⟩), .pointer (some ⟨W1.heap.size, 0, none⟩)]) (X := W1.heap.size :: (⟨⟨7, ⟨#[]⟩, [], [], 0⟩, .slice none 0 0, .slice none 0 0⟩ : ExM).foot) (fun k hk => (hXf k hk).2.2) (f := fun p => listE p.1) (St := StE P F T lo (W.heap.size + 1) W1.heap.size (fun (r : Int × ByteArray × List Nat) => ⟨r.1, r.2.1, r.2.2, [], 0⟩)) StE.aside
  (fun p hp W' s' ha hp' ho ht hff => by
   obtain ⟨d', rfl, hd1, hd2, hr1, hr2⟩ := hs.sub p hp
   exact list1_any (hr1 P T) hd1 (UnS.enter hE3 ha hp' hU3.env (hf.take.down.like ht hff) (by omega) (by omega) (by omega)) (hB3.aside ha) ⟨by omega, by omega⟩)
 obtain ⟨R, hR⟩ : ∃ R, listM nx s = R := ⟨_, rfl⟩
 have HR : Hid (bindP (betweenM ⟨#[91]⟩ ⟨#[93]⟩ true nx fun p => listE p.1) (fun r => addM ⟨r.1.1, r.1.2.1, r.1.2.2, [], r.2⟩) s = R) := Lib.hid hR
 have hDB : Dec d 1 (betweenM ⟨#[91]⟩ ⟨#[93]⟩ true nx fun p => listE p.1) := Dec.between (by decide) (fun p hp => listE_dec (hs.ok.expr p hp))
 rw [hR]
 obtain ⟨RB, hRB⟩ : ∃ RB, betweenM ⟨#[91]⟩ ⟨#[93]⟩ true nx (fun p => listE p.1) s = RB := ⟨_, rfl⟩
 have hGR : Calls Tryz.prog 160 _ W3 (KEnd W3 P F T lo dp m _ _ (betweenM ⟨#[91]⟩ ⟨#[93]⟩ true nx (fun p => listE p.1) s) _) := hGR
 rw [hRB] at hGR
 have HGR := Lib.hid hGR
 have HW3 := Lib.hid hW3
 have HRB := Lib.hid hRB
 have HU3 := Lib.hid hU3
 have HB3 := Lib.hid hB3
 have HE3 := Lib.hid hE3
 have HDB := Lib.hid hDB
 have HXF := Lib.hid hXf
 have HSZ := Lib.hid (And.intro hs1 (And.intro hs3 h4W))
 have b1 := hB1.blk.cell 0
 have b3 := hB3.blk.cell 0
 have hmf : ∀ (fn : Fn) (first cap : Array Value) (w : World), (Instr.makeFunc fn first cap).run Tryz.prog w = .ok (.func fn first cap) w := fun _ _ _ _ => rfl
 clear hW3 h he hf hs hR hGR hRB hU1 hU3 hB1 hB3 hE3 hDB hs1 hs3 h4W hXf
 go_enter Tryz.func162, Tryz.ntmps162
 go_wp2_with fail
 go_at_call 160; rw [HW3.out]; refine HGR.out.mono ?_
 intro e w4 hk
 cases RB with
 | error bd =>
  obtain ⟨D, rfl, hk2⟩ := HU3.out.kbad (fun k hk => .inr (Nat.le_of_lt (HXF.out k hk).2.1)) hk
  refine ⟨rfl, ?_⟩
  rw [bind_err HRB.out HR.out]
  exact Bad.p ⟨D, rfl, hk2⟩
 | ok y =>
  obtain ⟨⟨r, at_⟩, s4⟩ := y
  have hk4 := HU3.out.kend (fun k hk => ⟨(HXF.out k hk).1, .inr (Nat.le_of_lt (HXF.out k hk).2.1)⟩) (HU3.out.fit.dec HDB.out (by decide) HRB.out) hk
  obtain ⟨rfl, m4, hU4, hx4, hl4, x4, he4, hE4⟩ := hk4
  have hR4 := bind_ok HRB.out HR.out
  simp only at hR4 he4
  obtain ⟨⟨k0, t0, l0, kk0, a0⟩, av0, kv0⟩ := x4
  simp only [Ex.mk.injEq] at he4
  obtain ⟨rfl, rfl, rfl, rfl, rfl⟩ := he4
  have hz := HSZ.out
  have hB4 := HB3.out.kstep hx4 hl4 (fun hm => by have := (HXF.out _ hm).2.1; omega)
  have HB4 := Lib.hid hB4
  have hU5 := hU4.set (B := W1.heap.size) ⟨hE4.loc.neP, hE4.loc.neT, hE4.loc.out, by omega, .inr (by omega)⟩ 4 (.int .i64 (at_ : Int))
  have hE5 := hE4.setAt at_
  have hB5 := hB4.lc (Lc.set w4 W1.heap.size 4 (.int .i64 (at_ : Int)) (Y := [W1.heap.size]) (by simp)) (by simp; omega)
  have c4 := hE4.loc.blk.cell 4
  have f4 := hE4.loc.blk.frozen 4
  obtain ⟨W5, hW5⟩ : ∃ W5, w4.setCell ⟨W1.heap.size, 4, none⟩ (.int .i64 (at_ : Int)) = W5 := ⟨_, rfl⟩
  rw [hW5] at hU5 hE5 hB5
  have b5 := hB5.blk.cell 0
  have q0 := hE5.loc.blk.cell 0
  have q1 := hE5.loc.blk.cell 1
  have q2 := hE5.loc.blk.cell 2
  have q3 := hE5.loc.blk.cell 3
  have q4 := hE5.loc.blk.cell 4
  have HADD := Lib.hid (hU5.addE (hE5.mono (by omega)))
  have hend : R = addM ⟨r.1, r.2.1, r.2.2, [], at_⟩ s4 := hR4.symm
  have HEND := Lib.hid hend
  clear hU4 hx4 hl4 hE4 hB4 hU5 hE5 hB5 hR4 hk hend hz
  go_wp2_with fail
  go_at_call 105; refine HADD.out.mono ?_
  rintro e w6 ⟨rfl, m6, hp6, ho6, hl6⟩
  have hnv : natV s4.f.exprs.length = .int .i64 (s4.f.exprs.length : Int) := rfl
  rw [hnv]
  go_wp2_with fail
  go_ret
  rw [HEND.out]
  exact ⟨rfl, m6, hp6, ho6, hl6⟩
end
end Go.Proofs.YtljgggohjigaoaaGreatDoor
namespace Go.Proofs.YtljgggohjigaoaaGreatDoor
open Go.RowKit Go.Shelf
set_option linter.unusedVariables false

theorem brace_sfx : ∀ (n : Nat) (R r : List UInt8), (braceS n R = some r → r <:+ R) ∧ (quoteS n R = some r → r <:+ R) := by
 intro n
 induction n with
 | zero => intro R r; exact ⟨fun h => by simp [braceS] at h, fun h => by simp [quoteS] at h⟩
 | succ n ih =>
  intro R r
  cases R with
  | nil => exact ⟨fun h => by simp [braceS] at h, fun h => by simp [quoteS] at h⟩
  | cons c l =>
   have hc := List.suffix_cons c l
   have hd := (List.drop_suffix 1 l).trans hc
   refine ⟨fun h => ?_, fun h => ?_⟩
   ·unfold braceS at h
    simp only at h
    split at h
    ·cases h; exact hc
    ·split at h
     ·cases hb : braceS n l with
      | none => rw [hb] at h; cases h
      | some r' => rw [hb] at h; exact ((ih r' r).1 h).trans (((ih l r').1 hb).trans hc)
     ·split at h
      ·cases hb : quoteS n l with
       | none => rw [hb] at h; cases h
       | some r' => rw [hb] at h; exact ((ih r' r).1 h).trans (((ih l r').2 hb).trans hc)
      ·exact ((ih l r).1 h).trans hc
   ·unfold quoteS at h
    simp only at h
    split at h
    ·cases h; exact hc
    ·split at h
     ·exact ((ih (l.drop 1) r).2 h).trans hd
     ·split at h
      ·cases hb : braceS n (l.drop 1) with
       | none => rw [hb] at h; cases h
       | some r' => rw [hb] at h; exact ((ih r' r).2 h).trans (((ih (l.drop 1) r').1 hb).trans hd)
      ·exact ((ih l r).2 h).trans hc
theorem rest_sfx {x : ByteArray} {r : List UInt8} (h : r <:+ x.data.toList) : r.length ≤ x.size ∧ rest x (x.size - r.length) = r := by
 obtain ⟨t, ht⟩ := h
 have hl : t.length + r.length = x.size := by
  have := congrArg List.length ht
  simpa using this
 refine ⟨by omega, ?_⟩
 unfold rest
 rw [← ht, show x.size - r.length = t.length by omega]
 simp
theorem rest_is_sfx (x : ByteArray) (a : Nat) : rest x a <:+ x.data.toList := List.drop_suffix _ _
theorem rest_head {x : ByteArray} {a : Nat} {c : UInt8} {r : List UInt8} (h : rest x a = c :: r) : ∃ ha : a < x.size, x[a]'ha = c ∧ rest x (a + 1) = r := by
 have hl : a < x.size := by
  have := congrArg List.length h
  rw [rest_length] at this
  simp at this
  omega
 have h2 := rest_cons hl
 rw [h] at h2
 cases h2
 exact ⟨hl, rfl, rfl⟩
/-- It answers where what is left begins. -/
def SkipsTo (x : ByteArray) (r : List UInt8) (W : World) (e : Ending) (w' : World) : Prop := e = .returned (.int .i64 ((x.size - r.length : Nat) : Int)) ∧ Below W.heap.size W w'
def BraceAt (n : Nat) : Prop := ∀ (x : ByteArray) (a : Nat) (r : List UInt8) (W : World), x.size ≤ 1000000000 → a ≤ x.size → braceS n (rest x a) = some r → Calls Tryz.prog 97 #[.string x, .int .i64 (a : Int)] W (SkipsTo x r W)
def QuoteAt (n : Nat) : Prop := ∀ (x : ByteArray) (a : Nat) (r : List UInt8) (W : World), x.size ≤ 1000000000 → a ≤ x.size → quoteS n (rest x a) = some r → Calls Tryz.prog 118 #[.string x, .int .i64 (a : Int)] W (SkipsTo x r W)
theorem ne_u8 {c : UInt8} {k : Nat} (hk : k < 256) (h : c ≠ UInt8.ofNat k) : ((c.toNat : Int) == (k : Int)) = false := beq_eq_false_iff_ne.2 (fun e => h (UInt8.toNat_inj.1 (by have := Int.ofNat.inj e; rw [this]; simp; omega)))
end Go.Proofs.YtljgggohjigaoaaGreatDoor
