/- What a choice chooses between · A whole expression -/
import Derived.Deep.RegionWith
import Derived.Deep.RegionHeld
import Derived.Test.YtljgggohjigaoaaGreatDoorSk17
namespace Go.Proofs.YtljgggohjigaoaaGreatDoor
open Go.RowKit Go.Shelf
set_option linter.unusedVariables false
set_option linter.unusedSimpArgs false

def condE (l : List Nat) (ex : PM Nat) : PM (List Nat) := bindP ex fun i => bindP (wantM (wb [58])) fun _ => bindP ex fun j s => .ok (l ++ [i] ++ [j], s)
set_option maxRecDepth 100000 in
set_option maxHeartbeats 4000000 in
theorem expr1_any {W : World} {P F T lo dp d N E Bp a n : Nat} {s : Ps} {m : FileM} {X : List Nat} {ex : PM Nat} {ad : Option Addr} {cap : Nat} {l : List Nat} {kv : Value} (hE : Rds P F T lo dp d 75 #[.pointer (some ⟨P, 0, none⟩)] ex) (hD : Dec d 0 ex) (h : UnS W W P F T lo dp d m X s m N E ⟨⟨28, ⟨#[]⟩, l, [], a⟩, .slice ad n cap, kv⟩) (hln : l.length = n) (hn : n ≤ 1000) (hB : Loc W P F T m Bp #[.pointer (some ⟨P, 0, none⟩)] 88) (hNB : Bp < N ∧ Bp ≠ E) :
  Calls Tryz.prog 104 #[.pointer (some ⟨E, 0, none⟩), .pointer (some ⟨Bp, 0, none⟩)] W (KEnd W P F T lo dp m X (StE P F T lo N E (fun (r : List Nat) => ⟨28, ⟨#[]⟩, r, [], a⟩)) (condE l ex s) (fun _ => .tuple #[])) := by
 obtain ⟨iI, hiI, hzI, hsI, hbI⟩ := info_of infoInt0
 have HS := Lib.hid h
 have HB := Lib.hid hB
 have HNB := Lib.hid hNB
 have HEX := Lib.hid (And.intro hE hD)
 have HNa := Lib.hid hln
 obtain ⟨R, hR⟩ : ∃ R, condE l ex s = R := ⟨_, rfl⟩
 have HRa : Hid (bindP ex (fun i => bindP (wantM ⟨#[58]⟩) fun _ => bindP ex fun j s => .ok (l ++ [i] ++ [j], s)) s = R) := Lib.hid hR
 rw [hR]
 clear h hB hE hD hR hNB hln
 go_enter Tryz.func104, Tryz.ntmps104
 have hdra := HS.out.below (Below.refl _ W).drew
 have HDRa := Lib.hid hdra
 have HBDa := Lib.hid (HB.out.lc (Lc.of (Below.refl _ W).drew []) (by simp))
 have p0a := HB.out.blk.cell 0
 have a2a := HS.out.ue.loc.blk.cell 2
 have hrda := hdra.un.reads HEX.out.1 HEX.out.2
 clear hdra
 cases hma : ex s with
 | error bd =>
  rw [hma] at hrda
  have HRDa := Lib.hid hrda
  have HREa := Lib.hid (bind_err hma HRa.out)
  clear hrda hma
  go_wp2_with fail
  refine wp_region_held_drew (S := fun w' => w'.cell? ⟨Bp, 0, none⟩ = some (.pointer (some ⟨P, 0, none⟩)) ∧ w'.cell? ⟨E, 2, none⟩ = some (.slice ad n cap)) (by kernel_rfl) ⟨p0a, a2a⟩ (fun hHeld => ?_)
  refine wpAnyH_take (i := 0) (oi := _) (v := ?qa_v0) rfl (by kernel_rfl) (by kernel_rfl) (by kernel_rfl) (fun _ _ _ h => h) (Or.inl ⟨by rfl, ?qa_y0⟩) (by assumption) ?qa_r0
  case qa_y0 => (intro w hSw; (try dsimp only at hSw); go_simp; (try with_reducible rfl))
  try simp only [Act.put, List.setIfInBounds_toArray, List.set_cons_zero, List.set_cons_succ]
  refine wpAnyH_take (i := 1) (oi := _) (v := ?qa_v1) rfl (by kernel_rfl) (by kernel_rfl) (by kernel_rfl) (fun _ _ _ h => h) (Or.inl ⟨by rfl, ?qa_y1⟩) (by assumption) ?qa_r1
  case qa_y1 => (intro w hSw; (try dsimp only at hSw); go_simp; (try with_reducible rfl))
  try simp only [Act.put, List.setIfInBounds_toArray, List.set_cons_zero, List.set_cons_succ]
  refine wpAnyH_take (i := 2) (oi := _) (v := ?qa_v2) rfl (by kernel_rfl) (by kernel_rfl) (by kernel_rfl) (fun _ _ _ h => h) (Or.inl ⟨by rfl, ?qa_y2⟩) (by assumption) ?qa_r2
  case qa_y2 => (intro w hSw; (try dsimp only at hSw); go_simp; (try with_reducible rfl))
  try simp only [Act.put, List.setIfInBounds_toArray, List.set_cons_zero, List.set_cons_succ]
  refine wpAnyH_ready (rs := [3]) (by kernel_rfl) (by simp) ?_
  refine AllReadyH.cons (o := _) rfl (fun K hK => ?_) AllReadyH.nil
  go_simp
  go_at_call 75; refine HRDa.out.mono ?_; rintro e w4 ⟨D, rfl, hk⟩
  refine ⟨rfl, ?_⟩
  rw [HREa.out]
  exact ⟨D, rfl, hk⟩
 | ok ya =>
  obtain ⟨ia, s3a⟩ := ya
  rw [hma] at hrda
  have HRDa := Lib.hid hrda
  have HRoa := Lib.hid (bind_ok hma HRa.out)
  have HEAa : Hid (E ∉ ownB (.slice ad n cap)) := Lib.hid (fun e => (HS.out.ue.foot E (List.mem_append.2 (.inl e))).2.2.2.1 rfl)
  clear hrda hma
  go_wp2_with fail
  refine have AFTERa : (∀ (w4 w5 : World) (g2 cap2 : Nat), (∃ m3, Stepped W W.drew w4 P F T lo dp d m X m s3a m3 ∧ w5.ownsRow lo 3 1 (.slice (some ⟨g2, 0, none⟩) (n + 1) cap2) (n + 1) (intsV l ++ [.int .i64 (ia : Int)]) ∧ (w4.alloc (.cells #[.int .i64 (ia : Int)] 3)).grownBy w5 (Value.slice ad n cap).ownBlock ∧ ((Value.slice ad n cap).ownBlock = some g2 ∨ g2 = (w4.alloc (.cells #[.int .i64 (ia : Int)] 3)).heap.size)) → (?Ga : World → World → Nat → Nat → Prop) w4 w5 g2 cap2) := ?latera; ?maina
  case maina =>
   go_region_law (first
    | (go_simp; go_at_call 75; refine HRDa.out.mono ?_; rintro e w4 ⟨rfl, m3, hs4⟩; have hnv : natV ia = .int .i64 (ia : Int) := rfl; have H4 := Lib.hid (HDRa.out.step hs4); have hB4 := HBDa.out.step hs4.outs hs4.later; have a24 := H4.out.ue.loc.blk.cell 2; have a24a := (H4.out.ue.loc.blk.alloc (.cells #[.int .i64 (ia : Int)] 3)).cell 2; have hrow := H4.out.ue.ok.args.alloc (.cells #[.int .i64 (ia : Int)] 3); have hrow := (HNa.out ▸ hrow : (w4.alloc (.cells #[.int .i64 (ia : Int)] 3)).ownsRow lo 3 1 (.slice ad n cap) n (intsV l)); have hblk := World.alloc_heap_new w4 (.cells #[.int .i64 (ia : Int)] 3); have hlo4 : lo ≤ w4.heap.size := hs4.un.ps.base.2)
    | (refine step_append_lies _ rfl (.tmp 3) (.tmp 6) 26 rfl lo 3 iI (.int .i64 0) 1 8 Tryz.underlying26 hiI hzI hsI hbI rfl (by decide) _ _ _ rfl hrow ⟨w4.heap.size, 0, none⟩ 1 1 [.int .i64 (ia : Int)] rfl rfl (World.news_of_block hblk) (by intro u hu; simp at hu; subst hu; rfl) (by decide) (by unfold maxLen; omega) (by omega) (by simp; omega) _ rfl ?_; intro g2 cap2 w5 hown hgrow hat hlt; have hE5 := H4.out.ue.loc.lc (grown_lc (Y := ownB (.slice ad n cap)) hgrow (fun g e => mem_ownB.2 e)) HEAa.out; have c52 := hE5.blk.cell 2; have f52 := hE5.blk.frozen 2))
   all_goals exact AFTERa w4 w5 g2 cap2 ⟨m3, hs4, hown, hgrow, hat⟩
  case latera =>
   rintro w4 w5 ga ca ⟨m3a, hs4, hown, hgrow, hat⟩
   have h4a := HDRa.out.step hs4
   have hpa := h4a.push (n := n) HNa.out hown hgrow hat
   have HBa := Lib.hid ((HBDa.out.step hs4.outs hs4.later).lc hpa.2 (fun hk => by
    rcases List.mem_cons.1 hk with h1 | h1
    ·exact HNB.out.2 h1
    ·have := (h4a.ue.foot Bp (List.mem_append.2 (.inl h1))).2.2.2.2
     have := HNB.out.1
     omega))
   have HSa := Lib.hid hpa.1
   have HNao : Hid ((l ++ [ia]).length = n + 1) := Lib.hid (by rw [List.length_append, HNa.out]; rfl)
   clear hs4 hown hgrow hat hpa h4a p0a a2a
   obtain ⟨w6a, hw6a⟩ : ∃ w6, w5.setCell ⟨E, 2, none⟩ (.slice (some ⟨ga, 0, none⟩) (n + 1) ca) = w6 := ⟨_, rfl⟩
   rw [hw6a] at HBa HSa ⊢
   clear hw6a
   obtain ⟨ka, hka⟩ : ∃ q, n + 1 = q := ⟨_, rfl⟩
   rw [hka] at HSa HNao
   have hkba : ka ≤ 1000000000 := by omega
   clear hka
   have b0a := HBa.out.blk.cell 0
   have hcc := HSa.out.un.want (b := ⟨#[58]⟩) (by decide)
   cases hmc : wantM (⟨#[58]⟩ : ByteArray) s3a with
   | error bd =>
    rw [hmc] at hcc
    have HCc := Lib.hid hcc
    have HREc := Lib.hid (bind_err hmc HRoa.out)
    clear hcc hmc
    go_wp2_with fail
    go_at_call 99; refine HCc.out.mono ?_
    rintro e we ⟨D, rfl, hk2⟩
    refine ⟨rfl, ?_⟩
    rw [HREc.out]
    exact Bad.k ⟨D, rfl, hk2⟩
   | ok yc =>
    obtain ⟨ac, sc⟩ := yc
    rw [hmc] at hcc
    have HCc := Lib.hid hcc
    have HRc := Lib.hid (bind_ok hmc HRoa.out)
    clear hcc hmc
    go_wp2_with fail
    go_at_call 99; refine HCc.out.mono ?_
    rintro e wc ⟨rfl, mc, hsc⟩
    have HSc := Lib.hid (HSa.out.step hsc)
    have HBc := Lib.hid (HBa.out.step hsc.outs hsc.later)
    clear hsc
    have HRb : Hid (bindP ex (fun j s => .ok (l ++ [ia] ++ [j], s)) sc = R) := HRc
    have HNb := HNao
    have hdrb := HSc.out.below (Below.refl _ wc).drew
    have HDRb := Lib.hid hdrb
    have HBDb := Lib.hid (HBc.out.lc (Lc.of (Below.refl _ wc).drew []) (by simp))
    have p0b := HBc.out.blk.cell 0
    have a2b := HSc.out.ue.loc.blk.cell 2
    have hrdb := hdrb.un.reads HEX.out.1 HEX.out.2
    clear hdrb
    cases hmb : ex sc with
    | error bd =>
     rw [hmb] at hrdb
     have HRDb := Lib.hid hrdb
     have HREb := Lib.hid (bind_err hmb HRb.out)
     clear hrdb hmb
     go_wp2_with fail
     refine wp_region_held_drew (S := fun w' => w'.cell? ⟨Bp, 0, none⟩ = some (.pointer (some ⟨P, 0, none⟩)) ∧ w'.cell? ⟨E, 2, none⟩ = some (.slice (some ⟨ga, 0, none⟩) ka ca)) (by kernel_rfl) ⟨p0b, a2b⟩ (fun hHeld => ?_)
     refine wpAnyH_take (i := 0) (oi := _) (v := ?qb_v0) rfl (by kernel_rfl) (by kernel_rfl) (by kernel_rfl) (fun _ _ _ h => h) (Or.inl ⟨by rfl, ?qb_y0⟩) (by assumption) ?qb_r0
     case qb_y0 => (intro w hSw; (try dsimp only at hSw); go_simp; (try with_reducible rfl))
     try simp only [Act.put, List.setIfInBounds_toArray, List.set_cons_zero, List.set_cons_succ]
     refine wpAnyH_take (i := 1) (oi := _) (v := ?qb_v1) rfl (by kernel_rfl) (by kernel_rfl) (by kernel_rfl) (fun _ _ _ h => h) (Or.inl ⟨by rfl, ?qb_y1⟩) (by assumption) ?qb_r1
     case qb_y1 => (intro w hSw; (try dsimp only at hSw); go_simp; (try with_reducible rfl))
     try simp only [Act.put, List.setIfInBounds_toArray, List.set_cons_zero, List.set_cons_succ]
     refine wpAnyH_take (i := 2) (oi := _) (v := ?qb_v2) rfl (by kernel_rfl) (by kernel_rfl) (by kernel_rfl) (fun _ _ _ h => h) (Or.inl ⟨by rfl, ?qb_y2⟩) (by assumption) ?qb_r2
     case qb_y2 => (intro w hSw; (try dsimp only at hSw); go_simp; (try with_reducible rfl))
     try simp only [Act.put, List.setIfInBounds_toArray, List.set_cons_zero, List.set_cons_succ]
     refine wpAnyH_ready (rs := [3]) (by kernel_rfl) (by simp) ?_
     refine AllReadyH.cons (o := _) rfl (fun K hK => ?_) AllReadyH.nil
     go_simp
     go_at_call 75; refine HRDb.out.mono ?_; rintro e w4 ⟨D, rfl, hk⟩
     refine ⟨rfl, ?_⟩
     rw [HREb.out]
     exact ⟨D, rfl, hk⟩
    | ok yb =>
     obtain ⟨ib, s3b⟩ := yb
     rw [hmb] at hrdb
     have HRDb := Lib.hid hrdb
     have HRob := Lib.hid (bind_ok hmb HRb.out)
     have HEAb : Hid (E ∉ ownB (.slice (some ⟨ga, 0, none⟩) ka ca)) := Lib.hid (fun e => (HSc.out.ue.foot E (List.mem_append.2 (.inl e))).2.2.2.1 rfl)
     clear hrdb hmb
     go_wp2_with fail
     refine have AFTERb : (∀ (w4 w5 : World) (g2 cap2 : Nat), (∃ m3, Stepped W wc.drew w4 P F T lo dp d m X mc s3b m3 ∧ w5.ownsRow lo 3 1 (.slice (some ⟨g2, 0, none⟩) (ka + 1) cap2) (ka + 1) (intsV (l ++ [ia]) ++ [.int .i64 (ib : Int)]) ∧ (w4.alloc (.cells #[.int .i64 (ib : Int)] 3)).grownBy w5 (Value.slice (some ⟨ga, 0, none⟩) ka ca).ownBlock ∧ ((Value.slice (some ⟨ga, 0, none⟩) ka ca).ownBlock = some g2 ∨ g2 = (w4.alloc (.cells #[.int .i64 (ib : Int)] 3)).heap.size)) → (?Gb : World → World → Nat → Nat → Prop) w4 w5 g2 cap2) := ?laterb; ?mainb
     case mainb =>
      go_region_law (first
       | (go_simp; go_at_call 75; refine HRDb.out.mono ?_; rintro e w4 ⟨rfl, m3, hs4⟩; have hnv : natV ib = .int .i64 (ib : Int) := rfl; have H4 := Lib.hid (HDRb.out.step hs4); have hB4 := HBDb.out.step hs4.outs hs4.later; have a24 := H4.out.ue.loc.blk.cell 2; have a24a := (H4.out.ue.loc.blk.alloc (.cells #[.int .i64 (ib : Int)] 3)).cell 2; have hrow := H4.out.ue.ok.args.alloc (.cells #[.int .i64 (ib : Int)] 3); have hrow := (HNb.out ▸ hrow : (w4.alloc (.cells #[.int .i64 (ib : Int)] 3)).ownsRow lo 3 1 (.slice (some ⟨ga, 0, none⟩) ka ca) ka (intsV (l ++ [ia]))); have hblk := World.alloc_heap_new w4 (.cells #[.int .i64 (ib : Int)] 3); have hlo4 : lo ≤ w4.heap.size := hs4.un.ps.base.2)
       | (refine step_append_lies _ rfl (.tmp 12) (.tmp 15) 26 rfl lo 3 iI (.int .i64 0) 1 8 Tryz.underlying26 hiI hzI hsI hbI rfl (by decide) _ _ _ rfl hrow ⟨w4.heap.size, 0, none⟩ 1 1 [.int .i64 (ib : Int)] rfl rfl (World.news_of_block hblk) (by intro u hu; simp at hu; subst hu; rfl) (by decide) (by unfold maxLen; omega) (by omega) (by simp; omega) _ rfl ?_; intro g2 cap2 w5 hown hgrow hat hlt; have hE5 := H4.out.ue.loc.lc (grown_lc (Y := ownB (.slice (some ⟨ga, 0, none⟩) ka ca)) hgrow (fun g e => mem_ownB.2 e)) HEAb.out; have c52 := hE5.blk.cell 2; have f52 := hE5.blk.frozen 2))
      all_goals exact AFTERb w4 w5 g2 cap2 ⟨m3, hs4, hown, hgrow, hat⟩
     case laterb =>
      rintro w4 w5 gb cb ⟨m3b, hs4, hown, hgrow, hat⟩
      have h4b := HDRb.out.step hs4
      have hpb := h4b.push (n := ka) HNb.out hown hgrow hat
      have HBb := Lib.hid ((HBDb.out.step hs4.outs hs4.later).lc hpb.2 (fun hk => by
       rcases List.mem_cons.1 hk with h1 | h1
       ·exact HNB.out.2 h1
       ·have := (h4b.ue.foot Bp (List.mem_append.2 (.inl h1))).2.2.2.2
        have := HNB.out.1
        omega))
      have HSb := Lib.hid hpb.1
      have HNbo : Hid (((l ++ [ia]) ++ [ib]).length = ka + 1) := Lib.hid (by rw [List.length_append, HNb.out]; rfl)
      clear hs4 hown hgrow hat hpb h4b p0b a2b
      obtain ⟨w6b, hw6b⟩ : ∃ w6, w5.setCell ⟨E, 2, none⟩ (.slice (some ⟨gb, 0, none⟩) (ka + 1) cb) = w6 := ⟨_, rfl⟩
      rw [hw6b] at HBb HSb ⊢
      clear hw6b
      obtain ⟨kb, hkb⟩ : ∃ q, ka + 1 = q := ⟨_, rfl⟩
      rw [hkb] at HSb HNbo
      have hkbb : kb ≤ 2000000000 := by omega
      clear hkb
      go_wp2_with fail
      go_end0
      rw [← HRob.out]
      exact HSb.out.k (by simp)
end Go.Proofs.YtljgggohjigaoaaGreatDoor
namespace Go.Proofs.YtljgggohjigaoaaGreatDoor
open Go.RowKit Go.Shelf
set_option linter.unusedVariables false

theorem deeper_kend {α : Type} {W : World} {P F T lo dp : Nat} {s : Ps} {m : FileM} (h : PsAt W P F T lo dp s m) {nx : Sub} (hnx : Left24 dp nx) (a : Nat) {gr : Nat} {lbr : Array Value} (egr : ∀ args w, (callFunc gr args).run Tryz.prog w = .ok (.enter gr args) w) {X : List Nat} {f : PM Nat × PM Nat → PM α} {St : α → FileM → World → Prop} (hst : ∀ a m w w', St a m w → Aside P w w' → St a m w')
  (hr : ∀ p, nx = some p → ∀ (W' : World), Aside P W W' → PsAt W' P F T lo (dp + 1) s m → Calls Tryz.prog gr lbr W' (KEnd W' P F T lo (dp + 1) m X St (f p s) (fun _ => .tuple #[]))) :
  Calls Tryz.prog 100 #[.pointer (some ⟨P, 0, none⟩), .int .i64 (a : Int), .func (.func gr) #[] lbr] W (KEnd W P F T lo dp m X St (deeperM nx a f s) (fun _ => .tuple #[])) := by
 obtain ⟨tv, hP⟩ := h.blk
 rcases hnx with ⟨h24, hn⟩ | ⟨h24, p, hn⟩
 ·have hR : deeperM nx a f s = .error (7, a) := by rw [hn]; rfl
  rw [hR]
  refine (deeper_too (F := F) (by rw [h24] at hP; exact hP) (a : Int) _).mono ?_
  rintro e w6 ⟨D, rfl, hD, hdb, hbw⟩
  exact ⟨D, rfl, hD, hdb, OutsX.of (Aside.of hbw) X⟩
 ·have hR : deeperM nx a f s = f p s := by rw [hn]; rfl
  rw [hR]
  have hA6 : Aside P W (W.setCell ⟨P, 2, none⟩ (.int .i64 ((dp + 1 : Nat) : Int))) := (Aside.refl P W).set 2 _
  have hC := hr p hn _ hA6 (h.setDepth (dp + 1))
  refine (deeper_any hP h24 (a : Int) egr (hC.mono (fun e w hk => hk.reads))).mono ?_
  rintro e w8 (⟨rfl, w7, ⟨a2, s3, hin, m', hp7, ho7, hl7, hs7⟩, -, rfl⟩ | ⟨v, rfl, bd, D, hin, rfl, hD, hdb, ho7⟩)
  ·rw [hin]
   refine ⟨rfl, m', hp7.setDepth dp, ?_, ⟨fun g hg => (hl7 g hg).imp id (Nat.le_trans hA6.size), hl7.tv⟩, hst _ _ _ _ hs7 ((Aside.refl P w7).set 2 _)⟩
   exact ((OutsX.of hA6 X).trans (Later.refl W F m) ho7).trans (⟨fun g hg => (hl7 g hg).imp id (Nat.le_trans hA6.size), hl7.tv⟩) (OutsX.of ((Aside.refl P w7).set 2 _) X)
  ·rw [hin]
   exact ⟨D, rfl, Nat.le_trans hA6.size hD, hdb, (OutsX.of hA6 X).trans (Later.refl W F m) ho7⟩
theorem condE_dec {d : Nat} {l : List Nat} {ex : PM Nat} (hD : Dec d 0 ex) : Dec d 0 (condE l ex) :=
 (Dec.bind (e := 1) hD fun i => (Dec.bind (e := 0) (Dec.want (by decide)) fun _ => (Dec.bind (e := 0) hD fun j => Dec.pure).mono (by omega)).mono (by omega)).mono (by omega)
section
variable {P F T lo dp d : Nat} {nx : Sub}
set_option maxRecDepth 100000 in
set_option maxHeartbeats 4000000 in
theorem expr_any (hs : Subs F lo dp d nx) (hJ : Rds P F T lo dp d 103 #[.pointer (some ⟨P, 0, none⟩), .int .i64 0] (joinedM nx 6)) : Rds P F T lo dp d 75 #[.pointer (some ⟨P, 0, none⟩)] (exprM nx) := by
 intro W s m h he hf
 have hB1 := Loc.new h #[.pointer (some ⟨P, 0, none⟩)] 88
 have hU1 := (Un.start (X := []) h he hf).alloc (.cells #[.pointer (some ⟨P, 0, none⟩)] 88)
 obtain ⟨W1, hW1⟩ : ∃ W1, W.alloc (.cells #[.pointer (some ⟨P, 0, none⟩)] 88) = W1 := ⟨_, rfl⟩
 have hs1 : W1.heap.size = W.heap.size + 1 := by rw [← hW1]; simp
 rw [hW1] at hB1 hU1
 have h4W := he.ready.1
 obtain ⟨R, hR⟩ : ∃ R, exprM nx s = R := ⟨_, rfl⟩
 have HR : Hid (bindP (joinedM nx 6) (fun first s => if isW ⟨#[63]⟩ (next s) then bindP (deeperM nx (next s).at_ fun p => condE [first] p.1) (fun l => addM ⟨28, ⟨#[]⟩, l, [], (next s).at_⟩) (takeS s) else .ok (first, peekS s)) s = R) := Lib.hid hR
 rw [hR]
 have HU1 := Lib.hid hU1
 have HB1 := Lib.hid hB1
 have HSUB := Lib.hid hs
 have HJJ := Lib.hid (And.intro hJ (joined_dec hs.ok 6))
 have HSZ := Lib.hid (And.intro hs1 h4W)
 have b1 := hB1.blk.cell 0
 have hmf : ∀ (fn : Fn) (first cap : Array Value) (w : World), (Instr.makeFunc fn first cap).run Tryz.prog w = .ok (.func fn first cap) w := fun _ _ _ _ => rfl
 clear h he hf hs hR hU1 hB1 hJ hs1 h4W
 go_enter Tryz.func75, Tryz.ntmps75
 have hc2 := HU1.out.reads HJJ.out.1 HJJ.out.2
 cases hm2 : joinedM nx 6 s with
 | error bd =>
  rw [hm2] at hc2
  have HC2 := Lib.hid hc2
  have HRE := Lib.hid (bind_err hm2 HR.out)
  clear hc2 hm2
  go_wp2_with fail
  go_at_call 103; refine HC2.out.mono ?_
  rintro e we ⟨D, rfl, hk2⟩
  refine ⟨rfl, ?_⟩
  rw [HRE.out]
  exact Bad.p ⟨D, rfl, hk2⟩
 | ok y2 =>
  obtain ⟨first, s2⟩ := y2
  rw [hm2] at hc2
  have HC2 := Lib.hid hc2
  have HR2 := Lib.hid (bind_ok hm2 HR.out)
  clear hc2 hm2
  go_wp2_with fail
  go_at_call 103; refine HC2.out.mono ?_
  rintro e w2 ⟨rfl, m2, hs2⟩
  have hnv : natV first = .int .i64 (first : Int) := rfl
  rw [hnv]
  have HU2 := Lib.hid hs2.un
  have HB2 := Lib.hid (HB1.out.step hs2.outs hs2.later)
  have b2 := HB2.out.blk.cell 0
  obtain ⟨b, hb⟩ : ∃ b, isW ⟨#[63]⟩ (next s2) = b := ⟨_, rfl⟩
  have hIS := hs2.un.is ⟨#[63]⟩
  rw [hb] at hIS
  have HIS := Lib.hid hIS
  have HBB := Lib.hid hb
  clear hs2 hIS hb hnv
  go_wp2_with fail
  go_at_call 102; refine HIS.out.mono ?_
  rintro e w3 ⟨rfl, hs3⟩
  have HU3 := Lib.hid hs3.un
  have HB3 := Lib.hid (HB2.out.step hs3.outs hs3.later)
  have b3 := HB3.out.blk.cell 0
  clear hs3
  cases b with
  | false =>
   have hend : R = .ok (first, peekS s2) := by
    rw [← HR2.out]
    simp only [HBB.out, Bool.false_eq_true, if_false]
   have HEND := Lib.hid hend
   clear hend
   go_wp2_with fail
   go_ret
   rw [HEND.out]
   exact ⟨rfl, m2, HU3.out.ps, HU3.out.outs.o, HU3.out.later⟩
  | true =>
   obtain ⟨t, ht⟩ : ∃ t, next s2 = t := ⟨_, rfl⟩
   have HR3 : Hid (bindP (deeperM nx t.at_ fun p => condE [first] p.1) (fun l => addM ⟨28, ⟨#[]⟩, l, [], t.at_⟩) (takeS s2) = R) := Lib.hid (by
    rw [← HR2.out, ← ht]
    simp only [HBB.out, if_true])
   have hk0 : (next (peekS s2)).k ≠ 0 := by rw [next_peek]; exact HU2.out.fit.kind (by decide) HBB.out
   have hU4 := HU3.out.alloc (.cells #[.int .i64 (first : Int)] 3)
   have hO4 := OwnL.lit (N := W.heap.size + 1) HU3.out.ps (by have := HU3.out.outs.size; have := HSZ.out; have h1 := HB1.out.blk.lt; have h2 := HB3.out.blk.lt; omega) [first] (by simp)
   have hO4 : OwnL (w3.alloc (.cells #[.int .i64 (first : Int)] 3)) P F T lo (W.heap.size + 1) m2 3 1 (.slice (some ⟨w3.heap.size, 0, none⟩) 1 1) [first].length (intsV [first]) := hO4
   have HO4 := Lib.hid hO4
   have hB4 := HB3.out.alloc (.cells #[.int .i64 (first : Int)] 3)
   have HB4 := Lib.hid hB4
   have b4 := hB4.blk.cell 0
   have hTK := hU4.take hk0
   rw [next_peek, take_peek, ht] at hTK
   have HTK := Lib.hid hTK
   have hfl : ∀ w : World, (Instr.field 75 (tkV t) 2).run Tryz.prog w = .ok (.int .i64 (t.at_ : Int)) w := fun _ => rfl
   clear hU4 hO4 hB4 hTK hk0 ht
   go_wp2_with fail
   go_at_call 53; refine HTK.out.mono ?_
   rintro e w5 ⟨rfl, hs5⟩
   have hO5 := HO4.out.step hs5.outs hs5.later
   have hB5 := HB4.out.step hs5.outs hs5.later
   have b5 := hB5.blk.cell 0
   have hE6 := UnE.ofRow hs5.un.ps 28 ⟨#[]⟩ hO5 t.at_
   have hU6 := hs5.un.alloc (.cells #[.int .i64 28, .string ⟨#[]⟩, .slice (some ⟨w3.heap.size, 0, none⟩) 1 1, .slice none 0 0, .int .i64 (t.at_ : Int)] 38)
   have hB6 := hB5.alloc (.cells #[.int .i64 28, .string ⟨#[]⟩, .slice (some ⟨w3.heap.size, 0, none⟩) 1 1, .slice none 0 0, .int .i64 (t.at_ : Int)] 38)
   have b6 := hB6.blk.cell 0
   have e6 := hE6.loc.blk.cell 4
   obtain ⟨W6, hW6⟩ : ∃ W6, w5.alloc (.cells #[.int .i64 28, .string ⟨#[]⟩, .slice (some ⟨w3.heap.size, 0, none⟩) 1 1, .slice none 0 0, .int .i64 (t.at_ : Int)] 38) = W6 := ⟨_, rfl⟩
   rw [hW6] at hU6 hB6 hE6
   have HW6 := Lib.hid hW6
   have hz5 : W.heap.size < w5.heap.size := hB5.blk.lt
   have h4 := HSZ.out.2
   have HSZ5 := Lib.hid (And.intro hz5 (And.intro h4 (show W6.heap.size = w5.heap.size + 1 by rw [← hW6]; simp)))
   have hDK := deeper_kend (α := List Nat) hU6.ps HSUB.out.left t.at_ (enters_of Tryz.func104 (by kernel_rfl) rfl) (lbr := #[.pointer (some ⟨w5.heap.size, 0, none⟩), .pointer (some ⟨W.heap.size, 0, none⟩)]) (X := w5.heap.size :: (⟨⟨28, ⟨#[]⟩, [first], [], t.at_⟩, .slice (some ⟨w3.heap.size, 0, none⟩) 1 1, .slice none 0 0⟩ : ExM).foot) (f := fun p => condE [first] p.1) (St := StE P F T lo (W.heap.size + 1) w5.heap.size (fun (r : List Nat) => ⟨28, ⟨#[]⟩, r, [], t.at_⟩)) StE.aside
    (fun p hp W' ha hp' => by
     obtain ⟨d', rfl, hd1, hd2, hr1, hr2⟩ := HSUB.out.sub p hp
     exact expr1_any (hr1 P T) hd1 (UnS.enter hE6 ha hp' hU6.env hU6.fit.down (by omega) (by omega) (by have := HSZ5.out; omega)) rfl (by omega) (hB6.aside ha) ⟨by omega, by omega⟩)
   have hDB : Dec d 0 (deeperM nx t.at_ fun p => condE [first] p.1) := Dec.deeper (fun p hp => condE_dec (HSUB.out.ok.expr p hp))
   have HDB := Lib.hid hDB
   obtain ⟨RB, hRB⟩ : ∃ RB, deeperM nx t.at_ (fun p => condE [first] p.1) (takeS s2) = RB := ⟨_, rfl⟩
   rw [hRB] at hDK
   have HRB := Lib.hid hRB
   have HDK := Lib.hid hDK
   have HU6 := Lib.hid hU6
   have HB6 := Lib.hid hB6
   have HE6 := Lib.hid hE6
   clear hs5 hO5 hB5 hE6 hU6 hB6 hW6 hz5 h4 hDK hDB hRB
   go_wp2_with fail
   go_at_call 100; rw [HW6.out]; refine HDK.out.mono ?_
   intro e w7 hk
   have hXf : ∀ k, k ∈ w5.heap.size :: (⟨⟨28, ⟨#[]⟩, [first], [], t.at_⟩, .slice (some ⟨w3.heap.size, 0, none⟩) 1 1, .slice none 0 0⟩ : ExM).foot → 4 ≤ k ∧ W.heap.size < k := fun k hk => by
    have hz := HSZ5.out
    rcases List.mem_cons.1 hk with rfl | hk
    ·omega
    ·have := (HE6.out.foot k hk).2.2.2.2; omega
   cases RB with
   | error bd =>
    obtain ⟨D, rfl, hk2⟩ := HU6.out.kbad (fun k hk => .inr (Nat.le_of_lt (hXf k hk).2)) hk
    refine ⟨rfl, ?_⟩
    rw [bind_err HRB.out HR3.out]
    exact Bad.p ⟨D, rfl, hk2⟩
   | ok y =>
    obtain ⟨l, s7⟩ := y
    have hk4 := HU6.out.kend (fun k hk => ⟨(hXf k hk).1, .inr (Nat.le_of_lt (hXf k hk).2)⟩) (HU6.out.fit.dec HDB.out (by decide) HRB.out) hk
    obtain ⟨rfl, m7, hU7, hx7, hl7, x7, he7, hE7⟩ := hk4
    have hend : R = addM ⟨28, ⟨#[]⟩, l, [], t.at_⟩ s7 := (bind_ok HRB.out HR3.out).symm
    have HEND := Lib.hid hend
    obtain ⟨⟨k0, t0, l0, kk0, a0⟩, av0, kv0⟩ := x7
    simp only [Ex.mk.injEq] at he7
    obtain ⟨rfl, rfl, rfl, rfl, rfl⟩ := he7
    have hB7 := HB6.out.kstep hx7 hl7 (fun hm => by have := (hXf _ hm).2; omega)
    have b7 := hB7.blk.cell 0
    have q0 := hE7.loc.blk.cell 0
    have q1 := hE7.loc.blk.cell 1
    have q2 := hE7.loc.blk.cell 2
    have q3 := hE7.loc.blk.cell 3
    have q4 := hE7.loc.blk.cell 4
    have HADD := Lib.hid (hU7.addE (hE7.mono (by omega)))
    clear hk hU7 hx7 hl7 hE7 hB7 hend hXf
    go_wp2_with fail
    go_at_call 105; refine HADD.out.mono ?_
    rintro e w9 ⟨rfl, m9, hp9, ho9, hl9⟩
    have hnv : natV s7.f.exprs.length = .int .i64 (s7.f.exprs.length : Int) := rfl
    rw [hnv]
    go_wp2_with fail
    go_ret
    rw [HEND.out]
    exact ⟨rfl, m9, hp9, ho9, hl9⟩
end
end Go.Proofs.YtljgggohjigaoaaGreatDoor
