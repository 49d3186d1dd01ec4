/- Arguments, one by one · What stands in an index · What the readers share: a new expression of new arguments, one level deeper · An index, and what each of the items has -/
import Derived.Deep.RegionWith
import Derived.Deep.RegionHeld
import Derived.Test.YtljgggohjigaoaaGreatDoorSk16
namespace Go.Proofs.YtljgggohjigaoaaGreatDoor
open Go.RowKit Go.Shelf
set_option linter.unusedVariables false

theorem toks_wts {l : List Tk} (h : ∀ t ∈ l, t.k ≠ 0) : l.length ≤ wts l := by
 induction l with
 | nil => simp
 | cons t l ih =>
  have h1 := wt_pos (h t (by simp))
  have h2 := ih (fun u hu => h u (by simp [hu]))
  unfold wts at h2 ⊢
  simp only [List.map_cons, List.sum_cons, List.length_cons]
  omega
theorem Un.room {W w : World} {P F T lo dp d : Nat} {m m1 : FileM} {X : List Nat} {s : Ps} (h : Un W w P F T lo dp d m X s m1) : s.toks.length ≤ 1000000001 := by
 obtain ⟨l', e, h1, h2, h3, h4⟩ := h.ps.good
 have h5 := toks_wts h4
 have h6 := h.fit.pot
 have h7 : wts s.toks = wts l' + wts [e] := by rw [h1, wts_append]
 unfold Go.Proofs.YtljgggohjigaoaaGreatDoor.pot at h6
 rw [h1]
 simp
 omega
theorem skip_true {w : ByteArray} {s s' : Ps} (h : skipM w s = .ok (true, s')) : s' = takeS s ∧ isW w (next s) = true := by
 unfold skipM at h
 split at h
 ·rename_i hi; cases h; exact ⟨rfl, hi⟩
 ·cases h
set_option maxRecDepth 100000 in
set_option maxHeartbeats 4000000 in
theorem args_any {W : World} {P F T lo dp d : Nat} {s : Ps} {m : FileM} {ex : PM Nat} (en : ByteArray) (hE : Rds P F T lo dp d 75 #[.pointer (some ⟨P, 0, none⟩)] ex) (hD : Dec d 0 ex) (h : PsAt W P F T lo dp s m) (he : Env W P F) (hf : Fit d s) :
  Calls Tryz.prog 171 #[.pointer (some ⟨P, 0, none⟩), .string en] W (ArgsEnd W P F T lo dp d m (argsM en ex (s.toks.length + 1) [] s)) := by
 obtain ⟨iI, hiI, hzI, hsI, hbI⟩ := info_of infoInt0
 have HEX := Lib.hid (And.intro hE hD)
 have HU0 := Lib.hid (Un.start (X := []) h he hf)
 have hroom := HU0.out.room
 have hbase := h.base.2
 obtain ⟨R, hR⟩ : ∃ R, argsM en ex (s.toks.length + 1) [] s = R := ⟨_, rfl⟩
 have HR := Lib.hid hR
 rw [hR]
 obtain ⟨n0, hn0⟩ : ∃ n0, s.toks.length = n0 := ⟨_, rfl⟩
 rw [hn0] at hroom
 have HN0 := Lib.hid hn0
 clear h he hf hE hD hR hn0
 go_enter Tryz.func171, Tryz.ntmps171
 go_wp2_with fail
 go_loopg [5] (n0 + 1) (fun gf s5 wx => ∃ (l : List Nat) (s' : Ps) (m' : FileM), Hid (Un W wx P F T lo dp d m [] s' m') ∧ Hid (OwnL wx P F T lo W.heap.size m' 3 1 s5 l.length (intsV l)) ∧ Hid (argsM en ex gf l s' = R) ∧ s'.toks.length < gf ∧ l.length + gf ≤ n0 + 1)
 case atStart => exact ⟨[], s, m, HU0, Lib.hid (OwnL.nil _ _ _ _ _ _ _ _ _), by rw [← HN0.out]; exact HR, by rw [HN0.out]; omega, by simp⟩
 case round =>
  obtain ⟨l, s', m', HU, HO, HRL, hlen, hll⟩ := hrel
  obtain ⟨g', rfl⟩ : ∃ g', gk = g' + 1 := ⟨gk - 1, by omega⟩
  obtain ⟨n, hn⟩ : ∃ n, l.length = n := ⟨_, rfl⟩
  have HN := Lib.hid hn
  rw [hn] at hll HO
  obtain ⟨ad, cap, rfl⟩ := slice_of HO.out.row
  clear hn HU0 HR
  obtain ⟨b, hb⟩ : ∃ b, isW en (next s') = b := ⟨_, rfl⟩
  have HIS := HU.out.is en
  rw [hb] at HIS
  have HIS := Lib.hid HIS
  go_wp2_with fail
  go_at_call 102; refine HIS.out.mono ?_
  rintro e w3 ⟨rfl, hs3⟩
  have H3 := Lib.hid hs3
  clear hs3
  cases b with
  | true =>
   have hend : R = .ok (l, peekS s') := by
    rw [← HRL.out]
    unfold argsM
    rw [if_pos hb]
   have HEND := Lib.hid hend
   clear hend hb
   go_wp2_with fail
   go_ret
   rw [HEND.out]
   exact ⟨_, m', rfl, H3.out.un, by rw [HN.out]; exact HO.out.step H3.out.outs H3.out.later⟩
  | false =>
   have HRL2 : Hid (bindP ex (fun i => bindP (skipM (wb [44])) fun c s' => if c then argsM en ex g' (l ++ [i]) s' else .ok (l ++ [i], s')) (peekS s') = R) := Lib.hid (by
    rw [← HRL.out]
    conv => rhs; unfold argsM
    rw [if_neg (by rw [hb]; decide)])
   have hrd := H3.out.un.reads HEX.out.1 HEX.out.2
   cases hm : ex (peekS s') with
   | error bd =>
    rw [hm] at hrd
    have HRD := Lib.hid hrd
    have HRE := Lib.hid (bind_err hm HRL2.out)
    clear hrd hm hb
    go_wp2_with fail
    go_at_call 75; refine HRD.out.mono ?_
    rintro e w4 ⟨D, rfl, hk⟩
    refine ⟨rfl, ?_⟩
    rw [HRE.out]
    exact ⟨D, rfl, hk⟩
   | ok y =>
    obtain ⟨i, s2⟩ := y
    rw [hm] at hrd
    have HRD := Lib.hid hrd
    have HR2 := Lib.hid (bind_ok hm HRL2.out)
    have hl2 : s2.toks.length ≤ s'.toks.length := by
     have h1 := (HEX.out.2 (peekS s') H3.out.un.fit.snd i s2 hm).1.length_le
     have h2 := (peek_sfx s').length_le
     omega
    clear hrd hm hb
    go_wp2_with fail
    go_at_call 75; refine HRD.out.mono ?_
    rintro e w4 ⟨rfl, m2, hs4⟩
    have H4 := Lib.hid hs4
    have HO4 := Lib.hid ((HO.out.step H3.out.outs H3.out.later).step hs4.outs hs4.later)
    have hnv : natV i = .int .i64 (i : Int) := rfl
    rw [hnv]
    have hrow := HO4.out.row.alloc (.cells #[.int .i64 (i : Int)] 3)
    have hblk := World.alloc_heap_new w4 (.cells #[.int .i64 (i : Int)] 3)
    have hlo4 : lo ≤ w4.heap.size := hs4.un.ps.base.2
    clear hs4 hnv
    go_wp2_with (at_builtin; refine wpList_append_lies _ rfl (.tmp 10) (.tmp 13) 26 rfl lo 3 iI (.int .i64 0) 1 8 Tryz.underlying26 hiI hzI hsI hbI rfl (by decide) _ _ _ rfl hrow ⟨w4.heap.size, 0, none⟩ 1 1 [.int .i64 (i : Int)] rfl rfl (World.news_of_block hblk) (by intro u hu; simp at hu; subst hu; rfl) (by decide) (by unfold maxLen; omega) (by omega) (by simp; omega) _ rfl ?_; intro g2 cap2 w5 hown5 hgrow5 hat5 hlt5)
    have hlc := grown_lc (Y := ownB (.slice ad n cap)) hgrow5 (fun g e => mem_ownB.2 e)
    have hun5 := H4.out.un.lc hlc (fun k hk => by
     have h1 := HO4.out.out k (mem_ownB.1 hk)
     have h2 := H4.out.un.env.far
     have h3 := H4.out.un.ps.base
     have h4 := row_lt HO4.out.row (mem_ownB.1 hk)
     exact ⟨h1.2.1, h1.2.2.1, h1.1, by omega, .inr h1.2.2.2⟩)
    have HO5 : Hid (OwnL w5 P F T lo W.heap.size m2 3 1 (.slice (some ⟨g2, 0, none⟩) (n + 1) cap2) (n + 1) (intsV (l ++ [i]))) := Lib.hid ⟨by
      have hin : intsV (l ++ [i]) = intsV l ++ [.int .i64 (i : Int)] := by simp [intsV]
      rw [hin]; exact hown5, fun g hg => by
      obtain rfl : g2 = g := Option.some.inj hg
      rcases hat5 with h1 | h1
      ·exact HO4.out.out g2 h1
      ·have h2 := H4.out.un.ps.tok.ranks
       have h3 := H4.out.un.outs.size
       simp at h1
       exact ⟨fun hm => by have := (H4.out.un.ps.file.lt _ hm).1; omega, by omega, by omega, by omega⟩⟩
    have HSK := hun5.skip (b := ⟨#[44]⟩) (by decide)
    have HU5 := Lib.hid hun5
    cases hm2 : skipM (⟨#[44]⟩ : ByteArray) s2 with
    | error bd =>
     exfalso
     unfold skipM at hm2
     split at hm2 <;> cases hm2
    | ok y =>
     obtain ⟨c, s3⟩ := y
     rw [hm2] at HSK
     have HSK := Lib.hid HSK
     have HR3 := Lib.hid (bind_ok hm2 HR2.out)
     have hlt3 : c = true → s3.toks.length < s2.toks.length := fun e => by
      subst e
      obtain ⟨rfl, hi⟩ := skip_true hm2
      exact take_lt (HU5.out.fit.kind (by decide) hi)
     clear hun5 hm2 hown5 hgrow5 hat5 hlc hrow hblk
     go_wp2_with fail
     go_at_call 74; refine HSK.out.mono ?_
     rintro e w6 ⟨rfl, m3, hs6⟩
     have H6 := Lib.hid hs6
     have HO6 := Lib.hid (HO5.out.step hs6.outs hs6.later)
     clear hs6
     cases c with
     | true =>
      have hlt3 := hlt3 rfl
      go_wp2_with fail
      go_roundg g'
      case measure => omega
      case rel => exact ⟨l ++ [i], s3, m3, Lib.hid H6.out.un, by simp only [List.length_append, List.length_cons, List.length_nil]; rw [HN.out]; exact HO6, Lib.hid (by have := HR3.out; simpa using this), by omega, by simp only [List.length_append, List.length_cons, List.length_nil]; rw [HN.out]; omega⟩
     | false =>
      have hend : R = .ok (l ++ [i], s3) := by rw [← HR3.out]; rfl
      have HEND := Lib.hid hend
      clear hend
      go_wp2_with fail
      go_ret
      rw [HEND.out]
      exact ⟨_, m3, rfl, H6.out.un, by simp only [List.length_append, List.length_cons, List.length_nil]; rw [HN.out]; exact HO6.out⟩
end Go.Proofs.YtljgggohjigaoaaGreatDoor
namespace Go.Proofs.YtljgggohjigaoaaGreatDoor
open Go.RowKit Go.Shelf
set_option linter.unusedVariables false
set_option linter.unusedSimpArgs false

def idxE (one : Nat) (ex : PM Nat) : PM (Bool × List Nat) := bindP (skipM (wb [42])) fun st => if st then fun s => .ok ((true, [one]), s) else bindP ex fun i s => .ok ((false, [one, i]), s)
set_option maxRecDepth 100000 in
set_option maxHeartbeats 4000000 in
theorem indexed1_any {W : World} {P F T lo dp d N E Bp one : Nat} {s : Ps} {m : FileM} {X : List Nat} {ex : PM Nat} {ad : Option Addr} {cap : Nat} (hE : Rds P F T lo dp d 75 #[.pointer (some ⟨P, 0, none⟩)] ex) (hD : Dec d 0 ex) (h : UnS W W P F T lo dp d m X s m N E ⟨⟨11, ⟨#[]⟩, [one], [], 0⟩, .slice ad 1 cap, .slice none 0 0⟩) (hB : Loc W P F T m Bp #[.pointer (some ⟨P, 0, none⟩)] 88) (hNB : Bp < N ∧ Bp ≠ E) :
  Calls Tryz.prog 164 #[.pointer (some ⟨Bp, 0, none⟩), .pointer (some ⟨E, 0, none⟩)] W (KEnd W P F T lo dp m X (StE P F T lo N E (fun (r : Bool × List Nat) => ⟨if r.1 then 30 else 11, ⟨#[]⟩, r.2, [], 0⟩)) (idxE one ex s) (fun _ => .tuple #[])) := by
 obtain ⟨iI, hiI, hzI, hsI, hbI⟩ := info_of infoInt0
 have HS := Lib.hid h
 have HB := Lib.hid hB
 have HNB := Lib.hid hNB
 have HEX := Lib.hid (And.intro hE hD)
 have HSK := h.un.skip (b := ⟨#[42]⟩) (by decide)
 have c0 := hB.blk.cell 0
 obtain ⟨R, hR⟩ : ∃ R, idxE one ex s = R := ⟨_, rfl⟩
 have HR : Hid (bindP (skipM ⟨#[42]⟩) (fun st => if st then fun s => .ok ((true, [one]), s) else bindP ex fun i s => .ok ((false, [one, i]), s)) s = R) := Lib.hid hR
 rw [hR]
 cases hm : skipM (⟨#[42]⟩ : ByteArray) s with
 | error bd =>
  exfalso
  unfold skipM at hm
  split at hm <;> cases hm
 | ok y =>
  obtain ⟨c, s2⟩ := y
  rw [hm] at HSK
  have HSK := Lib.hid HSK
  have HR2 := Lib.hid (bind_ok hm HR.out)
  clear h hB hE hD hm hR hNB
  go_enter Tryz.func164, Tryz.ntmps164
  go_wp2_with fail
  go_at_call 74; refine HSK.out.mono ?_
  rintro e w2 ⟨rfl, m2, hs2⟩
  have H2 := Lib.hid (HS.out.step hs2)
  have HB2 := Lib.hid (HB.out.step hs2.outs hs2.later)
  clear hs2
  cases c with
  | true =>
   have k0 := H2.out.ue.loc.blk.cell 0
   have f0 := H2.out.ue.loc.blk.frozen 0
   go_wp2_with fail
   go_end0
   have hend : R = .ok ((true, [one]), s2) := by rw [← HR2.out]; rfl
   rw [hend]
   exact (H2.out.setK 30).k rfl
  | false =>
   have HRa : Hid (bindP ex (fun i s => .ok ((false, [one, i]), s)) s2 = R) := HR2
   have HNa : Hid ([one].length = 1) := Lib.hid rfl
   have hdra := H2.out.below (Below.refl _ w2).drew
   have HDRa := Lib.hid hdra
   have HBDa := Lib.hid (HB2.out.lc (Lc.of (Below.refl _ w2).drew []) (by simp))
   have p0a := HB2.out.blk.cell 0
   have a2a := H2.out.ue.loc.blk.cell 2
   have hrda := hdra.un.reads HEX.out.1 HEX.out.2
   clear hdra
   cases hma : ex s2 with
   | error bd =>
    rw [hma] at hrda
    have HRDa := Lib.hid hrda
    have HREa := Lib.hid (bind_err hma HRa.out)
    clear hrda hma
    go_wp2_with fail
    refine wp_region_held_drew (S := fun w' => w'.cell? ⟨Bp, 0, none⟩ = some (.pointer (some ⟨P, 0, none⟩)) ∧ w'.cell? ⟨E, 2, none⟩ = some (.slice ad 1 cap)) (by kernel_rfl) ⟨p0a, a2a⟩ (fun hHeld => ?_)
    refine wpAnyH_take (i := 0) (oi := _) (v := ?qa_v0) rfl (by kernel_rfl) (by kernel_rfl) (by kernel_rfl) (fun _ _ _ h => h) (Or.inl ⟨by rfl, ?qa_y0⟩) (by assumption) ?qa_r0
    case qa_y0 => (intro w hSw; (try dsimp only at hSw); go_simp; (try with_reducible rfl))
    try simp only [Act.put, List.setIfInBounds_toArray, List.set_cons_zero, List.set_cons_succ]
    refine wpAnyH_take (i := 1) (oi := _) (v := ?qa_v1) rfl (by kernel_rfl) (by kernel_rfl) (by kernel_rfl) (fun _ _ _ h => h) (Or.inl ⟨by rfl, ?qa_y1⟩) (by assumption) ?qa_r1
    case qa_y1 => (intro w hSw; (try dsimp only at hSw); go_simp; (try with_reducible rfl))
    try simp only [Act.put, List.setIfInBounds_toArray, List.set_cons_zero, List.set_cons_succ]
    refine wpAnyH_take (i := 2) (oi := _) (v := ?qa_v2) rfl (by kernel_rfl) (by kernel_rfl) (by kernel_rfl) (fun _ _ _ h => h) (Or.inl ⟨by rfl, ?qa_y2⟩) (by assumption) ?qa_r2
    case qa_y2 => (intro w hSw; (try dsimp only at hSw); go_simp; (try with_reducible rfl))
    try simp only [Act.put, List.setIfInBounds_toArray, List.set_cons_zero, List.set_cons_succ]
    refine wpAnyH_ready (rs := [3]) (by kernel_rfl) (by simp) ?_
    refine AllReadyH.cons (o := _) rfl (fun K hK => ?_) AllReadyH.nil
    go_simp
    go_at_call 75; refine HRDa.out.mono ?_; rintro e w4 ⟨D, rfl, hk⟩
    refine ⟨rfl, ?_⟩
    rw [HREa.out]
    exact ⟨D, rfl, hk⟩
   | ok ya =>
    obtain ⟨ia, s3a⟩ := ya
    rw [hma] at hrda
    have HRDa := Lib.hid hrda
    have HRoa := Lib.hid (bind_ok hma HRa.out)
    have HEAa : Hid (E ∉ ownB (.slice ad 1 cap)) := Lib.hid (fun e => (H2.out.ue.foot E (List.mem_append.2 (.inl e))).2.2.2.1 rfl)
    clear hrda hma
    go_wp2_with fail
    refine have AFTERa : (∀ (w4 w5 : World) (g2 cap2 : Nat), (∃ m3, Stepped W w2.drew w4 P F T lo dp d m X m2 s3a m3 ∧ w5.ownsRow lo 3 1 (.slice (some ⟨g2, 0, none⟩) (1 + 1) cap2) (1 + 1) (intsV [one] ++ [.int .i64 (ia : Int)]) ∧ (w4.alloc (.cells #[.int .i64 (ia : Int)] 3)).grownBy w5 (Value.slice ad 1 cap).ownBlock ∧ ((Value.slice ad 1 cap).ownBlock = some g2 ∨ g2 = (w4.alloc (.cells #[.int .i64 (ia : Int)] 3)).heap.size)) → (?G : World → World → Nat → Nat → Prop) w4 w5 g2 cap2) := ?latera; ?maina
    case maina =>
     go_region_law (first
      | (go_simp; go_at_call 75; refine HRDa.out.mono ?_; rintro e w4 ⟨rfl, m3, hs4⟩; have hnv : natV ia = .int .i64 (ia : Int) := rfl; have H4 := Lib.hid (HDRa.out.step hs4); have hB4 := HBDa.out.step hs4.outs hs4.later; have a24 := H4.out.ue.loc.blk.cell 2; have a24a := (H4.out.ue.loc.blk.alloc (.cells #[.int .i64 (ia : Int)] 3)).cell 2; have hrow := H4.out.ue.ok.args.alloc (.cells #[.int .i64 (ia : Int)] 3); have hrow := (HNa.out ▸ hrow : (w4.alloc (.cells #[.int .i64 (ia : Int)] 3)).ownsRow lo 3 1 (.slice ad 1 cap) 1 (intsV [one])); have hblk := World.alloc_heap_new w4 (.cells #[.int .i64 (ia : Int)] 3); have hlo4 : lo ≤ w4.heap.size := hs4.un.ps.base.2)
      | (refine step_append_lies _ rfl (.tmp 6) (.tmp 9) 26 rfl lo 3 iI (.int .i64 0) 1 8 Tryz.underlying26 hiI hzI hsI hbI rfl (by decide) _ _ _ rfl hrow ⟨w4.heap.size, 0, none⟩ 1 1 [.int .i64 (ia : Int)] rfl rfl (World.news_of_block hblk) (by intro u hu; simp at hu; subst hu; rfl) (by decide) (by unfold maxLen; omega) (by omega) (by simp; omega) _ rfl ?_; intro g2 cap2 w5 hown hgrow hat hlt; have hE5 := H4.out.ue.loc.lc (grown_lc (Y := ownB (.slice ad 1 cap)) hgrow (fun g e => mem_ownB.2 e)) HEAa.out; have c52 := hE5.blk.cell 2; have f52 := hE5.blk.frozen 2))
     all_goals exact AFTERa w4 w5 g2 cap2 ⟨m3, hs4, hown, hgrow, hat⟩
    case latera =>
     rintro w4 w5 ga ca ⟨m3a, hs4, hown, hgrow, hat⟩
     have h4a := HDRa.out.step hs4
     have hpa := h4a.push (n := 1) HNa.out hown hgrow hat
     have HBa := Lib.hid ((HBDa.out.step hs4.outs hs4.later).lc hpa.2 (fun hk => by
      rcases List.mem_cons.1 hk with h1 | h1
      ·exact HNB.out.2 h1
      ·have := (h4a.ue.foot Bp (List.mem_append.2 (.inl h1))).2.2.2.2
       have := HNB.out.1
       omega))
     have HSa := Lib.hid hpa.1
     have HNao : Hid (([one] ++ [ia]).length = 1 + 1) := Lib.hid (by simp [HNa.out])
     clear hs4 hown hgrow hat hpa h4a p0a a2a
     obtain ⟨w6a, hw6a⟩ : ∃ w6, w5.setCell ⟨E, 2, none⟩ (.slice (some ⟨ga, 0, none⟩) (1 + 1) ca) = w6 := ⟨_, rfl⟩
     rw [hw6a] at HBa HSa ⊢
     clear hw6a
     go_wp2_with fail
     go_end0
     rw [← HRoa.out]
     exact HSa.out.k rfl
end Go.Proofs.YtljgggohjigaoaaGreatDoor
namespace Go.Proofs.YtljgggohjigaoaaGreatDoor
open Go.RowKit Go.Shelf
set_option linter.unusedVariables false

theorem Fit.like {d : Nat} {s s' : Ps} (h : Fit d s) (ht : s'.toks = s.toks) (hf : s'.f = s.f) : Fit d s' := ⟨by rw [ht]; exact h.snd, by rw [ht]; exact h.txt, by rw [ht]; exact h.pos, by have := h.pot; unfold Go.Proofs.YtljgggohjigaoaaGreatDoor.pot at this ⊢; rw [ht, hf]; exact this⟩
section
variable {W w w' : World} {P F T lo dp d N : Nat} {m m1 m2 : FileM} {X : List Nat} {s s2 : Ps}
theorem OwnL.mono {N' : Nat} {e : TypeId} {size n : Nat} {v : Value} {xs : List Value} (h : OwnL w P F T lo N m1 e size v n xs) (hN : N' ≤ N) : OwnL w P F T lo N' m1 e size v n xs := ⟨h.row, fun g hg => ⟨(h.out g hg).1, (h.out g hg).2.1, (h.out g hg).2.2.1, Nat.le_trans hN (h.out g hg).2.2.2⟩⟩
theorem UnE.mono {N' E : Nat} {x : ExM} (h : UnE w P F T lo N m1 E x) (hN : N' ≤ N) : UnE w P F T lo N' m1 E x := ⟨h.loc, h.ok, fun g hg => ⟨(h.foot g hg).1, (h.foot g hg).2.1, (h.foot g hg).2.2.1, (h.foot g hg).2.2.2.1, Nat.le_trans hN (h.foot g hg).2.2.2.2⟩, h.nodup⟩
theorem OwnL.lit (h : PsAt w P F T lo dp s m1) (hN : N ≤ w.heap.size) (l : List Nat) (hl : l.length ≤ 1000) : OwnL (w.alloc (.cells (intsV l).toArray 3)) P F T lo N m1 3 1 (.slice (some ⟨w.heap.size, 0, none⟩) l.length l.length) l.length (intsV l) := by
 have hil : (intsV l).length = l.length := by simp [intsV]
 have hrk := h.tok.ranks
 refine ⟨?_, fun g hg => ?_⟩
 ·have := World.ownsRow_lit (base := lo) (e := 3) (size := 1) w (intsV l).toArray l.length h.base.2 (by unfold maxLen; omega) (by simp [hil])
  simpa using this
 ·obtain rfl : w.heap.size = g := Option.some.inj hg
  exact ⟨fun hm => by have := (h.file.lt _ hm).1; omega, by omega, by omega, hN⟩
/-- A new expression whose arguments are a row of one's own. -/
theorem UnE.ofRow (h : PsAt w P F T lo dp s m1) (k : Int) (x : ByteArray) {l : List Nat} {av : Value} (hr : OwnL w P F T lo N m1 3 1 av l.length (intsV l)) (a : Nat) : UnE (w.alloc (.cells #[.int .i64 k, .string x, av, .slice none 0 0, .int .i64 (a : Int)] 38)) P F T lo N m1 w.heap.size ⟨⟨k, x, l, [], a⟩, av, .slice none 0 0⟩ :=
 ⟨Loc.new h _ _, ⟨hr.row.alloc _, World.ownsRow_nil _ _ _ _⟩, fun g hg => (by
  rcases List.mem_append.1 hg with h1 | h1
  ·have h2 := hr.out g (mem_ownB.1 h1)
   have h3 := row_lt hr.row (mem_ownB.1 h1)
   exact ⟨h2.1, h2.2.1, h2.2.2.1, by omega, h2.2.2.2⟩
  ·cases h1), by unfold ExM.foot; simpa [ownB, Value.ownBlock] using ownB_nodup av⟩
theorem Loc.alloc {B : Nat} {cs : Array Value} {ty : TypeId} (h : Loc w P F T m1 B cs ty) (o : Obj) : Loc (w.alloc o) P F T m1 B cs ty := h.lc (Lc.alloc w o []) (by simp)
theorem OwnL.alloc {e : TypeId} {size n : Nat} {v : Value} {xs : List Value} (h : OwnL w P F T lo N m1 e size v n xs) (o : Obj) : OwnL (w.alloc o) P F T lo N m1 e size v n xs := h.lc (Lc.alloc w o []) (by simp)
/-- A closure begins with the expression that it holds. -/
theorem UnS.enter {d' dp' E : Nat} {x : ExM} {s' : Ps} (hu : UnE w P F T lo N m E x) (ha : Aside P w w') (hp : PsAt w' P F T lo dp' s' m) (he : Env w P F) (hf : Fit d' s') (hE4 : 4 ≤ E) (hN4 : 4 ≤ N) (hN : N ≤ w.heap.size) : UnS w' w' P F T lo dp' d' m (E :: x.foot) s' m N E x :=
 ⟨Un.start hp (he.aside ha) hf, hu.aside ha, fun k hk => by
  rcases hk with rfl | hk
  ·exact ⟨hE4, .inl List.mem_cons_self⟩
  ·exact ⟨Nat.le_trans hN4 (hu.foot k hk).2.2.2.2, .inl (List.mem_cons_of_mem _ hk)⟩, Nat.le_trans hN ha.size⟩
theorem Loc.aside {B : Nat} {cs : Array Value} {ty : TypeId} (h : Loc w P F T m1 B cs ty) (ha : Aside P w w') : Loc w' P F T m1 B cs ty := h.step (Outs.aside ha) (Later.refl _ _ _)
end
end Go.Proofs.YtljgggohjigaoaaGreatDoor
namespace Go.Proofs.YtljgggohjigaoaaGreatDoor
open Go.RowKit Go.Shelf
set_option linter.unusedVariables false

section
variable {P F T lo dp d : Nat} {nx : Sub}
theorem idxE_dec {d' one : Nat} {ex : PM Nat} (hD : Dec d' 0 ex) : Dec d' 0 (idxE one ex) := by
 refine (Dec.bind (e := 0) Dec.skip fun st => ?_).mono (by omega)
 cases st with
 | true => exact Dec.pure
 | false => exact (Dec.bind (e := 0) hD fun i => Dec.pure).mono (by omega)
set_option maxRecDepth 100000 in
set_option maxHeartbeats 4000000 in
theorem indexed_any (hs : Subs F lo dp d nx) (one : Nat) : Rds P F T lo dp d 150 #[.pointer (some ⟨P, 0, none⟩), .int .i64 (one : Int)] (indexedM nx one) := by
 intro W s m h he hf
 have hB1 := Loc.new h #[.pointer (some ⟨P, 0, none⟩)] 88
 have hU1 := (Un.start (X := []) h he hf).alloc (.cells #[.pointer (some ⟨P, 0, none⟩)] 88)
 obtain ⟨W1, hW1⟩ : ∃ W1, W.alloc (.cells #[.pointer (some ⟨P, 0, none⟩)] 88) = W1 := ⟨_, rfl⟩
 have hs1 : W1.heap.size = W.heap.size + 1 := by rw [← hW1]; simp
 rw [hW1] at hB1 hU1
 have hO2 := OwnL.lit (N := W.heap.size + 1) hU1.ps (by omega) [one] (by simp)
 have hU2 := hU1.alloc (.cells #[.int .i64 (one : Int)] 3)
 have hB2 := hB1.alloc (.cells #[.int .i64 (one : Int)] 3)
 obtain ⟨W2, hW2⟩ : ∃ W2, W1.alloc (.cells #[.int .i64 (one : Int)] 3) = W2 := ⟨_, rfl⟩
 have hs2 : W2.heap.size = W1.heap.size + 1 := by rw [← hW2]; simp
 have hO2 : OwnL W2 P F T lo (W.heap.size + 1) m 3 1 (.slice (some ⟨W1.heap.size, 0, none⟩) 1 1) [one].length (intsV [one]) := by rw [← hW2]; exact hO2
 rw [hW2] at hU2 hB2
 have hE3 := UnE.ofRow hU2.ps 11 ⟨#[]⟩ hO2 0
 have hU3 := hU2.alloc (.cells #[.int .i64 11, .string ⟨#[]⟩, .slice (some ⟨W1.heap.size, 0, none⟩) 1 1, .slice none 0 0, .int .i64 0] 38)
 have hB3 := hB2.alloc (.cells #[.int .i64 11, .string ⟨#[]⟩, .slice (some ⟨W1.heap.size, 0, none⟩) 1 1, .slice none 0 0, .int .i64 0] 38)
 have b3a := hB3.blk.cell 0
 obtain ⟨W3, hW3⟩ : ∃ W3, W2.alloc (.cells #[.int .i64 11, .string ⟨#[]⟩, .slice (some ⟨W1.heap.size, 0, none⟩) 1 1, .slice none 0 0, .int .i64 0] 38) = W3 := ⟨_, rfl⟩
 have hE3 : UnE W3 P F T lo (W.heap.size + 1) m W2.heap.size ⟨⟨11, ⟨#[]⟩, [one], [], 0⟩, .slice (some ⟨W1.heap.size, 0, none⟩) 1 1, .slice none 0 0⟩ := by rw [← hW3]; exact hE3
 have hs3 : W3.heap.size = W2.heap.size + 1 := by rw [← hW3]; simp
 rw [hW3] at hU3 hB3
 have h4W := he.ready.1
 have hGR := grouped_any (α := Bool × List Nat) hU3.ps hs.left (b := ⟨#[91]⟩) (en := ⟨#[93]⟩) (by decide) (by decide) (enters_of Tryz.func164 (by kernel_rfl) rfl) (lbr := #[.pointer (some ⟨W.heap.size, 0, none⟩), .pointer (some ⟨W2.heap.size, 0, none⟩)]) (X := W2.heap.size :: (⟨⟨11, ⟨#[]⟩, [one], [], 0⟩, .slice (some ⟨W1.heap.size, 0, none⟩) 1 1, .slice none 0 0⟩ : ExM).foot) (by
   intro k hk
   rcases List.mem_cons.1 hk with rfl | hk
   ·omega
   ·exact (hE3.ok.lt k hk).2) (f := fun p => idxE one p.1) (St := StE P F T lo (W.heap.size + 1) W2.heap.size (fun (r : Bool × List Nat) => ⟨if r.1 then 30 else 11, ⟨#[]⟩, r.2, [], 0⟩)) StE.aside
  (fun p hp W' s' ha hp' ho ht hff => by
   obtain ⟨d', rfl, hd1, hd2, hr1, hr2⟩ := hs.sub p hp
   exact indexed1_any (hr1 P T) hd1 (UnS.enter hE3 ha hp' hU3.env (hf.take.down.like ht hff) (by omega) (by omega) (by omega)) (hB3.aside ha) ⟨by omega, by omega⟩)
 obtain ⟨R, hR⟩ : ∃ R, indexedM nx one s = R := ⟨_, rfl⟩
 have HR : Hid (bindP (betweenM ⟨#[91]⟩ ⟨#[93]⟩ true nx fun p => idxE one p.1) (fun r => if r.1.1 then bindP (wantM ⟨#[46]⟩) fun _ => bindP (kindM 1) fun t => addM ⟨30, t.x, r.1.2, [], r.2⟩ else addM ⟨11, ⟨#[]⟩, r.1.2, [], r.2⟩) s = R) := Lib.hid hR
 have hDB : Dec d 1 (betweenM ⟨#[91]⟩ ⟨#[93]⟩ true nx fun p => idxE one p.1) := Dec.between (by decide) (fun p hp => idxE_dec (hs.ok.expr p hp))
 rw [hR]
 obtain ⟨RB, hRB⟩ : ∃ RB, betweenM ⟨#[91]⟩ ⟨#[93]⟩ true nx (fun p => idxE one p.1) s = RB := ⟨_, rfl⟩
 rw [hRB] at hGR
 have HGR := Lib.hid hGR
 have HW3 := Lib.hid hW3
 have HRB := Lib.hid hRB
 have HU3 := Lib.hid hU3
 have HB3 := Lib.hid hB3
 have HE3 := Lib.hid hE3
 have HDB := Lib.hid hDB
 have HSZ := Lib.hid (And.intro hs1 (And.intro hs2 (And.intro hs3 h4W)))
 have b1 := hB1.blk.cell 0
 have b2 := hB2.blk.cell 0
 have b3 := hB3.blk.cell 0
 have hmf : ∀ (fn : Fn) (first cap : Array Value) (w : World), (Instr.makeFunc fn first cap).run Tryz.prog w = .ok (.func fn first cap) w := fun _ _ _ _ => rfl
 clear hW3 h he hf hs hR hGR hRB hU1 hU2 hU3 hB1 hB2 hB3 hO2 hE3 hDB hs1 hs2 hs3 h4W
 go_enter Tryz.func150, Tryz.ntmps150
 go_wp2_with fail
 go_at_call 160; rw [HW3.out]; refine HGR.out.mono ?_
 intro e w4 hk
 cases RB with
 | error bd =>
  obtain ⟨D, rfl, hk2⟩ := HU3.out.kbad (fun k hk => .inr (by
   have hz := HSZ.out
   rcases List.mem_cons.1 hk with rfl | hk
   ·omega
   ·have := (HE3.out.foot k hk).2.2.2.2; omega)) hk
  refine ⟨rfl, ?_⟩
  rw [bind_err HRB.out HR.out]
  exact Bad.p ⟨D, rfl, hk2⟩
 | ok y =>
  obtain ⟨⟨r, at_⟩, s4⟩ := y
  have hk4 := HU3.out.kend (fun k hk => (by
   have hz := HSZ.out
   rcases List.mem_cons.1 hk with rfl | hk
   ·exact ⟨by omega, .inr (by omega)⟩
   ·have := (HE3.out.foot k hk).2.2.2.2; exact ⟨by omega, .inr (by omega)⟩)) (HU3.out.fit.dec HDB.out (by decide) HRB.out) hk
  obtain ⟨rfl, m4, hU4, hx4, hl4, x4, he4, hE4⟩ := hk4
  have hR4 := bind_ok HRB.out HR.out
  obtain ⟨c, la⟩ := r
  simp only at hR4 he4
  obtain ⟨⟨k0, t0, l0, kk0, a0⟩, av0, kv0⟩ := x4
  simp only [Ex.mk.injEq] at he4
  obtain ⟨rfl, rfl, rfl, rfl, rfl⟩ := he4
  have hz := HSZ.out
  have hB4 := HB3.out.kstep hx4 hl4 (fun hm => by
   rcases List.mem_cons.1 hm with h1 | h1
   ·omega
   ·have := (HE3.out.foot _ h1).2.2.2.2; omega)
  have HB4 := Lib.hid hB4
  have hU5 := hU4.set (B := W2.heap.size) ⟨hE4.loc.neP, hE4.loc.neT, hE4.loc.out, by omega, .inr (by omega)⟩ 4 (.int .i64 (at_ : Int))
  have hE5 := hE4.setAt at_
  have hB5 := hB4.lc (Lc.set w4 W2.heap.size 4 (.int .i64 (at_ : Int)) (Y := [W2.heap.size]) (by simp)) (by simp; omega)
  have c4 := hE4.loc.blk.cell 4
  have f4 := hE4.loc.blk.frozen 4
  obtain ⟨W5, hW5⟩ : ∃ W5, w4.setCell ⟨W2.heap.size, 4, none⟩ (.int .i64 (at_ : Int)) = W5 := ⟨_, rfl⟩
  rw [hW5] at hU5 hE5 hB5
  have b5 := hB5.blk.cell 0
  have q0 := hE5.loc.blk.cell 0
  have q1 := hE5.loc.blk.cell 1
  have q2 := hE5.loc.blk.cell 2
  have q3 := hE5.loc.blk.cell 3
  have q4 := hE5.loc.blk.cell 4
  have HU5 := Lib.hid hU5
  have HE5 := Lib.hid hE5
  have HB5 := Lib.hid hB5
  have HR4 := Lib.hid hR4
  clear hU4 hx4 hl4 hE4 hB4 hU5 hE5 hB5 hR4 hk
  cases c with
  | false =>
   have HADD := Lib.hid (HU5.out.addE (HE5.out.mono (by omega)))
   have hend : R = addM ⟨11, ⟨#[]⟩, l0, [], at_⟩ s4 := by rw [← HR4.out]; rfl
   have HEND := Lib.hid hend
   clear hend hz
   go_wp2_with fail
   go_at_call 105; refine HADD.out.mono ?_
   rintro e w6 ⟨rfl, m6, hp6, ho6, hl6⟩
   have hnv : natV s4.f.exprs.length = .int .i64 (s4.f.exprs.length : Int) := rfl
   rw [hnv]
   go_wp2_with fail
   go_ret
   rw [HEND.out]
   exact ⟨rfl, m6, hp6, ho6, hl6⟩
  | true =>
   have HRT : Hid (bindP (wantM ⟨#[46]⟩) (fun _ => bindP (kindM 1) fun t => addM ⟨30, t.x, l0, [], at_⟩) s4 = R) := HR4
   have HWT := HU5.out.want (b := ⟨#[46]⟩) (by decide)
   cases hm6 : wantM (⟨#[46]⟩ : ByteArray) s4 with
   | error bd =>
    rw [hm6] at HWT
    have HWT := Lib.hid HWT
    have HRE := Lib.hid (bind_err hm6 HRT.out)
    clear hm6 hz
    go_wp2_with fail
    go_at_call 99; refine HWT.out.mono ?_
    rintro e w6 ⟨D, rfl, hk⟩
    refine ⟨rfl, ?_⟩
    rw [HRE.out]
    exact Bad.p ⟨D, rfl, hk⟩
   | ok y6 =>
    obtain ⟨t6, s6⟩ := y6
    rw [hm6] at HWT
    have HWT := Lib.hid HWT
    have HRT2 := Lib.hid (bind_ok hm6 HRT.out)
    clear hm6 hz
    go_wp2_with fail
    go_at_call 99; refine HWT.out.mono ?_
    rintro e w6 ⟨rfl, m6, hs6⟩
    have HU6 := Lib.hid hs6.un
    have HE6 := Lib.hid (HE5.out.step hs6.outs hs6.later)
    have HB6 := Lib.hid (HB5.out.step hs6.outs hs6.later)
    have b6 := HB6.out.blk.cell 0
    have HKD := hs6.un.kind (k := 1) (by decide)
    clear hs6
    cases hm7 : kindM 1 s6 with
    | error bd =>
     rw [hm7] at HKD
     have HKD := Lib.hid HKD
     have HRE := Lib.hid (bind_err hm7 HRT2.out)
     clear hm7
     go_wp2_with fail
     go_at_call 35; refine HKD.out.mono ?_
     rintro e w7 ⟨D, rfl, hk⟩
     refine ⟨rfl, ?_⟩
     rw [HRE.out]
     exact Bad.p ⟨D, rfl, hk⟩
    | ok y7 =>
     obtain ⟨t7, s7⟩ := y7
     rw [hm7] at HKD
     have HKD := Lib.hid HKD
     have hend : R = addM ⟨30, t7.x, l0, [], at_⟩ s7 := (bind_ok hm7 HRT2.out).symm
     have HEND := Lib.hid hend
     have hfl2 : ∀ w : World, (Instr.field 75 (tkV t7) 1).run Tryz.prog w = .ok (.string t7.x) w := fun _ => rfl
     clear hm7 hend
     go_wp2_with fail
     go_at_call 35; refine HKD.out.mono ?_
     rintro e w7 ⟨rfl, m7, hs7⟩
     have hE7 := HE6.out.step hs7.outs hs7.later
     have hB7 := HB6.out.step hs7.outs hs7.later
     have hz := HSZ.out
     have hU8 := hs7.un.set (B := W2.heap.size) ⟨hE7.loc.neP, hE7.loc.neT, hE7.loc.out, by omega, .inr (by omega)⟩ 1 (.string t7.x)
     have hE8 := hE7.setX t7.x
     have hB8 := hB7.lc (Lc.set w7 W2.heap.size 1 (.string t7.x) (Y := [W2.heap.size]) (by simp)) (by simp; omega)
     have c1 := hE7.loc.blk.cell 1
     have f1 := hE7.loc.blk.frozen 1
     have r0 := hE8.loc.blk.cell 0
     have r1 := hE8.loc.blk.cell 1
     have r2 := hE8.loc.blk.cell 2
     have r3 := hE8.loc.blk.cell 3
     have r4 := hE8.loc.blk.cell 4
     have b8 := hB8.blk.cell 0
     have HADD := Lib.hid (hU8.addE (hE8.mono (by omega)))
     clear hs7 hE7 hB7 hU8 hE8 hB8 hz
     go_wp2_with fail
     go_at_call 105; refine HADD.out.mono ?_
     rintro e w9 ⟨rfl, m9, hp9, ho9, hl9⟩
     have hnv : natV s7.f.exprs.length = .int .i64 (s7.f.exprs.length : Int) := rfl
     rw [hnv]
     go_wp2_with fail
     go_ret
     rw [HEND.out]
     exact ⟨rfl, m9, hp9, ho9, hl9⟩
end
end Go.Proofs.YtljgggohjigaoaaGreatDoor
