/- A block, from behind its type on -/
import Derived.Deep.RegionWith
import Derived.Deep.RegionHeld
import Derived.Test.YtljgggohjigaoaaGreatDoorSk30
namespace Go.Proofs.YtljgggohjigaoaaGreatDoor
open Go.RowKit Go.Shelf
set_option linter.unusedVariables false
set_option linter.unusedSimpArgs false

theorem infoB0 : (Tryz.prog.info? 41).map (fun i => (i.zero.map (·.cells.size), i.size, i.bytes)) = some (some 5, 5, 96) := by kernel_rfl
theorem infoB : ∃ (i : TypeInfo) (z : Value), Tryz.prog.info? 41 = some i ∧ i.zero = some z ∧ z.cells.size = 5 ∧ i.size = 5 ∧ i.bytes = 96 := by
 have h := infoB0
 cases hi : Tryz.prog.info? 41 with
 | none => rw [hi] at h; cases h
 | some i =>
  rw [hi] at h
  simp only [Option.map_some, Option.some.injEq, Prod.mk.injEq] at h
  obtain ⟨h1, h2, h3⟩ := h
  cases hz : i.zero with
  | none => rw [hz] at h1; cases h1
  | some z => rw [hz] at h1; exact ⟨i, z, rfl, hz, by simpa using h1, h2, h3⟩
set_option maxRecDepth 100000 in
set_option maxHeartbeats 8000000 in
theorem block_one {P F T lo dp d : Nat} (hdp : dp + d = 24) (ih : ∀ d', d = d' + 1 → ∀ t, Rds P F T lo (dp + 1) d' 34 #[.pointer (some ⟨P, 0, none⟩), tkV t] (blockM d' t)) (tk : Tk) : Rds P F T lo dp d 34 #[.pointer (some ⟨P, 0, none⟩), tkV tk] (blockM d tk) := by
 intro W s m h he hf
 obtain ⟨iS, hiS, hzS, hsS, hbS⟩ := info_of infoStr0
 obtain ⟨iB, zB, hiB, hzB, hzB5, hsB, hbB⟩ := infoB
 rw [block_eq]
 obtain ⟨R, hR⟩ : ∃ R, bindP (labelsM (s.toks.length + 1) []) (restB d tk) s = R := ⟨_, rfl⟩
 rw [hR]
 have HR := Lib.hid hR
 have HIH := Lib.hid ih
 have HDP := Lib.hid hdp
 have HSUB := Lib.hid (subs_all (F := F) (lo := lo) d dp hdp)
 have h4W := he.ready.1
 have hB1 := Loc.new h #[.pointer (some ⟨P, 0, none⟩)] 88
 have hU1 := (Un.start (X := []) h he hf).alloc (.cells #[.pointer (some ⟨P, 0, none⟩)] 88)
 have hroom := hU1.room
 obtain ⟨W1, hW1⟩ : ∃ W1, W.alloc (.cells #[.pointer (some ⟨P, 0, none⟩)] 88) = W1 := ⟨_, rfl⟩
 have hs1 : W1.heap.size = W.heap.size + 1 := by rw [← hW1]; simp
 rw [hW1] at hB1 hU1
 have hT2 := Loc.new hU1.ps #[.int .i64 tk.k, .string tk.x, .int .i64 (tk.at_ : Int)] 75
 have hU2 := hU1.alloc (.cells #[.int .i64 tk.k, .string tk.x, .int .i64 (tk.at_ : Int)] 75)
 have hB2 := hB1.alloc (.cells #[.int .i64 tk.k, .string tk.x, .int .i64 (tk.at_ : Int)] 75)
 obtain ⟨W2, hW2⟩ : ∃ W2, W1.alloc (.cells #[.int .i64 tk.k, .string tk.x, .int .i64 (tk.at_ : Int)] 75) = W2 := ⟨_, rfl⟩
 have hs2 : W2.heap.size = W1.heap.size + 1 := by rw [← hW2]; simp
 rw [hW2] at hT2 hU2 hB2
 have t1 := hT2.blk.cell 1
 have t2 := hT2.blk.cell 2
 have hub3 := UnB.new (N := W.heap.size + 1) hU2.ps tk.x tk.at_
 have hU3 := hU2.alloc (.cells #[.string tk.x, .slice none 0 0, .slice none 0 0, .slice none 0 0, .int .i64 (tk.at_ : Int)] 41)
 have hB3 := hB2.alloc (.cells #[.string tk.x, .slice none 0 0, .slice none 0 0, .slice none 0 0, .int .i64 (tk.at_ : Int)] 41)
 have hK3 : UnK W (W2.alloc (.cells #[.string tk.x, .slice none 0 0, .slice none 0 0, .slice none 0 0, .int .i64 (tk.at_ : Int)] 41)) P F T lo dp d m s m W2.heap.size (⟨⟨tk.x, [], [], [], tk.at_⟩, .slice none 0 0, .slice none 0 0, .slice none 0 0⟩ : BlM) := ⟨hU3, hub3, hB3, by omega, h4W, by simp; omega⟩
 have HK3 := Lib.hid hK3
 obtain ⟨K, hK⟩ : ∃ K, s.toks.length + 1 = K := ⟨_, rfl⟩
 have HKK := Lib.hid hK
 rw [hK] at HR
 have hKb : K ≤ 1000000002 := by omega
 clear h he hf ih hdp hR hB1 hU1 hT2 hU2 hB2 hub3 hU3 hB3 hK3 hK hroom hs1 hs2
 go_enter Tryz.func34, Tryz.ntmps34
 go_wp2_with fail
 go_loopg [] K (fun gf wx => ∃ (labels : List ByteArray) (s' : Ps) (m' : FileM) (ad : Option Addr) (n cap : Nat), Hid (UnK W wx P F T lo dp d m s' m' W2.heap.size (⟨⟨tk.x, labels, [], [], tk.at_⟩, .slice ad n cap, .slice none 0 0, .slice none 0 0⟩ : BlM)) ∧ Hid (bindP (labelsM gf labels) (restB d tk) s' = R) ∧ Hid (labels.length = n) ∧ s'.toks.length < gf ∧ n + gf ≤ K)
 case atStart => exact ⟨[], s, m, none, 0, 0, HK3, HR, Lib.hid rfl, by have := HKK.out; omega, by omega⟩
 case round =>
  obtain ⟨labels, s', m', ad, n, cap, HKr, HRr, HNr, hlen, hnk⟩ := hrel
  clear HK3 HR
  obtain ⟨g', rfl⟩ : ∃ g', gk = g' + 1 := ⟨gk - 1, by omega⟩
  obtain ⟨t, ht⟩ : ∃ t, next s' = t := ⟨_, rfl⟩
  have HT := Lib.hid ht
  have hPK := HKr.out.un.peek
  rw [ht] at hPK
  have HPK := Lib.hid hPK
  have p0r := HKr.out.bp.blk.cell 0
  have hfl : ∀ w : World, (Instr.field 75 (tkV t) 0).run Tryz.prog w = .ok (.int .i64 t.k) w := fun _ => rfl
  clear hPK ht
  go_wp2_with fail
  go_at_call 52; refine HPK.out.mono ?_
  rintro e w2 ⟨rfl, hs2'⟩
  have HK2 := Lib.hid (HKr.out.step hs2')
  clear hs2'
  by_cases hk3 : t.k = 3
  ·skip
   have e1 : (t.k == 3) = true := by rw [hk3]; rfl
   have HRa : Hid (bindP plainM (fun t => bindP (labelsM g' (labels ++ [t])) (restB d tk)) (peekS s') = R) := Lib.hid (by rw [← HRr.out, lab_yes (by rw [HT.out]; exact hk3)])
   have hdr := HK2.out.below (Below.refl _ w2).drew
   have HDR := Lib.hid hdr
   have p0a := HK2.out.bp.blk.cell 0
   have b1a := HK2.out.ub.loc.blk.cell 1
   have hn3 : (next (peekS s')).k = 3 := by rw [next_peek, HT.out]; exact hk3
   have hrd := hdr.un.plain hn3
   have HL3 := Lib.hid hn3
   clear hdr hk3 hn3
   cases hm : plainM (peekS s') with
   | error bd =>
    rw [hm] at hrd
    have HRD := Lib.hid hrd
    have HRE := Lib.hid (bind_err hm HRa.out)
    clear hrd hm
    go_wp2_with fail
    refine wp_region_held_drew (S := fun w' => w'.cell? ⟨W.heap.size, 0, none⟩ = some (.pointer (some ⟨P, 0, none⟩)) ∧ w'.cell? ⟨W2.heap.size, 1, none⟩ = some (.slice ad n cap)) (by kernel_rfl) ⟨p0a, b1a⟩ (fun hHeld => ?_)
    refine wpAnyH_take (i := 0) (oi := _) (v := ?q_v0) rfl (by kernel_rfl) (by kernel_rfl) (by kernel_rfl) (fun _ _ _ h => h) (Or.inl ⟨by rfl, ?q_y0⟩) (by assumption) ?q_r0
    case q_y0 => (intro w hSw; (try dsimp only at hSw); go_simp; (try with_reducible rfl))
    try simp only [Act.put, List.setIfInBounds_toArray, List.set_cons_zero, List.set_cons_succ]
    refine wpAnyH_take (i := 1) (oi := _) (v := ?q_v1) rfl (by kernel_rfl) (by kernel_rfl) (by kernel_rfl) (fun _ _ _ h => h) (Or.inl ⟨by rfl, ?q_y1⟩) (by assumption) ?q_r1
    case q_y1 => (intro w hSw; (try dsimp only at hSw); go_simp; (try with_reducible rfl))
    try simp only [Act.put, List.setIfInBounds_toArray, List.set_cons_zero, List.set_cons_succ]
    refine wpAnyH_take (i := 2) (oi := _) (v := ?q_v2) rfl (by kernel_rfl) (by kernel_rfl) (by kernel_rfl) (fun _ _ _ h => h) (Or.inl ⟨by rfl, ?q_y2⟩) (by assumption) ?q_r2
    case q_y2 => (intro w hSw; (try dsimp only at hSw); go_simp; (try with_reducible rfl))
    try simp only [Act.put, List.setIfInBounds_toArray, List.set_cons_zero, List.set_cons_succ]
    refine wpAnyH_ready (rs := [3]) (by kernel_rfl) (by simp) ?_
    refine AllReadyH.cons (o := _) rfl (fun K hK => ?_) AllReadyH.nil
    go_simp
    go_at_call 54; refine HRD.out.mono ?_; rintro e w4 ⟨D, rfl, hk⟩
    refine ⟨rfl, ?_⟩
    rw [HRE.out]
    exact Bad.p ⟨D, rfl, hk⟩
   | ok y =>
    obtain ⟨i, s3⟩ := y
    rw [hm] at hrd
    have HRD := Lib.hid hrd
    have HRo := Lib.hid (bind_ok hm HRa.out)
    have hl3 : s3.toks.length < (peekS s').toks.length := plain_lt (by rw [HL3.out]; decide) hm
    have hlp := (peek_sfx s').length_le
    have HEB : Hid (W2.heap.size ∉ ownB (.slice ad n cap)) := Lib.hid (fun e => (HK2.out.ub.foot W2.heap.size (List.mem_append.2 (.inl e))).2.2.2.1 rfl)
    clear hrd hm
    go_wp2_with fail
    refine have AFTER : (∀ (w4 w5 : World) (g2 cap2 : Nat), (∃ m3, UnK W w4 P F T lo dp d m s3 m3 W2.heap.size (⟨⟨tk.x, labels, [], [], tk.at_⟩, .slice ad n cap, .slice none 0 0, .slice none 0 0⟩ : BlM) ∧ w5.ownsRow lo 9 1 (.slice (some ⟨g2, 0, none⟩) (n + 1) cap2) (n + 1) (labels.map Value.string ++ [.string i]) ∧ (w4.alloc (.cells #[.string i] 9)).grownBy w5 (Value.slice ad n cap).ownBlock ∧ ((Value.slice ad n cap).ownBlock = some g2 ∨ g2 = (w4.alloc (.cells #[.string i] 9)).heap.size)) → (?G3 : World → World → Nat → Nat → Prop) w4 w5 g2 cap2) := ?later3; ?main3
    case main3 =>
     go_region_law (first
      | (go_simp; go_at_call 54; refine HRD.out.mono ?_; rintro e w4 ⟨rfl, m3, hs4⟩; have H4 := Lib.hid (HDR.out.step hs4); have b14 := H4.out.ub.loc.blk.cell 1; have b14a := (H4.out.ub.loc.blk.alloc (.cells #[.string i] 9)).cell 1; have hrow := (HNr.out ▸ H4.out.ub.ok.labels : w4.ownsRow lo 9 1 (.slice ad n cap) n (labels.map Value.string)).alloc (.cells #[.string i] 9); have hblk := World.alloc_heap_new w4 (.cells #[.string i] 9); have hlo4 : lo ≤ w4.heap.size := hs4.un.ps.base.2)
      | (refine step_append_lies _ rfl (.tmp 16) (.tmp 19) 36 rfl lo 9 iS (.string ⟨#[]⟩) 1 16 Tryz.underlying36 hiS hzS hsS hbS rfl (by decide) _ _ _ rfl hrow ⟨w4.heap.size, 0, none⟩ 1 1 [.string i] rfl rfl (World.news_of_block hblk) (by intro u hu; simp at hu; subst hu; rfl) (by decide) (by unfold maxLen; omega) (by omega) (by simp; omega) _ rfl ?_; intro g2 cap2 w5 hown hgrow hat hlt; have hB5 := H4.out.ub.loc.lc (grown_lc (Y := ownB (.slice ad n cap)) hgrow (fun g e => mem_ownB.2 e)) HEB.out; have c51 := hB5.blk.cell 1; have f51 := hB5.blk.frozen 1))
     all_goals exact AFTER w4 w5 g2 cap2 ⟨m3, H4.out, hown, hgrow, hat⟩
    case later3 =>
     rintro w4 w5 ga ca ⟨m3, h4, hown, hgrow, hat⟩
     have HS := Lib.hid (h4.pushL (t := i) HNr.out hown hgrow hat)
     have HNo : Hid ((labels ++ [i]).length = n + 1) := Lib.hid (by rw [List.length_append, HNr.out]; rfl)
     clear h4 hown hgrow hat p0a b1a
     obtain ⟨w6, hw6⟩ : ∃ w6, w5.setCell ⟨W2.heap.size, 1, none⟩ (.slice (some ⟨ga, 0, none⟩) (n + 1) ca) = w6 := ⟨_, rfl⟩
     rw [hw6] at HS ⊢
     clear hw6
     obtain ⟨k, hk⟩ : ∃ q, n + 1 = q := ⟨_, rfl⟩
     rw [hk] at HS HNo
     have hkb : k ≤ n + 1 := Nat.le_of_eq hk.symm
     clear hk
     go_wp2_with fail
     go_roundg g'
     case measure => omega
     case rel => exact ⟨labels ++ [i], s3, m3, _, k, ca, HS, HRo, HNo, by omega, by omega⟩
  ·skip
   have HX : Hid (bindP (betweenM (⟨#[123]⟩ : ByteArray) ⟨#[125]⟩ false (subP d) (fun _ => bodyE d ⟨tk.x, labels, [], [], tk.at_⟩)) (fun r => addB r.1) (peekS s') = R) := Lib.hid (by rw [← HRr.out, lab_no (by rw [HT.out]; exact hk3)]; rfl)
   have e1 : (t.k == 3) = false := beq_eq_false_iff_ne.2 hk3
   have hXf : ∀ k, k = W2.heap.size ∨ k ∈ (⟨⟨tk.x, labels, [], [], tk.at_⟩, .slice ad n cap, .slice none 0 0, .slice none 0 0⟩ : BlM).foot → 4 ≤ k ∧ W.heap.size < k ∧ k < w2.heap.size := fun k hk => by
    have h4 := HK2.out.h4
    rcases hk with rfl | hk
    ·exact ⟨by have := HK2.out.hB; omega, HK2.out.hB, HK2.out.ub.loc.blk.lt⟩
    ·have h1 := (HK2.out.ub.foot k hk).2.2.2.2
     exact ⟨by omega, by omega, (HK2.out.ub.ok.lt k hk).2⟩
   have hGR := braced_any (α := Bl) HK2.out.un.ps HSUB.out.left (enters_of Tryz.func56 (by kernel_rfl) rfl) (lbr := #[.pointer (some ⟨W.heap.size, 0, none⟩), .pointer (some ⟨W2.heap.size, 0, none⟩)]) (X := W2.heap.size :: (⟨⟨tk.x, labels, [], [], tk.at_⟩, .slice ad n cap, .slice none 0 0, .slice none 0 0⟩ : BlM).foot) (fun k hk => (hXf k (List.mem_cons.1 hk)).2.2) (f := fun _ => bodyE d ⟨tk.x, labels, [], [], tk.at_⟩) (St := StK w2 (W2.heap.size :: (⟨⟨tk.x, labels, [], [], tk.at_⟩, .slice ad n cap, .slice none 0 0, .slice none 0 0⟩ : BlM).foot) P F T lo (W.heap.size + 1) W2.heap.size W.heap.size) StK.aside
    (fun p hp W' s'' ha hp' ho ht hff => by
     cases d with
     | zero => cases hp
     | succ d' =>
      have hbl := blk1_any (x := (⟨⟨tk.x, labels, [], [], tk.at_⟩, .slice ad n cap, .slice none 0 0, .slice none 0 0⟩ : BlM)) (exprs_any (F := F) (lo := lo) (d := d') (dp := dp + 1) (by have := HDP.out; omega) P T) (exprs_dec d') (block_dec d') (fun W w s m m1 X t hu => hu.reads (HIH.out d' rfl t) (block_dec d' t)) hp' (HK2.out.un.env.aside ha) (HK2.out.un.fit.take.down.like ht hff) rfl (HK2.out.ub.aside ha) (fun k hk => (hXf k hk).1) rfl (HK2.out.bp.aside ha) (Nat.le_trans HK2.out.le ha.size) (Nat.lt_succ_self _) (Nat.ne_of_lt HK2.out.hB)
      exact hbl.mono (fun e w hk => hk.conv (StK.low ha.size)))
   obtain ⟨RB, hRB⟩ : ∃ RB, betweenM (⟨#[123]⟩ : ByteArray) ⟨#[125]⟩ false (subP d) (fun _ => bodyE d ⟨tk.x, labels, [], [], tk.at_⟩) (peekS s') = RB := ⟨_, rfl⟩
   have hGR : Calls Tryz.prog 55 _ w2 (KEnd w2 P F T lo dp m' _ _ (betweenM (⟨#[123]⟩ : ByteArray) ⟨#[125]⟩ false (subP d) (fun _ => bodyE d ⟨tk.x, labels, [], [], tk.at_⟩) (peekS s')) _) := hGR
   rw [hRB] at hGR
   have hDB : Dec d 1 (betweenM (⟨#[123]⟩ : ByteArray) ⟨#[125]⟩ false (subP d) (fun _ => bodyE d ⟨tk.x, labels, [], [], tk.at_⟩)) := Dec.between (by decide) (fun p hp => by
    cases d with
    | zero => cases hp
    | succ d' => exact fun s hS => body_dec d' _ s hS.down)
   have HGR := Lib.hid hGR
   have HRB := Lib.hid hRB
   have HDB := Lib.hid hDB
   have HXF := Lib.hid hXf
   have p0x := HK2.out.bp.blk.cell 0
   have hmf : ∀ (fn : Fn) (first cap : Array Value) (w : World), (Instr.makeFunc fn first cap).run Tryz.prog w = .ok (.func fn first cap) w := fun _ _ _ _ => rfl
   clear hGR hRB hDB hXf hk3
   go_wp2_with fail
   go_at_call 55; refine HGR.out.mono ?_
   intro e w4 hk
   cases RB with
   | error bd =>
    obtain ⟨D, rfl, hk2⟩ := HK2.out.un.kbad (fun k hk => .inr (Nat.le_of_lt (HXF.out k (List.mem_cons.1 hk)).2.1)) hk
    refine ⟨rfl, ?_⟩
    rw [bind_err HRB.out HX.out]
    exact Bad.p ⟨D, rfl, hk2⟩
   | ok y =>
    obtain ⟨⟨b5, at5⟩, s5⟩ := y
    obtain ⟨rfl, m5, hU5, hx5, hl5, ⟨x5, he5, hub5, hm5⟩, hBp5⟩ := HK2.out.un.kend (fun k hk => ⟨(HXF.out k (List.mem_cons.1 hk)).1, .inr (Nat.le_of_lt (HXF.out k (List.mem_cons.1 hk)).2.1)⟩) (HK2.out.un.fit.dec HDB.out (by decide) HRB.out) hk
    have hend0 := bind_ok HRB.out HX.out
    have hend : addB b5 s5 = R := hend0
    clear hend0
    obtain ⟨⟨t5, l5, a5, k5, q5⟩, lv5, av5, bv5⟩ := x5
    obtain ⟨aL, cL, eL⟩ : ∃ ad cp, lv5 = .slice ad l5.length cp := slice_of hub5.ok.labels
    subst eL
    obtain ⟨aA, cA, eA⟩ : ∃ ad cp, av5 = .slice ad a5.length cp := slice_of hub5.ok.attrs
    subst eA
    obtain ⟨aB, cB, eB⟩ : ∃ ad cp, bv5 = .slice ad k5.length cp := slice_of hub5.ok.blocks
    subst eB
    simp only at he5
    subst he5
    have HNQ := Lib.hid hBp5.out
    clear hk hx5 hl5 hm5 HXF HGR HRB HX p0x
    have HBE := Lib.hid hend
    have bx := hU5.ps.file.box
    obtain ⟨eb, ec, heb⟩ := slice_of hU5.ps.file.blocks
    obtain ⟨n5, hn5⟩ : ∃ q, m5.ns.length = q := ⟨_, rfl⟩
    have hnr : n5 ≤ 1000000000 := by
     have h1 := hU5.fit.pot
     unfold Go.Proofs.YtljgggohjigaoaaGreatDoor.pot at h1
     rw [← hn5, ← List.length_map (f := BlM.b), hU5.ps.file.bs]
     omega
    have hrow := hU5.ps.file.blocks.alloc (.cells #[.string t5, .slice aL l5.length cL, .slice aA a5.length cA, .slice aB k5.length cB, .int .i64 (q5 : Int)] 41)
    have hblk := World.alloc_heap_new w4 (.cells #[.string t5, .slice aL l5.length cL, .slice aA a5.length cA, .slice aB k5.length cB, .int .i64 (q5 : Int)] 41)
    have hlo := hU5.ps.base.2
    have hFr : some F ≠ m5.bv.ownBlock := fun e => (List.nodup_append.1 ((foot_permB m5 F).nodup_iff.1 hU5.ps.file.nodup)).2.2 F (mem_ownB.2 e.symm) F (by unfold FileM.restB; simp) rfl
    have hPr : some P ≠ m5.bv.ownBlock := fun e => hU5.ps.far ((foot_permB m5 F).mem_iff.2 (List.mem_append.2 (.inl (mem_ownB.2 e.symm))))
    have hQr : some W.heap.size ≠ m5.bv.ownBlock := fun e => hBp5.out ((foot_permB m5 F).mem_iff.2 (List.mem_append.2 (.inl (mem_ownB.2 e.symm))))
    have hBr : some W2.heap.size ≠ m5.bv.ownBlock := fun e => hub5.loc.out ((foot_permB m5 F).mem_iff.2 (List.mem_append.2 (.inl (mem_ownB.2 e.symm))))
    have hFf : F ∈ m5.foot F := (foot_permB m5 F).mem_iff.2 (List.mem_append.2 (.inr (by unfold FileM.restB; simp)))
    have hneQ : W.heap.size ≠ F := fun e => hBp5.out (e.symm ▸ hFf)
    have hneP : P ≠ F := fun e => hU5.ps.far (e.symm ▸ hFf)
    have hneB : W2.heap.size ≠ F := fun e => hub5.loc.out (e.symm ▸ hFf)
    obtain ⟨hgP, tv, hpb, hto⟩ := hU5.ps.tok
    rw [heb, hn5] at hrow hFr hPr hQr hBr
    have bx1 := bx.cell 1
    have bx1a := (bx.alloc (.cells #[.string t5, .slice aL l5.length cL, .slice aA a5.length cA, .slice aB k5.length cB, .int .i64 (q5 : Int)] 41)).cell 1
    have bf1a := (bx.alloc (.cells #[.string t5, .slice aL l5.length cL, .slice aA a5.length cA, .slice aB k5.length cB, .int .i64 (q5 : Int)] 41)).frozen 1
    have p3 := hpb.cell 3
    have p3a := (hpb.alloc (.cells #[.string t5, .slice aL l5.length cL, .slice aA a5.length cA, .slice aB k5.length cB, .int .i64 (q5 : Int)] 41)).cell 3
    have q0 := hBp5.blk.cell 0
    have q0a := (hBp5.blk.alloc (.cells #[.string t5, .slice aL l5.length cL, .slice aA a5.length cA, .slice aB k5.length cB, .int .i64 (q5 : Int)] 41)).cell 0
    have v0 := hub5.loc.blk.cell 0
    have v1 := hub5.loc.blk.cell 1
    have v2 := hub5.loc.blk.cell 2
    have v3 := hub5.loc.blk.cell 3
    have v4 := hub5.loc.blk.cell 4
    have HBX := Lib.hid bx
    have HPB := Lib.hid hpb
    have HQB := Lib.hid hBp5.blk
    have HBB := Lib.hid hub5.loc.blk
    have HNE := Lib.hid (And.intro hFr (And.intro hPr (And.intro hQr hBr)))
    have HNF := Lib.hid (And.intro hneQ (And.intro hneP hneB))
    have HEB := Lib.hid (And.intro heb hn5)
    have HU5 := Lib.hid hU5
    have HUB5 := Lib.hid hub5
    simp only [heb, hn5] at bx1 bx1a
    clear hFf hneQ hneP hneB hBr hU5 hub5 hBp5 bx hpb hto hFr hPr hQr heb hn5 hgP hend hfl hmf hlen hnk hKb t1 t2 e1 HKr HRr HNr HT HPK HK2 HDB HSUB HIH HDP HKK
    go_wp2_with fail
    refine have AFTER5 : (∀ (w3 : World) (g2 cap2 : Nat), (w3.ownsRow lo 41 5 (.slice (some ⟨g2, 0, none⟩) (n5 + 1) cap2) (n5 + 1) (m5.ns.flatMap BlM.cells ++ [.string t5, .slice aL l5.length cL, .slice aA a5.length cA, .slice aB k5.length cB, .int .i64 (q5 : Int)])) ∧ (w4.alloc (.cells #[.string t5, .slice aL l5.length cL, .slice aA a5.length cA, .slice aB k5.length cB, .int .i64 (q5 : Int)] 41)).drew.grownBy w3 (Value.slice eb n5 ec).ownBlock ∧ ((Value.slice eb n5 ec).ownBlock = some g2 ∨ g2 = (w4.alloc (.cells #[.string t5, .slice aL l5.length cL, .slice aA a5.length cA, .slice aB k5.length cB, .int .i64 (q5 : Int)] 41)).heap.size) ∧ g2 < w3.heap.size → (?G5 : World → Nat → Nat → Prop) w3 g2 cap2) := ?later5; ?main5
    case main5 =>
     refine wp_region_held_drew (S := fun w' => Blk w' W.heap.size #[.pointer (some ⟨P, 0, none⟩)] 88 ∧ Blk w' P #[tv, .bool s5.over, .int .i64 (dp : Int), .pointer (some ⟨F, 0, none⟩)] 64 ∧ Blk w' W2.heap.size #[.string t5, .slice aL l5.length cL, .slice aA a5.length cA, .slice aB k5.length cB, .int .i64 (q5 : Int)] 41) (by kernel_rfl) ⟨HQB.out, HPB.out, HBB.out⟩ (fun hHeld => ?_)
     refine wpAnyH_take (i := 0) (oi := _) (v := ?r5_v0) rfl (by kernel_rfl) (by kernel_rfl) (by kernel_rfl) (fun _ _ _ h => h) (Or.inl ⟨by rfl, ?r5_y0⟩) (by assumption) ?r5_r0
     case r5_y0 => (intro w hSw; have z0 := hSw.1.cell 0; have z1 := hSw.2.1.cell 3; have u0 := hSw.2.2.cell 0; have u1 := hSw.2.2.cell 1; have u2 := hSw.2.2.cell 2; have u3 := hSw.2.2.cell 3; have u4 := hSw.2.2.cell 4; clear hSw; go_simp; (try with_reducible rfl))
     try simp only [Act.put, List.setIfInBounds_toArray, List.set_cons_zero, List.set_cons_succ]
     refine wpAnyH_take (i := 1) (oi := _) (v := ?r5_v1) rfl (by kernel_rfl) (by kernel_rfl) (by kernel_rfl) (fun _ _ _ h => h) (Or.inl ⟨by rfl, ?r5_y1⟩) (by assumption) ?r5_r1
     case r5_y1 => (intro w hSw; have z0 := hSw.1.cell 0; have z1 := hSw.2.1.cell 3; have u0 := hSw.2.2.cell 0; have u1 := hSw.2.2.cell 1; have u2 := hSw.2.2.cell 2; have u3 := hSw.2.2.cell 3; have u4 := hSw.2.2.cell 4; clear hSw; go_simp; (try with_reducible rfl))
     try simp only [Act.put, List.setIfInBounds_toArray, List.set_cons_zero, List.set_cons_succ]
     refine wpAnyH_take (i := 2) (oi := _) (v := ?r5_v2) rfl (by kernel_rfl) (by kernel_rfl) (by kernel_rfl) (fun _ _ _ h => h) (Or.inl ⟨by rfl, ?r5_y2⟩) (by assumption) ?r5_r2
     case r5_y2 => (intro w hSw; have z0 := hSw.1.cell 0; have z1 := hSw.2.1.cell 3; have u0 := hSw.2.2.cell 0; have u1 := hSw.2.2.cell 1; have u2 := hSw.2.2.cell 2; have u3 := hSw.2.2.cell 3; have u4 := hSw.2.2.cell 4; clear hSw; go_simp; (try with_reducible rfl))
     try simp only [Act.put, List.setIfInBounds_toArray, List.set_cons_zero, List.set_cons_succ]
     refine wpAnyH_take (i := 3) (oi := _) (v := ?r5_v3) rfl (by kernel_rfl) (by kernel_rfl) (by kernel_rfl) (fun _ _ _ h => h) (Or.inl ⟨by rfl, ?r5_y3⟩) (by assumption) ?r5_r3
     case r5_y3 => (intro w hSw; have z0 := hSw.1.cell 0; have z1 := hSw.2.1.cell 3; have u0 := hSw.2.2.cell 0; have u1 := hSw.2.2.cell 1; have u2 := hSw.2.2.cell 2; have u3 := hSw.2.2.cell 3; have u4 := hSw.2.2.cell 4; clear hSw; go_simp; (try with_reducible rfl))
     try simp only [Act.put, List.setIfInBounds_toArray, List.set_cons_zero, List.set_cons_succ]
     refine wpAnyH_take (i := 4) (oi := _) (v := ?r5_v4) rfl (by kernel_rfl) (by kernel_rfl) (by kernel_rfl) (fun _ _ _ h => h) (Or.inl ⟨by rfl, ?r5_y4⟩) (by assumption) ?r5_r4
     case r5_y4 => (intro w hSw; have z0 := hSw.1.cell 0; have z1 := hSw.2.1.cell 3; have u0 := hSw.2.2.cell 0; have u1 := hSw.2.2.cell 1; have u2 := hSw.2.2.cell 2; have u3 := hSw.2.2.cell 3; have u4 := hSw.2.2.cell 4; clear hSw; go_simp; (try with_reducible rfl))
     try simp only [Act.put, List.setIfInBounds_toArray, List.set_cons_zero, List.set_cons_succ]
     refine wpAnyH_take (i := 5) (oi := _) (v := ?r5_v5) rfl (by kernel_rfl) (by kernel_rfl) (by kernel_rfl) (fun _ _ _ h => h) (Or.inl ⟨by rfl, ?r5_y5⟩) (by assumption) ?r5_r5
     case r5_y5 => (intro w hSw; have z0 := hSw.1.cell 0; have z1 := hSw.2.1.cell 3; have u0 := hSw.2.2.cell 0; have u1 := hSw.2.2.cell 1; have u2 := hSw.2.2.cell 2; have u3 := hSw.2.2.cell 3; have u4 := hSw.2.2.cell 4; clear hSw; go_simp; (try with_reducible rfl))
     try simp only [Act.put, List.setIfInBounds_toArray, List.set_cons_zero, List.set_cons_succ]
     refine wpAnyH_take (i := 6) (oi := _) (v := ?r5_v6) rfl (by kernel_rfl) (by kernel_rfl) (by kernel_rfl) (fun _ _ _ h => h) (Or.inl ⟨by rfl, ?r5_y6⟩) (by assumption) ?r5_r6
     case r5_y6 => (intro w hSw; have z0 := hSw.1.cell 0; have z1 := hSw.2.1.cell 3; have u0 := hSw.2.2.cell 0; have u1 := hSw.2.2.cell 1; have u2 := hSw.2.2.cell 2; have u3 := hSw.2.2.cell 3; have u4 := hSw.2.2.cell 4; clear hSw; go_simp; (try with_reducible rfl))
     try simp only [Act.put, List.setIfInBounds_toArray, List.set_cons_zero, List.set_cons_succ]
     refine wpAnyH_take (i := 7) (oi := _) (v := ?r5_v7) rfl (by kernel_rfl) (by kernel_rfl) (by kernel_rfl) (fun _ _ _ h => h) (Or.inl ⟨by rfl, ?r5_y7⟩) (by assumption) ?r5_r7
     case r5_y7 => (intro w hSw; have z0 := hSw.1.cell 0; have z1 := hSw.2.1.cell 3; have u0 := hSw.2.2.cell 0; have u1 := hSw.2.2.cell 1; have u2 := hSw.2.2.cell 2; have u3 := hSw.2.2.cell 3; have u4 := hSw.2.2.cell 4; clear hSw; go_simp; (try with_reducible rfl))
     try simp only [Act.put, List.setIfInBounds_toArray, List.set_cons_zero, List.set_cons_succ]
     refine wpAnyH_take (i := 8) (oi := _) (v := ?r5_v8) rfl (by kernel_rfl) (by kernel_rfl) (by kernel_rfl) (fun _ _ _ h => h) (Or.inl ⟨by rfl, ?r5_y8⟩) (by assumption) ?r5_r8
     case r5_y8 => (intro w hSw; have z0 := hSw.1.cell 0; have z1 := hSw.2.1.cell 3; have u0 := hSw.2.2.cell 0; have u1 := hSw.2.2.cell 1; have u2 := hSw.2.2.cell 2; have u3 := hSw.2.2.cell 3; have u4 := hSw.2.2.cell 4; clear hSw; go_simp; (try with_reducible rfl))
     try simp only [Act.put, List.setIfInBounds_toArray, List.set_cons_zero, List.set_cons_succ]
     refine wpAnyH_take (i := 9) (oi := _) (v := ?r5_v9) rfl (by kernel_rfl) (by kernel_rfl) (by kernel_rfl) (fun _ _ _ h => h) (Or.inl ⟨by rfl, ?r5_y9⟩) (by assumption) ?r5_r9
     case r5_y9 => (intro w hSw; have z0 := hSw.1.cell 0; have z1 := hSw.2.1.cell 3; have u0 := hSw.2.2.cell 0; have u1 := hSw.2.2.cell 1; have u2 := hSw.2.2.cell 2; have u3 := hSw.2.2.cell 3; have u4 := hSw.2.2.cell 4; clear hSw; go_simp; (try with_reducible rfl))
     try simp only [Act.put, List.setIfInBounds_toArray, List.set_cons_zero, List.set_cons_succ]
     refine wpAnyH_take (i := 11) (oi := _) (v := ?r5_v11) rfl (by kernel_rfl) (by kernel_rfl) (by kernel_rfl) (fun _ _ _ h => h) (Or.inl ⟨by rfl, ?r5_y11⟩) (by assumption) ?r5_r11
     case r5_y11 => (intro w hSw; have z0 := hSw.1.cell 0; have z1 := hSw.2.1.cell 3; have u0 := hSw.2.2.cell 0; have u1 := hSw.2.2.cell 1; have u2 := hSw.2.2.cell 2; have u3 := hSw.2.2.cell 3; have u4 := hSw.2.2.cell 4; clear hSw; go_simp; (try with_reducible rfl))
     try simp only [Act.put, List.setIfInBounds_toArray, List.set_cons_zero, List.set_cons_succ]
     refine wpAnyH_ready (rs := [10, 12]) (by kernel_rfl) (by simp) ?_
     refine AllReadyH.cons (o := _) rfl (fun K hK => ?_) ?_
     ·go_simp
      refine hK.out _ _ ⟨HQB.out, HPB.out, HBB.out⟩ (fun hHeld => ?_)
      clear hK K
      try simp only [Act.put, List.setIfInBounds_toArray, List.set_cons_zero, List.set_cons_succ]
      refine wpAnyH_ready (rs := [12]) (by kernel_rfl) (by simp) ?_
      refine AllReadyH.cons (o := _) rfl (fun K hK => ?_) AllReadyH.nil
      go_simp
      refine hK.out _ _ ⟨HQB.out.alloc _, HPB.out.alloc _, HBB.out.alloc _⟩ (fun hHeld => ?_)
      clear hK K
      try simp only [Act.put, List.setIfInBounds_toArray, List.set_cons_zero, List.set_cons_succ]
      refine wpAnyH_ready (rs := [13]) (by kernel_rfl) (by simp) ?_
      refine AllReadyH.cons (o := _) rfl (fun K hK => ?_) AllReadyH.nil
      refine step_append_lies _ rfl (.tmp 35) (.tmp 37) 25 rfl lo 41 iB zB 5 96 Tryz.underlying25 hiB hzB hsB hbB hzB5 (by decide) _ _ _ rfl hrow ⟨w4.heap.size, 0, none⟩ 1 1 [.string t5, .slice aL l5.length cL, .slice aA a5.length cA, .slice aB k5.length cB, .int .i64 (q5 : Int)] rfl rfl (World.news_of_block hblk) (by intro u hu; simp at hu; rcases hu with rfl | rfl | rfl | rfl | rfl <;> rfl) (by decide) (by unfold maxLen; omega) (by omega) (by simp; omega) _ rfl ?_; intro g2 cap2 w3 hown hgrow hat hlt
      have hbx3 := (HBX.out.alloc (.cells #[.string t5, .slice aL l5.length cL, .slice aA a5.length cA, .slice aB k5.length cB, .int .i64 (q5 : Int)] 41)).grwD hgrow HNE.out.1
      have c31 := hbx3.cell 1
      have f31 := hbx3.frozen 1
      have HQ3 := Lib.hid ((HQB.out.alloc (.cells #[.string t5, .slice aL l5.length cL, .slice aA a5.length cA, .slice aB k5.length cB, .int .i64 (q5 : Int)] 41)).grwD hgrow HNE.out.2.2.1)
      have HP3 := Lib.hid ((HPB.out.alloc (.cells #[.string t5, .slice aL l5.length cL, .slice aA a5.length cA, .slice aB k5.length cB, .int .i64 (q5 : Int)] 41)).grwD hgrow HNE.out.2.1)
      have HB3' := Lib.hid ((HBB.out.alloc (.cells #[.string t5, .slice aL l5.length cL, .slice aA a5.length cA, .slice aB k5.length cB, .int .i64 (q5 : Int)] 41)).grwD hgrow HNE.out.2.2.2)
      refine hK.out _ _ ⟨HQ3.out, HP3.out, HB3'.out⟩ (fun hHeld => ?_)
      clear hK K
      try simp only [Act.put, List.setIfInBounds_toArray, List.set_cons_zero, List.set_cons_succ]
      refine wpAnyH_take (i := 14) (oi := _) (v := ?r5a_v14) rfl (by kernel_rfl) (by kernel_rfl) (by kernel_rfl) (fun _ _ _ h => h) (Or.inl ⟨by rfl, ?r5a_y14⟩) (by assumption) ?r5a_r14
      case r5a_y14 => (intro w hSw; have z0 := hSw.1.cell 0; have z1 := hSw.2.1.cell 3; have u0 := hSw.2.2.cell 0; have u1 := hSw.2.2.cell 1; have u2 := hSw.2.2.cell 2; have u3 := hSw.2.2.cell 3; have u4 := hSw.2.2.cell 4; clear hSw; go_simp; (try with_reducible rfl))
      try simp only [Act.put, List.setIfInBounds_toArray, List.set_cons_zero, List.set_cons_succ]
      refine wpAnyH_take (i := 15) (oi := _) (v := ?r5a_v15) rfl (by kernel_rfl) (by kernel_rfl) (by kernel_rfl) (fun _ _ _ h => h) (Or.inl ⟨by rfl, ?r5a_y15⟩) (by assumption) ?r5a_r15
      case r5a_y15 => (intro w hSw; have z0 := hSw.1.cell 0; have z1 := hSw.2.1.cell 3; have u0 := hSw.2.2.cell 0; have u1 := hSw.2.2.cell 1; have u2 := hSw.2.2.cell 2; have u3 := hSw.2.2.cell 3; have u4 := hSw.2.2.cell 4; clear hSw; go_simp; (try with_reducible rfl))
      try simp only [Act.put, List.setIfInBounds_toArray, List.set_cons_zero, List.set_cons_succ]
      refine wpAnyH_ready (rs := [16]) (by kernel_rfl) (by simp) ?_
      refine AllReadyH.cons (o := _) rfl (fun K hK => ?_) AllReadyH.nil
      go_simp
      refine hK.out _ _ ⟨(Below.heap_setCell _ _ _ _ (by exact HNF.out.1)).trans HQ3.out, (Below.heap_setCell _ _ _ _ (by exact HNF.out.2.1)).trans HP3.out, (Below.heap_setCell _ _ _ _ (by exact HNF.out.2.2)).trans HB3'.out⟩ (fun hHeld => ?_)
      clear hK K
      try simp only [Act.put, List.setIfInBounds_toArray, List.set_cons_zero, List.set_cons_succ]
      refine wpAnyH_done (by kernel_rfl) ?_ _
      exact AFTER5 w3 g2 cap2 ⟨hown, hgrow, hat, hlt⟩
     ·refine AllReadyH.cons (o := _) rfl (fun K hK => ?_) AllReadyH.nil
      go_simp
      refine hK.out _ _ ⟨HQB.out.alloc _, HPB.out.alloc _, HBB.out.alloc _⟩ (fun hHeld => ?_)
      clear hK K
      try simp only [Act.put, List.setIfInBounds_toArray, List.set_cons_zero, List.set_cons_succ]
      refine wpAnyH_ready (rs := [10]) (by kernel_rfl) (by simp) ?_
      refine AllReadyH.cons (o := _) rfl (fun K hK => ?_) AllReadyH.nil
      go_simp
      refine hK.out _ _ ⟨HQB.out.alloc _, HPB.out.alloc _, HBB.out.alloc _⟩ (fun hHeld => ?_)
      clear hK K
      try simp only [Act.put, List.setIfInBounds_toArray, List.set_cons_zero, List.set_cons_succ]
      refine wpAnyH_ready (rs := [13]) (by kernel_rfl) (by simp) ?_
      refine AllReadyH.cons (o := _) rfl (fun K hK => ?_) AllReadyH.nil
      refine step_append_lies _ rfl (.tmp 35) (.tmp 37) 25 rfl lo 41 iB zB 5 96 Tryz.underlying25 hiB hzB hsB hbB hzB5 (by decide) _ _ _ rfl hrow ⟨w4.heap.size, 0, none⟩ 1 1 [.string t5, .slice aL l5.length cL, .slice aA a5.length cA, .slice aB k5.length cB, .int .i64 (q5 : Int)] rfl rfl (World.news_of_block hblk) (by intro u hu; simp at hu; rcases hu with rfl | rfl | rfl | rfl | rfl <;> rfl) (by decide) (by unfold maxLen; omega) (by omega) (by simp; omega) _ rfl ?_; intro g2 cap2 w3 hown hgrow hat hlt
      have hbx3 := (HBX.out.alloc (.cells #[.string t5, .slice aL l5.length cL, .slice aA a5.length cA, .slice aB k5.length cB, .int .i64 (q5 : Int)] 41)).grwD hgrow HNE.out.1
      have c31 := hbx3.cell 1
      have f31 := hbx3.frozen 1
      have HQ3 := Lib.hid ((HQB.out.alloc (.cells #[.string t5, .slice aL l5.length cL, .slice aA a5.length cA, .slice aB k5.length cB, .int .i64 (q5 : Int)] 41)).grwD hgrow HNE.out.2.2.1)
      have HP3 := Lib.hid ((HPB.out.alloc (.cells #[.string t5, .slice aL l5.length cL, .slice aA a5.length cA, .slice aB k5.length cB, .int .i64 (q5 : Int)] 41)).grwD hgrow HNE.out.2.1)
      have HB3' := Lib.hid ((HBB.out.alloc (.cells #[.string t5, .slice aL l5.length cL, .slice aA a5.length cA, .slice aB k5.length cB, .int .i64 (q5 : Int)] 41)).grwD hgrow HNE.out.2.2.2)
      refine hK.out _ _ ⟨HQ3.out, HP3.out, HB3'.out⟩ (fun hHeld => ?_)
      clear hK K
      try simp only [Act.put, List.setIfInBounds_toArray, List.set_cons_zero, List.set_cons_succ]
      refine wpAnyH_take (i := 14) (oi := _) (v := ?r5b_v14) rfl (by kernel_rfl) (by kernel_rfl) (by kernel_rfl) (fun _ _ _ h => h) (Or.inl ⟨by rfl, ?r5b_y14⟩) (by assumption) ?r5b_r14
      case r5b_y14 => (intro w hSw; have z0 := hSw.1.cell 0; have z1 := hSw.2.1.cell 3; have u0 := hSw.2.2.cell 0; have u1 := hSw.2.2.cell 1; have u2 := hSw.2.2.cell 2; have u3 := hSw.2.2.cell 3; have u4 := hSw.2.2.cell 4; clear hSw; go_simp; (try with_reducible rfl))
      try simp only [Act.put, List.setIfInBounds_toArray, List.set_cons_zero, List.set_cons_succ]
      refine wpAnyH_take (i := 15) (oi := _) (v := ?r5b_v15) rfl (by kernel_rfl) (by kernel_rfl) (by kernel_rfl) (fun _ _ _ h => h) (Or.inl ⟨by rfl, ?r5b_y15⟩) (by assumption) ?r5b_r15
      case r5b_y15 => (intro w hSw; have z0 := hSw.1.cell 0; have z1 := hSw.2.1.cell 3; have u0 := hSw.2.2.cell 0; have u1 := hSw.2.2.cell 1; have u2 := hSw.2.2.cell 2; have u3 := hSw.2.2.cell 3; have u4 := hSw.2.2.cell 4; clear hSw; go_simp; (try with_reducible rfl))
      try simp only [Act.put, List.setIfInBounds_toArray, List.set_cons_zero, List.set_cons_succ]
      refine wpAnyH_ready (rs := [16]) (by kernel_rfl) (by simp) ?_
      refine AllReadyH.cons (o := _) rfl (fun K hK => ?_) AllReadyH.nil
      go_simp
      refine hK.out _ _ ⟨(Below.heap_setCell _ _ _ _ (by exact HNF.out.1)).trans HQ3.out, (Below.heap_setCell _ _ _ _ (by exact HNF.out.2.1)).trans HP3.out, (Below.heap_setCell _ _ _ _ (by exact HNF.out.2.2)).trans HB3'.out⟩ (fun hHeld => ?_)
      clear hK K
      try simp only [Act.put, List.setIfInBounds_toArray, List.set_cons_zero, List.set_cons_succ]
      refine wpAnyH_done (by kernel_rfl) ?_ _
      exact AFTER5 w3 g2 cap2 ⟨hown, hgrow, hat, hlt⟩
    case later5 =>
     intro w3 g2 cap2 ⟨hown, hgrow, hat, hlt⟩
     have hU5 := HU5.out
     have hub5 := HUB5.out
     have hg' : (w4.alloc (.cells #[.string t5, .slice aL l5.length cL, .slice aA a5.length cA, .slice aB k5.length cB, .int .i64 (q5 : Int)] 41)).grownBy w3 m5.bv.ownBlock := by
      rw [HEB.out.1, HEB.out.2]
      exact ⟨hgrow.os, hgrow.tape, hgrow.output, hgrow.size, hgrow.block⟩
     have hat' : m5.bv.ownBlock = some g2 ∨ g2 = (w4.alloc (.cells #[.string t5, .slice aL l5.length cL, .slice aA a5.length cA, .slice aB k5.length cB, .int .i64 (q5 : Int)] 41)).heap.size := by
      rw [HEB.out.1, HEB.out.2]
      exact hat
     have hown' : w3.ownsRow lo 41 5 (.slice (some ⟨g2, 0, none⟩) (m5.ns.length + 1) cap2) (m5.ns.length + 1) (m5.ns.flatMap BlM.cells ++ (⟨⟨t5, l5, a5, k5, q5⟩, .slice aL l5.length cL, .slice aA a5.length cA, .slice aB k5.length cB⟩ : BlM).cells) := by
      rw [HEB.out.2]
      exact hown
     have hadd := hU5.ps.addBlk hub5.ok (fun g hg => ⟨(hub5.foot g hg).1, (hub5.foot g hg).2.1, (hub5.foot g hg).2.2.1⟩) hub5.nodup hown' hg' hat'
     rw [HEB.out.2] at hadd
     obtain ⟨wF, hwF⟩ : ∃ wF, w3.setCell ⟨F, 1, none⟩ (.slice (some ⟨g2, 0, none⟩) (n5 + 1) cap2) = wF := ⟨_, rfl⟩
     rw [hwF] at hadd ⊢
     obtain ⟨hpF, hoF, hlF, hsF⟩ := hadd
     have hqF : Blk wF W.heap.size #[.pointer (some ⟨P, 0, none⟩)] 88 := (hsF _ HQB.out.lt (fun hm => (HNQ.out hm))).trans HQB.out
     have hPF : Blk wF P #[tv, .bool s5.over, .int .i64 (dp : Int), .pointer (some ⟨F, 0, none⟩)] 64 := (hsF P HPB.out.lt hU5.ps.far).trans HPB.out
     have f1 := hpF.file.box.cell 1
     have f2 := hPF.cell 3
     have f3 := hqF.cell 0
     have e1 : ((n5 : Int) + 1) - 1 = (n5 : Int) := by omega
     have HLN : Hid (s5.f.blocks.length = n5) := Lib.hid (by rw [← HEB.out.2, ← List.length_map (f := BlM.b), hU5.ps.file.bs])
     have HEND := Lib.hid (And.intro hpF (And.intro hoF hlF))
     clear hpF hoF hlF hsF hqF hPF hwF hg' hat' hown' hown hgrow hat hlt hU5 hub5 hrow hblk v0 v1 v2 v3 v4 bx1 bx1a bf1a p3 p3a q0 q0a
     go_wp2_with fail
     go_ret
     obtain ⟨hpF, hoF, hlF⟩ := HEND.out
     rw [← HBE.out]
     have hU5 := HU5.out
     have hub5 := HUB5.out
     refine ⟨by show _ = Ending.returned (natV _); rw [HLN.out]; rfl, _, hpF, (hU5.outs.trans hU5.later (hoF.x [])).o, ⟨fun g hg => ?_, hU5.later.tv⟩⟩
     rcases hlF g hg with h1 | h1 | h1
     ·exact hU5.later g h1
     ·exact .inr (Nat.le_of_succ_le (hub5.foot g h1).2.2.2.2)
     ·exact .inr (Nat.le_trans hU5.outs.size h1)
/-- A block, however deep. -/
theorem block_all {P F T lo : Nat} : ∀ (d dp : Nat), dp + d = 24 → ∀ tk, Rds P F T lo dp d 34 #[.pointer (some ⟨P, 0, none⟩), tkV tk] (blockM d tk)
 | 0, dp, h, tk => block_one h (fun d' e => by cases e) tk
 | d + 1, dp, h, tk => block_one h (fun d' e t => by
   obtain rfl : d = d' := by omega
   exact block_all d (dp + 1) (by omega) t) tk
end Go.Proofs.YtljgggohjigaoaaGreatDoor
