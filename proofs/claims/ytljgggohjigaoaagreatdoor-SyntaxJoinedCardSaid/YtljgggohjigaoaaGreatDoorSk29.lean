/- A text of parts -/
import Derived.Deep.RegionWith
import Derived.Deep.RegionHeld
import Derived.Test.YtljgggohjigaoaaGreatDoorSk28
namespace Go.Proofs.YtljgggohjigaoaaGreatDoor
open Go.RowKit Go.Shelf
set_option linter.unusedVariables false
set_option linter.unusedSimpArgs false

section
variable {P F T lo dp d : Nat} {nx : Sub}
set_option maxRecDepth 100000 in
set_option maxHeartbeats 8000000 in
theorem text_parts (hs : Subs F lo dp d nx) {W : World} {s : Ps} {m : FileM} (h : PsAt W P F T lo dp s m) (he : Env W P F) (hf : Fit d s) (hk : (next s).k = 3) {p0 y0 z0 w0 : List UInt8} (hx : (next s).x.data.toList = p0 ++ 36 :: 123 :: (y0 ++ 125 :: z0)) (hi : insL (next s).x.data.toList = some (p0.length, p0.length + y0.length + 3)) : Calls Tryz.prog 158 #[.pointer (some ⟨P, 0, none⟩)] W (PEnd W P F T lo dp m natV (textM nx s)) := by
 obtain ⟨iI, hiI, hzI, hsI, hbI⟩ := info_of infoInt0
 obtain ⟨iS, hiS, hzS, hsS, hbS⟩ := info_of infoStr0
 obtain ⟨hC, hsz⟩ := next_txt hf hk
 have hpos : (next s).at_ + 100000 * d ≤ 3000000 := by
  rcases next_mem s with h1 | h1
  ·exact hf.pos _ h1
  ·rw [h1] at hk; cases hk
 have hpt := pot_take s
 have hpf := hf.pot
 have hwt : aheadL (next s).x.data.toList < (next s).x.data.toList.length → wt (next s) = (next s).x.size + 2 := fun hlt => by
  unfold wt
  rw [if_neg (by rw [hk]; decide), if_pos ⟨hk, hlt⟩]
 obtain ⟨t, ht⟩ : ∃ t, next s = t := ⟨_, rfl⟩
 have HTK := (Un.start (X := []) h he hf).take (by rw [hk]; decide)
 rw [ht] at hC hsz hpos hpt hwt HTK hk hi hx
 have HTK := Lib.hid HTK
 obtain ⟨tx, htx⟩ : ∃ tx, t.x = tx := ⟨_, rfl⟩
 rw [htx] at hC hsz hwt hi hx
 obtain ⟨a0, ha0⟩ : ∃ a0, t.at_ = a0 := ⟨_, rfl⟩
 rw [ha0] at hpos
 have HSUB := Lib.hid hs
 have H4W := Lib.hid he.ready.1
 have hls : tx.data.toList.length = tx.size := by simp
 obtain ⟨R, hR⟩ : ∃ R, textM nx s = R := ⟨_, rfl⟩
 rw [hR]
 have htk : tkV t = .agg #[.int .i64 t.k, .string tx, .int .i64 (a0 : Int)] := by rw [← htx, ← ha0]
 rw [htk] at HTK
 have hlt : p0.length < tx.size := by
  have h1 := congrArg List.length hx
  rw [hls] at h1
  simp only [List.length_append, List.length_cons] at h1
  omega
 have hw1 : wt t = tx.size + 2 := hwt (by
  have h1 := hi
  unfold insL at h1
  split at h1
  ·assumption
  ·exfalso
   simp only [Option.some.injEq, Prod.mk.injEq] at h1
   omega)
 obtain ⟨Q, hQ⟩ : ∃ Q, partsM nx (tx.data.toList.length + 1) tx.data.toList (a0 + 1) [] [] (takeS s) = Q := ⟨_, rfl⟩
 have hres : textEnd a0 Q = R := by
  rw [← hR, ← hQ]
  unfold textM
  simp only
  rw [ht, htx, hi, ha0]
  simp only
  rw [if_neg (by omega)]
  unfold textEnd bindP
  cases partsM nx (tx.data.toList.length + 1) tx.data.toList (a0 + 1) [] [] (takeS s) with
  | error x => rfl
  | ok z => rfl
 have HQ := Lib.hid hQ
 have HRQ := Lib.hid hres
 have HIN := Lib.hid (fun w => insertion_any (x := tx) (by omega) hi w)
 have HINS : Hid (∀ (w' : World) (s2 : Ps) (m2 : FileM) {x : ByteArray} {a : Nat}, PsAt w' P F T lo dp s2 m2 → Env w' P F → pot s2 + x.size ≤ 1000000000 ∧ 3 ≤ x.size ∧ x.size ≤ 65536 ∧ a + 100000 * d ≤ 3070000 → Calls Tryz.prog 169 #[.pointer (some ⟨P, 0, none⟩), .string x, .int .i64 (a : Int)] w' (PEnd w' P F T lo dp m2 natV (insertedM nx x.data.toList a s2))) := Lib.hid (fun w' s2 m2 {x a} hp he hh => inserted_any hs hp he hh.1 hh.2.1 hh.2.2.1 hh.2.2.2)
 have HC := Lib.hid hC
 have hp1 : pot (takeS s) + tx.size ≤ 1000000000 := by omega
 have HP1 := Lib.hid hp1
 have HLS := Lib.hid hls
 have i1 : ((p0.length : Int) == (tx.size : Int)) = false := by simp; omega
 have hpa : a0 + 1 + 100000 * d ≤ 3000001 := by omega
 clear h he hf hk hC hpt hpf hwt ht htx ha0 hs hls hR htk hi hQ hres hx hw1 hp1
 go_enter Tryz.func158, Tryz.ntmps158
 go_wp2_with fail
 go_at_call 53; refine HTK.out.mono ?_
 rintro e w1 ⟨rfl, hs1⟩
 have hM2 := Loc.new hs1.un.ps #[.int .i64 t.k, .string tx, .int .i64 (a0 : Int)] 75
 have hU2 := hs1.un.alloc (.cells #[.int .i64 t.k, .string tx, .int .i64 (a0 : Int)] 75)
 have v1 := hM2.blk.cell 1
 have v2 := hM2.blk.cell 2
 obtain ⟨W2, hW2⟩ : ∃ W2, w1.alloc (.cells #[.int .i64 t.k, .string tx, .int .i64 (a0 : Int)] 75) = W2 := ⟨_, rfl⟩
 rw [hW2] at hM2 hU2
 have HM2 := Lib.hid hM2
 have HU2 := Lib.hid hU2
 have HW2 := Lib.hid hW2
 clear hs1 hM2 hU2 hW2
 go_wp2_with fail
 go_at_call 71; rw [HW2.out]; refine (HIN.out _).mono ?_
 rintro e w3 ⟨rfl, hb3⟩
 have hM3 := HM2.out.lc (Lc.of hb3 []) (by simp)
 have hU3 := HU2.out.below hb3
 have x1 := hM3.blk.cell 1
 have x2 := hM3.blk.cell 2
 have hE4 := UnE.new (N := W.heap.size) hU3.ps 6 ⟨#[]⟩ a0
 have hU4 := hU3.alloc (.cells #[.int .i64 6, .string ⟨#[]⟩, .slice none 0 0, .slice none 0 0, .int .i64 (a0 : Int)] 38)
 have hM4 := hM3.alloc (.cells #[.int .i64 6, .string ⟨#[]⟩, .slice none 0 0, .slice none 0 0, .int .i64 (a0 : Int)] 38)
 have x41 := hM4.blk.cell 1
 have x42 := hM4.blk.cell 2
 have hsz3 := hU3.outs.size
 have h4W := H4W.out
 have hS4 : UnS W (w3.alloc (.cells #[.int .i64 6, .string ⟨#[]⟩, .slice none 0 0, .slice none 0 0, .int .i64 (a0 : Int)] 38)) P F T lo dp d m [] (takeS s) m W.heap.size w3.heap.size ⟨⟨6, ⟨#[]⟩, [], [], a0⟩, .slice none 0 0, .slice none 0 0⟩ := ⟨hU4, hE4, fun k hk => (by
  rcases hk with rfl | hk
  ·exact ⟨by omega, .inr (by omega)⟩
  ·cases hk), Nat.le_refl _⟩
 have HS4 := Lib.hid (hS4.below (Below.refl _ _).drew)
 obtain ⟨E, hEE⟩ : ∃ E, w3.heap.size = E := ⟨_, rfl⟩
 rw [hEE] at HS4
 have jw : IntKind.i64.wrap ((a0 : Int) + 1) = (a0 : Int) + 1 := IntWalk.i64_in _ (by omega)
 clear hb3 hM3 hU3 hE4 hU4 hM4 hS4 hsz3
 go_wp2_with fail
 go_region
 all_goals try rw [hEE]
 go_wp2_with fail
 go_loopg [7, 8] (tx.size + 1) (fun gf s7 s8 wx => ∃ (xr : ByteArray) (a : Nat) (args : List Nat) (keys : List ByteArray) (s' : Ps) (m' : FileM) (adA : Option Addr) (nA cpA : Nat) (adK : Option Addr) (nK cpK : Nat), s7 = .string xr ∧ s8 = .int .i64 (a : Int) ∧ Hid (UnS W wx P F T lo dp d m [] s' m' W.heap.size E ⟨⟨6, ⟨#[]⟩, args, keys, a0⟩, .slice adA nA cpA, .slice adK nK cpK⟩) ∧ Hid (args.length = nA) ∧ Hid (keys.length = nK) ∧ Hid (TextC xr.data.toList) ∧ Hid (partsM nx gf xr.data.toList a args keys s' = Q) ∧ xr.size < gf ∧ pot s' + xr.size ≤ 1000000000 ∧ a + xr.size + 100000 * d ≤ 3065537 ∧ nA + 2 * xr.size ≤ 131072 ∧ nK + 2 * xr.size ≤ 131072)
 case atStart => exact ⟨tx, a0 + 1, [], [], takeS s, m, none, 0, 0, none, 0, 0, rfl, by push_cast; rfl, HS4, Lib.hid rfl, Lib.hid rfl, HC, Lib.hid (by rw [← HLS.out]; exact HQ.out), by omega, HP1.out, by omega, by omega, by omega⟩
 case round =>
  obtain ⟨xr, a, args, keys, s', m', adA, nA, cpA, adK, nK, cpK, rfl, rfl, HS5, HNA, HNK, HTC, HRL, hgf, hpot, hpa2, hna, hnk⟩ := hrel
  clear HS4 HQ HC HIN HTK HP1 HLS
  obtain ⟨g', rfl⟩ : ∃ g', gk = g' + 1 := ⟨gk - 1, by omega⟩
  by_cases hx0 : xr.size = 0
  ·have hxe : xr = ⟨#[]⟩ := ByteArray.size_eq_zero_iff.1 hx0
   have hq : Q = .ok ((args, keys), s') := by
    rw [← HRL.out, hxe]
    exact parts_end
   have hend : R = addM ⟨6, ⟨#[]⟩, args, keys, a0⟩ s' := by rw [← HRQ.out, hq]; rfl
   have HEND := Lib.hid hend
   have e0 : (xr.toList == []) = true := by rw [hxe]; kernel_rfl
   have q0 := HS5.out.ue.loc.blk.cell 0
   have q1 := HS5.out.ue.loc.blk.cell 1
   have q2 := HS5.out.ue.loc.blk.cell 2
   have q3 := HS5.out.ue.loc.blk.cell 3
   have q4 := HS5.out.ue.loc.blk.cell 4
   have HADD := Lib.hid (HS5.out.un.addE HS5.out.ue)
   clear hq hend hxe hx0
   go_wp2_with fail
   go_at_call 105; refine HADD.out.mono ?_
   rintro e w9 ⟨rfl, m9, hp9, ho9, hl9⟩
   have hnv : natV s'.f.exprs.length = .int .i64 (s'.f.exprs.length : Int) := rfl
   rw [hnv]
   go_wp2_with fail
   go_ret
   rw [HEND.out]
   exact ⟨rfl, m9, hp9, ho9, hl9⟩
  ·have hne : xr.data.toList ≠ [] := fun e => hx0 (by have := congrArg List.length e; simpa using this)
   have HNE := Lib.hid hne
   have e0 : (xr.toList == []) = false := word_no _ _ ⟨#[]⟩ (by kernel_rfl) (fun e => hx0 (by rw [e]; rfl))
   have hls : xr.data.toList.length = xr.size := by simp
   have hb0 : (0 : Int) ≤ (a : Int) := by omega
   rcases text_ins HTC.out with ⟨hi, y, hy⟩ | ⟨p1, y1, z1, hx1, hz1, hi, w2, hw2⟩
   ·rw [hls] at hi
    obtain ⟨b, hbe⟩ : ∃ b, xr.size = b := ⟨_, rfl⟩
    have HBS : Hid (xr.size = b) := Lib.hid hbe
    have hi' : insL xr.data.toList = some (b, b) := by rw [← hbe]; exact hi
    have HIN2 := Lib.hid (fun w => insertion_any (x := xr) (by omega) hi' w)
    have HINB := Lib.hid hi'
    have hy' : saidL (xr.data.toList.take b) = some y := by rw [← hbe, ← hls, List.take_length]; exact hy
    have HSY := Lib.hid hy'
    have HSD := Lib.hid (fun w => said_any (x := xr.extract 0 b) (by rw [ByteArray.size_extract]; omega) (by rw [take_list]; exact hy') w)
    have hpotT : pot s' + 1 ≤ 1000000000 := by omega
    have j1 : (0 : Int) < (b : Int) := by omega
    have j2 : ¬ (b : Int) < (b : Int) := by omega
    have j3 : (b : Int) ≤ (xr.size : Int) := by omega
    have j4 : IntKind.i64.wrap ((a : Int) + (b : Int)) = (a : Int) + (b : Int) := IntWalk.i64_in _ (by omega)
    have j6 : b ≠ 0 := by omega
    clear hne hx0 hls hi hi' hy hy' hbe
    go_wp2_with fail
    go_at_call 71; refine (HIN2.out _).mono ?_
    rintro e w8 ⟨rfl, hb8⟩
    have HS8 := Lib.hid (HS5.out.below hb8)
    clear hb8
    have HEKtA : Hid (E ∉ ownB (.slice adK nK cpK)) := Lib.hid (fun e => (HS8.out.ue.foot E (List.mem_append.2 (.inr e))).2.2.2.1 rfl)
    have k3tA := HS8.out.ue.loc.blk.cell 3
    have hrowktA := (HNK.out ▸ HS8.out.ue.ok.keys : w8.ownsRow lo 9 1 (.slice adK nK cpK) nK (keys.map Value.string)).alloc (.cells #[.string ⟨#[116]⟩] 9)
    have hblkktA := World.alloc_heap_new w8 (.cells #[.string ⟨#[116]⟩] 9)
    have hloktA : lo ≤ w8.heap.size := HS8.out.un.ps.base.2
    go_wp2_with (at_builtin; refine wpList_append_lies _ rfl (.tmp 50) (.tmp 51) 36 rfl lo 9 iS (.string ⟨#[]⟩) 1 16 Tryz.underlying36 hiS hzS hsS hbS rfl (by decide) _ _ _ rfl hrowktA ⟨w8.heap.size, 0, none⟩ 1 1 [.string ⟨#[116]⟩] rfl rfl (World.news_of_block hblkktA) (by intro u hu; simp at hu; subst hu; rfl) (by decide) (by unfold maxLen; omega) (by omega) (by simp; omega) _ rfl ?_; intro gktA cktA wk5 hownk hgrowk hatk hltk; have hEk5 := HS8.out.ue.loc.lc (grown_lc (Y := ownB (.slice adK nK cpK)) hgrowk (fun g e => mem_ownB.2 e)) HEKtA.out; have ck53 := hEk5.blk.cell 3; have fk53 := hEk5.blk.frozen 3)
    have HSKtA := Lib.hid (HS8.out.pushKey (t := ⟨#[116]⟩) HNK.out hownk hgrowk hatk).1
    have HNKtA : Hid ((keys ++ [(⟨#[116]⟩ : ByteArray)]).length = nK + 1) := Lib.hid (by rw [List.length_append, HNK.out]; rfl)
    clear hownk hgrowk hatk hltk hEk5 ck53 fk53 k3tA hrowktA hblkktA hloktA
    obtain ⟨wktA, hwktA⟩ : ∃ w6, wk5.setCell ⟨E, 3, none⟩ (.slice (some ⟨gktA, 0, none⟩) (nK + 1) cktA) = w6 := ⟨_, rfl⟩
    rw [hwktA] at HSKtA ⊢
    clear hwktA
    obtain ⟨nktA, hnktA⟩ : ∃ q, nK + 1 = q := ⟨_, rfl⟩
    rw [hnktA] at HSKtA HNKtA
    have hnkbtA : nktA ≤ nK + 1 := Nat.le_of_eq hnktA.symm
    clear hnktA
    have HDTA := Lib.hid (HSKtA.out.below (Below.refl _ wktA).drew)
    have a2dA := HSKtA.out.ue.loc.blk.cell 2
    have HEAtA : Hid (E ∉ ownB (.slice adA nA cpA)) := Lib.hid (fun e => (HSKtA.out.ue.foot E (List.mem_append.2 (.inl e))).2.2.2.1 rfl)
    refine have AFTERtA : (∀ (w9 w5 : World) (g2 cap2 : Nat), (∃ m9, UnS W w9 P F T lo dp d m [] (addText s' (bA y) a) m9 W.heap.size E ⟨⟨6, ⟨#[]⟩, args, (keys ++ [(⟨#[116]⟩ : ByteArray)]), a0⟩, .slice adA nA cpA, (.slice (some ⟨gktA, 0, none⟩) nktA cktA)⟩ ∧ w5.ownsRow lo 3 1 (.slice (some ⟨g2, 0, none⟩) (nA + 1) cap2) (nA + 1) (intsV args ++ [.int .i64 ((s').f.exprs.length : Int)]) ∧ (w9.alloc (.cells #[.int .i64 ((s').f.exprs.length : Int)] 3)).grownBy w5 (Value.slice adA nA cpA).ownBlock ∧ ((Value.slice adA nA cpA).ownBlock = some g2 ∨ g2 = (w9.alloc (.cells #[.int .i64 ((s').f.exprs.length : Int)] 3)).heap.size)) → (?GtA : World → World → Nat → Nat → Prop) w9 w5 g2 cap2) := ?latertA; ?maintA
    case maintA =>
     go_region_law (first
      | (go_simp; go_at_call 72; refine (HSD.out _).mono ?_; rintro e w4 ⟨rfl, hb4⟩; have H4 := Lib.hid (HDTA.out.below hb4); have a4 := H4.out.ue.loc.blk.cell 2; have HAD := Lib.hid (H4.out.un.addMid (bA y) a hpotT))
      | (go_simp; go_at_call 105; refine HAD.out.mono ?_; rintro e w9 ⟨rfl, m9, hs9⟩; have H9 := Lib.hid (H4.out.step hs9); have a9 := H9.out.ue.loc.blk.cell 2; have a9a := (H9.out.ue.loc.blk.alloc (.cells #[.int .i64 ((s').f.exprs.length : Int)] 3)).cell 2; have hrow := (HNA.out ▸ H9.out.ue.ok.args : w9.ownsRow lo 3 1 (.slice adA nA cpA) nA (intsV args)).alloc (.cells #[.int .i64 ((s').f.exprs.length : Int)] 3); have hblk := World.alloc_heap_new w9 (.cells #[.int .i64 ((s').f.exprs.length : Int)] 3); have hlo9 : lo ≤ w9.heap.size := H9.out.un.ps.base.2)
      | (refine step_append_lies _ rfl (.tmp 55) (.tmp 64) 26 rfl lo 3 iI (.int .i64 0) 1 8 Tryz.underlying26 hiI hzI hsI hbI rfl (by decide) _ _ _ rfl hrow ⟨w9.heap.size, 0, none⟩ 1 1 [.int .i64 ((s').f.exprs.length : Int)] rfl rfl (World.news_of_block hblk) (by intro u hu; simp at hu; subst hu; rfl) (by decide) (by unfold maxLen; omega) (by omega) (by simp; omega) _ rfl ?_; intro g2 cap2 w5 hown hgrow hat hlt; have hE5 := H9.out.ue.loc.lc (grown_lc (Y := ownB (.slice adA nA cpA)) hgrow (fun g e => mem_ownB.2 e)) HEAtA.out; have c52 := hE5.blk.cell 2; have f52 := hE5.blk.frozen 2))
     all_goals exact AFTERtA w9 w5 g2 cap2 ⟨m9, H9.out, hown, hgrow, hat⟩
    case latertA =>
     rintro w9 w5 gatA catA ⟨m9tA, h9, hown, hgrow, hat⟩
     have HSAtA := Lib.hid (h9.push HNA.out hown hgrow hat).1
     have HNAtA : Hid ((args ++ [(s').f.exprs.length]).length = nA + 1) := Lib.hid (by rw [List.length_append, HNA.out]; rfl)
     clear h9 hown hgrow hat
     obtain ⟨watA, hwatA⟩ : ∃ w6, w5.setCell ⟨E, 2, none⟩ (.slice (some ⟨gatA, 0, none⟩) (nA + 1) catA) = w6 := ⟨_, rfl⟩
     rw [hwatA] at HSAtA ⊢
     clear hwatA
     obtain ⟨natA, hnatA⟩ : ∃ q, nA + 1 = q := ⟨_, rfl⟩
     rw [hnatA] at HSAtA HNAtA
     have hnabtA : natA ≤ nA + 1 := Nat.le_of_eq hnatA.symm
     clear hnatA

     have HRZ : Hid (partsM nx g' (xr.extract b xr.size).data.toList (a + b) (args ++ [(s').f.exprs.length]) (keys ++ [(⟨#[116]⟩ : ByteArray)]) (addText s' (bA y) a) = Q) := Lib.hid (by rw [rest_extract]; exact (parts_text HNE.out HINB.out (by omega) HSY.out).symm.trans HRL.out)
     have HTZ : Hid (TextC (xr.extract b xr.size).data.toList) := Lib.hid (by rw [rest_extract]; have h1 : rest xr b = [] := List.length_eq_zero_iff.1 (by rw [rest_length]; have := HBS.out; omega); rw [h1]; exact .nil)
     have HXZ : Hid ((xr.extract b xr.size).size + b = xr.size ∧ 0 < b ∧ pot (addText s' (bA y) a) = pot s' + 1) := Lib.hid ⟨by have := HBS.out; rw [ByteArray.size_extract]; omega, by omega, pot_add _ _ _⟩
     have HQL : Hid (b ≤ xr.size) := Lib.hid (by have := HBS.out; omega)
     have j5 : (b : Int) ≤ (xr.size : Int) := by have := HBS.out; omega
     have hql := HQL.out
     go_wp2_with fail
     go_roundg g'
     case measure => omega
     case rel => exact ⟨xr.extract b xr.size, a + b, args ++ [(s').f.exprs.length], keys ++ [(⟨#[116]⟩ : ByteArray)], addText s' (bA y) a, m9tA, some ⟨gatA, 0, none⟩, natA, catA, some ⟨gktA, 0, none⟩, nktA, cktA, by rfl, by push_cast; rfl, HSAtA, HNAtA, HNKtA, HTZ, HRZ, by have := HXZ.out; omega, by have := HXZ.out; omega, by have := HXZ.out; omega, by have := HXZ.out; omega, by have := HXZ.out; omega⟩
   ·obtain ⟨b, hbe⟩ : ∃ b, p1.length = b := ⟨_, rfl⟩
    obtain ⟨q, hqe⟩ : ∃ q, p1.length + y1.length + 3 = q := ⟨_, rfl⟩
    have hbq : b + 3 ≤ q := by omega
    have hxl : xr.size = b + y1.length + 3 + z1.length := by
     have h1 := congrArg List.length hx1
     rw [hls] at h1
     simp only [List.length_append, List.length_cons] at h1
     omega
    have hqs : q ≤ xr.size := by omega
    rw [hqe, hbe] at hi
    have HINB := Lib.hid hi
    have hrq : rest xr q = z1 := by
     unfold rest
     rw [hx1, ← hqe]
     have e1 : p1 ++ 36 :: 123 :: (y1 ++ 125 :: z1) = (p1 ++ 36 :: 123 :: (y1 ++ [125])) ++ z1 := by simp
     rw [e1, List.drop_append_of_le_length (by simp; omega)]
     rw [List.drop_of_length_le (by simp; omega), List.nil_append]
    have HTQ : Hid (TextC (rest xr q)) := Lib.hid (by rw [hrq]; exact hz1)
    have HBQ := Lib.hid hbq
    have HQS := Lib.hid hqs
    have htb : xr.data.toList.take b = p1 := by rw [hx1, ← hbe]; exact List.take_left
    have hy' : saidL (xr.data.toList.take b) = some w2 := by rw [htb]; exact hw2
    have HIN2 := Lib.hid (fun w => insertion_any (x := xr) (by omega) hi w)
    have HSD := Lib.hid (fun w => said_any (x := xr.extract 0 b) (by rw [ByteArray.size_extract]; omega) (by rw [take_list]; exact hy') w)
    have HSY := Lib.hid hy'
    have hcs : (xr.extract b q).size = q - b := by rw [ByteArray.size_extract]; omega
    have hcl : ((xr.data.toList.take q).drop b).length = q - b := by simp; omega
    have hpt2 := pot_add s' (bA w2) a
    have hd0 : 0 ≤ 100000 * d := Nat.zero_le _
    have HINS : Hid (∀ (w' : World) (s2 : Ps) (m2 : FileM), PsAt w' P F T lo dp s2 m2 → Env w' P F → pot s2 + (xr.extract b q).size ≤ 1000000000 ∧ 3 ≤ (xr.extract b q).size ∧ (xr.extract b q).size ≤ 65536 ∧ a + b + 100000 * d ≤ 3070000 → Calls Tryz.prog 169 #[.pointer (some ⟨P, 0, none⟩), .string (xr.extract b q), .int .i64 ((a : Int) + (b : Int))] w' (PEnd w' P F T lo dp m2 natV (insertedM nx ((xr.data.toList.take q).drop b) (a + b) s2))) := Lib.hid (fun w' s2 m2 hp he hh => by
     have h1 := HINS.out w' s2 m2 (x := xr.extract b q) (a := a + b) hp he hh
     rw [cut_list] at h1
     have e : ((a + b : Nat) : Int) = (a : Int) + (b : Int) := by omega
     rw [e] at h1
     exact h1)
    have j2 : (b : Int) < (q : Int) := by omega
    have j8 : (b : Int) ≤ (q : Int) := by omega
    have j3 : (b : Int) ≤ (xr.size : Int) := by omega
    have j9 : (q : Int) ≤ (xr.size : Int) := by omega
    have j10 : (0 : Int) ≤ (b : Int) := by omega
    have j4 : IntKind.i64.wrap ((a : Int) + (b : Int)) = (a : Int) + (b : Int) := IntWalk.i64_in _ (by omega)
    have j7 : IntKind.i64.wrap ((a : Int) + (q : Int)) = (a : Int) + (q : Int) := IntWalk.i64_in _ (by omega)
    by_cases hb1 : b = 0
    ·have HCUT : Hid ((xr.extract b q).size = q - b ∧ ((xr.data.toList.take q).drop b).length = q - b ∧ b + 3 ≤ q ∧ q ≤ xr.size ∧ xr.size ≤ 65536 ∧ pot s' + xr.size ≤ 1000000000 ∧ a + xr.size + 100000 * d ≤ 3065537) := Lib.hid ⟨hcs, hcl, hbq, hqs, by omega, hpot, hpa2⟩
     have HRB : Hid (bindP (insertedM nx ((xr.data.toList.take q).drop b) (a + b)) (fun i => partsM nx g' (xr.data.toList.drop q) (a + q) (args ++ [i]) (keys ++ [bA [101]])) s' = Q) := Lib.hid (by
      rw [hb1]
      exact parts_ins HNE.out (by rw [← hb1]; exact hi) (by omega) HRL.out)
     have j1 : ¬ (0 : Int) < (b : Int) := by omega
     clear hne hx0 hls hi hy' hbe hqe hxl hrq htb hcs hcl hpt2 hx1 hz1 hw2 hb1 HINB HSY HSD hbq hqs
     go_wp2_with fail
     go_at_call 71; refine (HIN2.out _).mono ?_
     rintro e w8 ⟨rfl, hb8⟩
     have HS8 := Lib.hid (HS5.out.below hb8)
     clear hb8
     have HEKiC : Hid (E ∉ ownB (.slice adK nK cpK)) := Lib.hid (fun e => (HS8.out.ue.foot E (List.mem_append.2 (.inr e))).2.2.2.1 rfl)
     have k3iC := HS8.out.ue.loc.blk.cell 3
     have hrowkiC := (HNK.out ▸ HS8.out.ue.ok.keys : w8.ownsRow lo 9 1 (.slice adK nK cpK) nK (keys.map Value.string)).alloc (.cells #[.string ⟨#[101]⟩] 9)
     have hblkkiC := World.alloc_heap_new w8 (.cells #[.string ⟨#[101]⟩] 9)
     have hlokiC : lo ≤ w8.heap.size := HS8.out.un.ps.base.2
     go_wp2_with (at_builtin; refine wpList_append_lies _ rfl (.tmp 71) (.tmp 72) 36 rfl lo 9 iS (.string ⟨#[]⟩) 1 16 Tryz.underlying36 hiS hzS hsS hbS rfl (by decide) _ _ _ rfl hrowkiC ⟨w8.heap.size, 0, none⟩ 1 1 [.string ⟨#[101]⟩] rfl rfl (World.news_of_block hblkkiC) (by intro u hu; simp at hu; subst hu; rfl) (by decide) (by unfold maxLen; omega) (by omega) (by simp; omega) _ rfl ?_; intro gkiC ckiC wk5 hownk hgrowk hatk hltk; have hEk5 := HS8.out.ue.loc.lc (grown_lc (Y := ownB (.slice adK nK cpK)) hgrowk (fun g e => mem_ownB.2 e)) HEKiC.out; have ck53 := hEk5.blk.cell 3; have fk53 := hEk5.blk.frozen 3)
     have HSKiC := Lib.hid (HS8.out.pushKey (t := ⟨#[101]⟩) HNK.out hownk hgrowk hatk).1
     have HNKiC : Hid ((keys ++ [(⟨#[101]⟩ : ByteArray)]).length = nK + 1) := Lib.hid (by rw [List.length_append, HNK.out]; rfl)
     clear hownk hgrowk hatk hltk hEk5 ck53 fk53 k3iC hrowkiC hblkkiC hlokiC
     obtain ⟨wkiC, hwkiC⟩ : ∃ w6, wk5.setCell ⟨E, 3, none⟩ (.slice (some ⟨gkiC, 0, none⟩) (nK + 1) ckiC) = w6 := ⟨_, rfl⟩
     rw [hwkiC] at HSKiC ⊢
     clear hwkiC
     obtain ⟨nkiC, hnkiC⟩ : ∃ q, nK + 1 = q := ⟨_, rfl⟩
     rw [hnkiC] at HSKiC HNKiC
     have hnkbiC : nkiC ≤ nK + 1 := Nat.le_of_eq hnkiC.symm
     clear hnkiC
     have HDIC := Lib.hid (HSKiC.out.below (Below.refl _ wkiC).drew)
     have a2iC := HSKiC.out.ue.loc.blk.cell 2
     have hic0C := fun (e : Ending) (w' : World) => HDIC.out.un.pend (e := e) (w' := w') (r := insertedM nx ((xr.data.toList.take q).drop b) (a + b) s') (fun iv s2 hm => (HDIC.out.un.fit.ins (insE_res HSUB.out.ok) hm (by have := HCUT.out; omega)).1)
     have hicC : Calls Tryz.prog 169 #[.pointer (some ⟨P, 0, none⟩), .string (xr.extract b q), .int .i64 ((a : Int) + (b : Int))] wkiC.drew (Stp W wkiC.drew P F T lo dp d m [] m' natV (insertedM nx ((xr.data.toList.take q).drop b) (a + b) s')) := (HINS.out _ _ _ HDIC.out.un.ps HDIC.out.un.env (by have := HCUT.out; omega)).mono (fun e w' hk => hic0C e w' hk)
     cases hmC : insertedM nx ((xr.data.toList.take q).drop b) (a + b) s' with
     | error bd =>
      rw [hmC] at hicC
      have HICC := Lib.hid hicC
      have HREC := Lib.hid (bind_err hmC HRB.out)
      clear hicC hic0C hmC
      refine wp_region_held_drew (S := fun w' => w'.cell? ⟨E, 2, none⟩ = some (.slice adA nA cpA)) (by kernel_rfl) a2iC (fun hHeld => ?_)
      refine wpAnyH_take (i := 0) (oi := _) (v := ?qiC_v0) rfl (by kernel_rfl) (by kernel_rfl) (by kernel_rfl) (fun _ _ _ h => h) (Or.inl ⟨by rfl, ?qiC_y0⟩) (by assumption) ?qiC_r0
      case qiC_y0 => (intro w hSw; (try dsimp only at hSw); go_simp; (try with_reducible rfl))
      try simp only [Act.put, List.setIfInBounds_toArray, List.set_cons_zero, List.set_cons_succ]
      refine wpAnyH_take (i := 1) (oi := _) (v := ?qiC_v1) rfl (by kernel_rfl) (by kernel_rfl) (by kernel_rfl) (fun _ _ _ h => h) (Or.inl ⟨by rfl, ?qiC_y1⟩) (by assumption) ?qiC_r1
      case qiC_y1 => (intro w hSw; (try dsimp only at hSw); go_simp; (try with_reducible rfl))
      try simp only [Act.put, List.setIfInBounds_toArray, List.set_cons_zero, List.set_cons_succ]
      refine wpAnyH_take (i := 2) (oi := _) (v := ?qiC_v2) rfl (by kernel_rfl) (by kernel_rfl) (by kernel_rfl) (fun _ _ _ h => h) (Or.inl ⟨by rfl, ?qiC_y2⟩) (by assumption) ?qiC_r2
      case qiC_y2 => (intro w hSw; (try dsimp only at hSw); go_simp; (try with_reducible rfl))
      try simp only [Act.put, List.setIfInBounds_toArray, List.set_cons_zero, List.set_cons_succ]
      refine wpAnyH_take (i := 3) (oi := _) (v := ?qiC_v3) rfl (by kernel_rfl) (by kernel_rfl) (by kernel_rfl) (fun _ _ _ h => h) (Or.inl ⟨by rfl, ?qiC_y3⟩) (by assumption) ?qiC_r3
      case qiC_y3 => (intro w hSw; (try dsimp only at hSw); go_simp; (try with_reducible rfl))
      try simp only [Act.put, List.setIfInBounds_toArray, List.set_cons_zero, List.set_cons_succ]
      refine wpAnyH_take (i := 4) (oi := _) (v := ?qiC_v4) rfl (by kernel_rfl) (by kernel_rfl) (by kernel_rfl) (fun _ _ _ h => h) (Or.inl ⟨by rfl, ?qiC_y4⟩) (by assumption) ?qiC_r4
      case qiC_y4 => (intro w hSw; (try dsimp only at hSw); go_simp; (try with_reducible rfl))
      try simp only [Act.put, List.setIfInBounds_toArray, List.set_cons_zero, List.set_cons_succ]
      refine wpAnyH_take (i := 5) (oi := _) (v := ?qiC_v5) rfl (by kernel_rfl) (by kernel_rfl) (by kernel_rfl) (fun _ _ _ h => h) (Or.inl ⟨by rfl, ?qiC_y5⟩) (by assumption) ?qiC_r5
      case qiC_y5 => (intro w hSw; (try dsimp only at hSw); go_simp; (try with_reducible rfl))
      try simp only [Act.put, List.setIfInBounds_toArray, List.set_cons_zero, List.set_cons_succ]
      refine wpAnyH_take (i := 6) (oi := _) (v := ?qiC_v6) rfl (by kernel_rfl) (by kernel_rfl) (by kernel_rfl) (fun _ _ _ h => h) (Or.inl ⟨by rfl, ?qiC_y6⟩) (by assumption) ?qiC_r6
      case qiC_y6 => (intro w hSw; (try dsimp only at hSw); go_simp; (try with_reducible rfl))
      try simp only [Act.put, List.setIfInBounds_toArray, List.set_cons_zero, List.set_cons_succ]
      refine wpAnyH_take (i := 7) (oi := _) (v := ?qiC_v7) rfl (by kernel_rfl) (by kernel_rfl) (by kernel_rfl) (fun _ _ _ h => h) (Or.inl ⟨by rfl, ?qiC_y7⟩) (by assumption) ?qiC_r7
      case qiC_y7 => (intro w hSw; (try dsimp only at hSw); go_simp; (try with_reducible rfl))
      try simp only [Act.put, List.setIfInBounds_toArray, List.set_cons_zero, List.set_cons_succ]
      refine wpAnyH_take (i := 8) (oi := _) (v := ?qiC_v8) rfl (by kernel_rfl) (by kernel_rfl) (by kernel_rfl) (fun _ _ _ h => h) (Or.inl ⟨by rfl, ?qiC_y8⟩) (by assumption) ?qiC_r8
      case qiC_y8 => (intro w hSw; (try dsimp only at hSw); go_simp; (try with_reducible rfl))
      try simp only [Act.put, List.setIfInBounds_toArray, List.set_cons_zero, List.set_cons_succ]
      refine wpAnyH_take (i := 9) (oi := _) (v := ?qiC_v9) rfl (by kernel_rfl) (by kernel_rfl) (by kernel_rfl) (fun _ _ _ h => h) (Or.inl ⟨by rfl, ?qiC_y9⟩) (by assumption) ?qiC_r9
      case qiC_y9 => (intro w hSw; (try dsimp only at hSw); go_simp; (try with_reducible rfl))
      try simp only [Act.put, List.setIfInBounds_toArray, List.set_cons_zero, List.set_cons_succ]
      refine wpAnyH_ready (rs := [10]) (by kernel_rfl) (by simp) ?_
      refine AllReadyH.cons (o := _) rfl (fun K hK => ?_) AllReadyH.nil
      go_simp
      go_at_call 169; refine HICC.out.mono ?_; rintro e w4 ⟨D, rfl, hk⟩
      refine ⟨rfl, ?_⟩
      rw [← HRQ.out, HREC.out]
      exact Bad.p ⟨D, rfl, hk⟩
     | ok yiC =>
      obtain ⟨ivC, siC⟩ := yiC
      rw [hmC] at hicC
      have HICC := Lib.hid hicC
      have HRNC := Lib.hid (bind_ok hmC HRB.out)
      have hpiC := (HDIC.out.un.fit.ins (insE_res HSUB.out.ok) hmC (by have := HCUT.out; omega)).2
      have HPIC : Hid (pot siC ≤ pot s' + ((xr.data.toList.take q).drop b).length) := Lib.hid hpiC
      clear hicC hic0C hmC hpiC
      have HEAiC : Hid (E ∉ ownB (.slice adA nA cpA)) := Lib.hid (fun e => (HSKiC.out.ue.foot E (List.mem_append.2 (.inl e))).2.2.2.1 rfl)
      refine have AFTERiC : (∀ (w9 w5 : World) (g2 cap2 : Nat), (∃ m9, UnS W w9 P F T lo dp d m [] siC m9 W.heap.size E ⟨⟨6, ⟨#[]⟩, args, (keys ++ [(⟨#[101]⟩ : ByteArray)]), a0⟩, .slice adA nA cpA, (.slice (some ⟨gkiC, 0, none⟩) nkiC ckiC)⟩ ∧ w5.ownsRow lo 3 1 (.slice (some ⟨g2, 0, none⟩) (nA + 1) cap2) (nA + 1) (intsV args ++ [.int .i64 (ivC : Int)]) ∧ (w9.alloc (.cells #[.int .i64 (ivC : Int)] 3)).grownBy w5 (Value.slice adA nA cpA).ownBlock ∧ ((Value.slice adA nA cpA).ownBlock = some g2 ∨ g2 = (w9.alloc (.cells #[.int .i64 (ivC : Int)] 3)).heap.size)) → (?GiC : World → World → Nat → Nat → Prop) w9 w5 g2 cap2) := ?lateriC; ?mainiC
      case mainiC =>
       go_region_law (first
        | (go_simp; go_at_call 169; refine HICC.out.mono ?_; rintro e w9 ⟨rfl, m9, hs9⟩; have hnv : natV ivC = .int .i64 (ivC : Int) := rfl; have H9 := Lib.hid (HDIC.out.step hs9); have a9 := H9.out.ue.loc.blk.cell 2; have a9a := (H9.out.ue.loc.blk.alloc (.cells #[.int .i64 (ivC : Int)] 3)).cell 2; have hrow := (HNA.out ▸ H9.out.ue.ok.args : w9.ownsRow lo 3 1 (.slice adA nA cpA) nA (intsV args)).alloc (.cells #[.int .i64 (ivC : Int)] 3); have hblk := World.alloc_heap_new w9 (.cells #[.int .i64 (ivC : Int)] 3); have hlo9 : lo ≤ w9.heap.size := H9.out.un.ps.base.2)
        | (refine step_append_lies _ rfl (.tmp 76) (.tmp 86) 26 rfl lo 3 iI (.int .i64 0) 1 8 Tryz.underlying26 hiI hzI hsI hbI rfl (by decide) _ _ _ rfl hrow ⟨w9.heap.size, 0, none⟩ 1 1 [.int .i64 (ivC : Int)] rfl rfl (World.news_of_block hblk) (by intro u hu; simp at hu; subst hu; rfl) (by decide) (by unfold maxLen; omega) (by omega) (by simp; omega) _ rfl ?_; intro g2 cap2 w5 hown hgrow hat hlt; have hE5 := H9.out.ue.loc.lc (grown_lc (Y := ownB (.slice adA nA cpA)) hgrow (fun g e => mem_ownB.2 e)) HEAiC.out; have c52 := hE5.blk.cell 2; have f52 := hE5.blk.frozen 2))
       all_goals exact AFTERiC w9 w5 g2 cap2 ⟨m9, H9.out, hown, hgrow, hat⟩
      case lateriC =>
       rintro w9 w5 gaiC caiC ⟨m9iC, h9, hown, hgrow, hat⟩
       have HSAiC := Lib.hid (h9.push HNA.out hown hgrow hat).1
       have HNAiC : Hid ((args ++ [ivC]).length = nA + 1) := Lib.hid (by rw [List.length_append, HNA.out]; rfl)
       clear h9 hown hgrow hat
       obtain ⟨waiC, hwaiC⟩ : ∃ w6, w5.setCell ⟨E, 2, none⟩ (.slice (some ⟨gaiC, 0, none⟩) (nA + 1) caiC) = w6 := ⟨_, rfl⟩
       rw [hwaiC] at HSAiC ⊢
       clear hwaiC
       obtain ⟨naiC, hnaiC⟩ : ∃ q, nA + 1 = q := ⟨_, rfl⟩
       rw [hnaiC] at HSAiC HNAiC
       have hnabiC : naiC ≤ nA + 1 := Nat.le_of_eq hnaiC.symm
       clear hnaiC

       have HRZ : Hid (partsM nx g' (xr.extract q xr.size).data.toList (a + q) (args ++ [ivC]) (keys ++ [(⟨#[101]⟩ : ByteArray)]) siC = Q) := Lib.hid (by rw [rest_extract]; exact HRNC.out)
       have HTZ : Hid (TextC (xr.extract q xr.size).data.toList) := Lib.hid (by rw [rest_extract]; exact HTQ.out)
       have HXZ : Hid ((xr.extract q xr.size).size + q = xr.size ∧ b + 3 ≤ q ∧ pot siC ≤ pot s' + 0 + (q - b)) := Lib.hid ⟨by have := HQS.out; rw [ByteArray.size_extract]; omega, HBQ.out, by have h1 := HPIC.out; have h2 : ((xr.data.toList.take q).drop b).length ≤ q - b := (by simp; omega); omega⟩
       have HQL : Hid (q ≤ xr.size) := Lib.hid (by have := HQS.out; omega)
       have j5 : (q : Int) ≤ (xr.size : Int) := by have := HQS.out; omega
       have hql := HQL.out
       go_wp2_with fail
       go_roundg g'
       case measure => omega
       case rel => exact ⟨xr.extract q xr.size, a + q, args ++ [ivC], keys ++ [(⟨#[101]⟩ : ByteArray)], siC, m9iC, some ⟨gaiC, 0, none⟩, naiC, caiC, some ⟨gkiC, 0, none⟩, nkiC, ckiC, by rfl, by push_cast; rfl, HSAiC, HNAiC, HNKiC, HTZ, HRZ, by have := HXZ.out; omega, by have := HXZ.out; omega, by have := HXZ.out; omega, by have := HXZ.out; omega, by have := HXZ.out; omega⟩
    ·have HCUT : Hid ((xr.extract b q).size = q - b ∧ ((xr.data.toList.take q).drop b).length = q - b ∧ b + 3 ≤ q ∧ q ≤ xr.size ∧ xr.size ≤ 65536 ∧ pot s' + xr.size ≤ 1000000000 ∧ a + xr.size + 100000 * d ≤ 3065537 ∧ pot (addText s' (bA w2) a) = pot s' + 1 ∧ 1 ≤ b) := Lib.hid ⟨hcs, hcl, hbq, hqs, by omega, hpot, hpa2, hpt2, by omega⟩
     have HRB := Lib.hid (parts_both HNE.out hi (by omega) (by omega) hy' HRL.out)
     have j1 : (0 : Int) < (b : Int) := by omega
     have hpotT : pot s' + 1 ≤ 1000000000 := by omega
     clear hne hx0 hls hi hy' hbe hqe hxl hrq htb hcs hcl hpt2 hx1 hz1 hw2 hb1 HINB HSY hbq hqs
     go_wp2_with fail
     go_at_call 71; refine (HIN2.out _).mono ?_
     rintro e w8 ⟨rfl, hb8⟩
     have HS8 := Lib.hid (HS5.out.below hb8)
     clear hb8
     have HEKtB : Hid (E ∉ ownB (.slice adK nK cpK)) := Lib.hid (fun e => (HS8.out.ue.foot E (List.mem_append.2 (.inr e))).2.2.2.1 rfl)
     have k3tB := HS8.out.ue.loc.blk.cell 3
     have hrowktB := (HNK.out ▸ HS8.out.ue.ok.keys : w8.ownsRow lo 9 1 (.slice adK nK cpK) nK (keys.map Value.string)).alloc (.cells #[.string ⟨#[116]⟩] 9)
     have hblkktB := World.alloc_heap_new w8 (.cells #[.string ⟨#[116]⟩] 9)
     have hloktB : lo ≤ w8.heap.size := HS8.out.un.ps.base.2
     go_wp2_with (at_builtin; refine wpList_append_lies _ rfl (.tmp 50) (.tmp 51) 36 rfl lo 9 iS (.string ⟨#[]⟩) 1 16 Tryz.underlying36 hiS hzS hsS hbS rfl (by decide) _ _ _ rfl hrowktB ⟨w8.heap.size, 0, none⟩ 1 1 [.string ⟨#[116]⟩] rfl rfl (World.news_of_block hblkktB) (by intro u hu; simp at hu; subst hu; rfl) (by decide) (by unfold maxLen; omega) (by omega) (by simp; omega) _ rfl ?_; intro gktB cktB wk5 hownk hgrowk hatk hltk; have hEk5 := HS8.out.ue.loc.lc (grown_lc (Y := ownB (.slice adK nK cpK)) hgrowk (fun g e => mem_ownB.2 e)) HEKtB.out; have ck53 := hEk5.blk.cell 3; have fk53 := hEk5.blk.frozen 3)
     have HSKtB := Lib.hid (HS8.out.pushKey (t := ⟨#[116]⟩) HNK.out hownk hgrowk hatk).1
     have HNKtB : Hid ((keys ++ [(⟨#[116]⟩ : ByteArray)]).length = nK + 1) := Lib.hid (by rw [List.length_append, HNK.out]; rfl)
     clear hownk hgrowk hatk hltk hEk5 ck53 fk53 k3tB hrowktB hblkktB hloktB
     obtain ⟨wktB, hwktB⟩ : ∃ w6, wk5.setCell ⟨E, 3, none⟩ (.slice (some ⟨gktB, 0, none⟩) (nK + 1) cktB) = w6 := ⟨_, rfl⟩
     rw [hwktB] at HSKtB ⊢
     clear hwktB
     obtain ⟨nktB, hnktB⟩ : ∃ q, nK + 1 = q := ⟨_, rfl⟩
     rw [hnktB] at HSKtB HNKtB
     have hnkbtB : nktB ≤ nK + 1 := Nat.le_of_eq hnktB.symm
     clear hnktB
     have HDTB := Lib.hid (HSKtB.out.below (Below.refl _ wktB).drew)
     have a2dB := HSKtB.out.ue.loc.blk.cell 2
     have HEAtB : Hid (E ∉ ownB (.slice adA nA cpA)) := Lib.hid (fun e => (HSKtB.out.ue.foot E (List.mem_append.2 (.inl e))).2.2.2.1 rfl)
     refine have AFTERtB : (∀ (w9 w5 : World) (g2 cap2 : Nat), (∃ m9, UnS W w9 P F T lo dp d m [] (addText s' (bA w2) a) m9 W.heap.size E ⟨⟨6, ⟨#[]⟩, args, (keys ++ [(⟨#[116]⟩ : ByteArray)]), a0⟩, .slice adA nA cpA, (.slice (some ⟨gktB, 0, none⟩) nktB cktB)⟩ ∧ w5.ownsRow lo 3 1 (.slice (some ⟨g2, 0, none⟩) (nA + 1) cap2) (nA + 1) (intsV args ++ [.int .i64 ((s').f.exprs.length : Int)]) ∧ (w9.alloc (.cells #[.int .i64 ((s').f.exprs.length : Int)] 3)).grownBy w5 (Value.slice adA nA cpA).ownBlock ∧ ((Value.slice adA nA cpA).ownBlock = some g2 ∨ g2 = (w9.alloc (.cells #[.int .i64 ((s').f.exprs.length : Int)] 3)).heap.size)) → (?GtB : World → World → Nat → Nat → Prop) w9 w5 g2 cap2) := ?latertB; ?maintB
     case maintB =>
      go_region_law (first
       | (go_simp; go_at_call 72; refine (HSD.out _).mono ?_; rintro e w4 ⟨rfl, hb4⟩; have H4 := Lib.hid (HDTB.out.below hb4); have a4 := H4.out.ue.loc.blk.cell 2; have HAD := Lib.hid (H4.out.un.addMid (bA w2) a hpotT))
       | (go_simp; go_at_call 105; refine HAD.out.mono ?_; rintro e w9 ⟨rfl, m9, hs9⟩; have H9 := Lib.hid (H4.out.step hs9); have a9 := H9.out.ue.loc.blk.cell 2; have a9a := (H9.out.ue.loc.blk.alloc (.cells #[.int .i64 ((s').f.exprs.length : Int)] 3)).cell 2; have hrow := (HNA.out ▸ H9.out.ue.ok.args : w9.ownsRow lo 3 1 (.slice adA nA cpA) nA (intsV args)).alloc (.cells #[.int .i64 ((s').f.exprs.length : Int)] 3); have hblk := World.alloc_heap_new w9 (.cells #[.int .i64 ((s').f.exprs.length : Int)] 3); have hlo9 : lo ≤ w9.heap.size := H9.out.un.ps.base.2)
       | (refine step_append_lies _ rfl (.tmp 55) (.tmp 64) 26 rfl lo 3 iI (.int .i64 0) 1 8 Tryz.underlying26 hiI hzI hsI hbI rfl (by decide) _ _ _ rfl hrow ⟨w9.heap.size, 0, none⟩ 1 1 [.int .i64 ((s').f.exprs.length : Int)] rfl rfl (World.news_of_block hblk) (by intro u hu; simp at hu; subst hu; rfl) (by decide) (by unfold maxLen; omega) (by omega) (by simp; omega) _ rfl ?_; intro g2 cap2 w5 hown hgrow hat hlt; have hE5 := H9.out.ue.loc.lc (grown_lc (Y := ownB (.slice adA nA cpA)) hgrow (fun g e => mem_ownB.2 e)) HEAtB.out; have c52 := hE5.blk.cell 2; have f52 := hE5.blk.frozen 2))
      all_goals exact AFTERtB w9 w5 g2 cap2 ⟨m9, H9.out, hown, hgrow, hat⟩
     case latertB =>
      rintro w9 w5 gatB catB ⟨m9tB, h9, hown, hgrow, hat⟩
      have HSAtB := Lib.hid (h9.push HNA.out hown hgrow hat).1
      have HNAtB : Hid ((args ++ [(s').f.exprs.length]).length = nA + 1) := Lib.hid (by rw [List.length_append, HNA.out]; rfl)
      clear h9 hown hgrow hat
      obtain ⟨watB, hwatB⟩ : ∃ w6, w5.setCell ⟨E, 2, none⟩ (.slice (some ⟨gatB, 0, none⟩) (nA + 1) catB) = w6 := ⟨_, rfl⟩
      rw [hwatB] at HSAtB ⊢
      clear hwatB
      obtain ⟨natB, hnatB⟩ : ∃ q, nA + 1 = q := ⟨_, rfl⟩
      rw [hnatB] at HSAtB HNAtB
      have hnabtB : natB ≤ nA + 1 := Nat.le_of_eq hnatB.symm
      clear hnatB

      have HEKiB : Hid (E ∉ ownB (.slice (some ⟨gktB, 0, none⟩) nktB cktB)) := Lib.hid (fun e => (HSAtB.out.ue.foot E (List.mem_append.2 (.inr e))).2.2.2.1 rfl)
      have k3iB := HSAtB.out.ue.loc.blk.cell 3
      have hrowkiB := (HNKtB.out ▸ HSAtB.out.ue.ok.keys : watB.ownsRow lo 9 1 (.slice (some ⟨gktB, 0, none⟩) nktB cktB) nktB ((keys ++ [(⟨#[116]⟩ : ByteArray)]).map Value.string)).alloc (.cells #[.string ⟨#[101]⟩] 9)
      have hblkkiB := World.alloc_heap_new watB (.cells #[.string ⟨#[101]⟩] 9)
      have hlokiB : lo ≤ watB.heap.size := HSAtB.out.un.ps.base.2
      go_wp2_with (at_builtin; refine wpList_append_lies _ rfl (.tmp 71) (.tmp 72) 36 rfl lo 9 iS (.string ⟨#[]⟩) 1 16 Tryz.underlying36 hiS hzS hsS hbS rfl (by decide) _ _ _ rfl hrowkiB ⟨watB.heap.size, 0, none⟩ 1 1 [.string ⟨#[101]⟩] rfl rfl (World.news_of_block hblkkiB) (by intro u hu; simp at hu; subst hu; rfl) (by decide) (by unfold maxLen; omega) (by omega) (by simp; omega) _ rfl ?_; intro gkiB ckiB wk5 hownk hgrowk hatk hltk; have hEk5 := HSAtB.out.ue.loc.lc (grown_lc (Y := ownB (.slice (some ⟨gktB, 0, none⟩) nktB cktB)) hgrowk (fun g e => mem_ownB.2 e)) HEKiB.out; have ck53 := hEk5.blk.cell 3; have fk53 := hEk5.blk.frozen 3)
      have HSKiB := Lib.hid (HSAtB.out.pushKey (t := ⟨#[101]⟩) HNKtB.out hownk hgrowk hatk).1
      have HNKiB : Hid (((keys ++ [(⟨#[116]⟩ : ByteArray)]) ++ [(⟨#[101]⟩ : ByteArray)]).length = nktB + 1) := Lib.hid (by rw [List.length_append, HNKtB.out]; rfl)
      clear hownk hgrowk hatk hltk hEk5 ck53 fk53 k3iB hrowkiB hblkkiB hlokiB
      obtain ⟨wkiB, hwkiB⟩ : ∃ w6, wk5.setCell ⟨E, 3, none⟩ (.slice (some ⟨gkiB, 0, none⟩) (nktB + 1) ckiB) = w6 := ⟨_, rfl⟩
      rw [hwkiB] at HSKiB ⊢
      clear hwkiB
      obtain ⟨nkiB, hnkiB⟩ : ∃ q, nktB + 1 = q := ⟨_, rfl⟩
      rw [hnkiB] at HSKiB HNKiB
      have hnkbiB : nkiB ≤ nktB + 1 := Nat.le_of_eq hnkiB.symm
      clear hnkiB
      have HDIB := Lib.hid (HSKiB.out.below (Below.refl _ wkiB).drew)
      have a2iB := HSKiB.out.ue.loc.blk.cell 2
      have hic0B := fun (e : Ending) (w' : World) => HDIB.out.un.pend (e := e) (w' := w') (r := insertedM nx ((xr.data.toList.take q).drop b) (a + b) (addText s' (bA w2) a)) (fun iv s2 hm => (HDIB.out.un.fit.ins (insE_res HSUB.out.ok) hm (by have := HCUT.out; omega)).1)
      have hicB : Calls Tryz.prog 169 #[.pointer (some ⟨P, 0, none⟩), .string (xr.extract b q), .int .i64 ((a : Int) + (b : Int))] wkiB.drew (Stp W wkiB.drew P F T lo dp d m [] m9tB natV (insertedM nx ((xr.data.toList.take q).drop b) (a + b) (addText s' (bA w2) a))) := (HINS.out _ _ _ HDIB.out.un.ps HDIB.out.un.env (by have := HCUT.out; omega)).mono (fun e w' hk => hic0B e w' hk)
      cases hmB : insertedM nx ((xr.data.toList.take q).drop b) (a + b) (addText s' (bA w2) a) with
      | error bd =>
       rw [hmB] at hicB
       have HICB := Lib.hid hicB
       have HREB := Lib.hid (bind_err hmB HRB.out)
       clear hicB hic0B hmB
       refine wp_region_held_drew (S := fun w' => w'.cell? ⟨E, 2, none⟩ = some (.slice (some ⟨gatB, 0, none⟩) natB catB)) (by kernel_rfl) a2iB (fun hHeld => ?_)
       refine wpAnyH_take (i := 0) (oi := _) (v := ?qiB_v0) rfl (by kernel_rfl) (by kernel_rfl) (by kernel_rfl) (fun _ _ _ h => h) (Or.inl ⟨by rfl, ?qiB_y0⟩) (by assumption) ?qiB_r0
       case qiB_y0 => (intro w hSw; (try dsimp only at hSw); go_simp; (try with_reducible rfl))
       try simp only [Act.put, List.setIfInBounds_toArray, List.set_cons_zero, List.set_cons_succ]
       refine wpAnyH_take (i := 1) (oi := _) (v := ?qiB_v1) rfl (by kernel_rfl) (by kernel_rfl) (by kernel_rfl) (fun _ _ _ h => h) (Or.inl ⟨by rfl, ?qiB_y1⟩) (by assumption) ?qiB_r1
       case qiB_y1 => (intro w hSw; (try dsimp only at hSw); go_simp; (try with_reducible rfl))
       try simp only [Act.put, List.setIfInBounds_toArray, List.set_cons_zero, List.set_cons_succ]
       refine wpAnyH_take (i := 2) (oi := _) (v := ?qiB_v2) rfl (by kernel_rfl) (by kernel_rfl) (by kernel_rfl) (fun _ _ _ h => h) (Or.inl ⟨by rfl, ?qiB_y2⟩) (by assumption) ?qiB_r2
       case qiB_y2 => (intro w hSw; (try dsimp only at hSw); go_simp; (try with_reducible rfl))
       try simp only [Act.put, List.setIfInBounds_toArray, List.set_cons_zero, List.set_cons_succ]
       refine wpAnyH_take (i := 3) (oi := _) (v := ?qiB_v3) rfl (by kernel_rfl) (by kernel_rfl) (by kernel_rfl) (fun _ _ _ h => h) (Or.inl ⟨by rfl, ?qiB_y3⟩) (by assumption) ?qiB_r3
       case qiB_y3 => (intro w hSw; (try dsimp only at hSw); go_simp; (try with_reducible rfl))
       try simp only [Act.put, List.setIfInBounds_toArray, List.set_cons_zero, List.set_cons_succ]
       refine wpAnyH_take (i := 4) (oi := _) (v := ?qiB_v4) rfl (by kernel_rfl) (by kernel_rfl) (by kernel_rfl) (fun _ _ _ h => h) (Or.inl ⟨by rfl, ?qiB_y4⟩) (by assumption) ?qiB_r4
       case qiB_y4 => (intro w hSw; (try dsimp only at hSw); go_simp; (try with_reducible rfl))
       try simp only [Act.put, List.setIfInBounds_toArray, List.set_cons_zero, List.set_cons_succ]
       refine wpAnyH_take (i := 5) (oi := _) (v := ?qiB_v5) rfl (by kernel_rfl) (by kernel_rfl) (by kernel_rfl) (fun _ _ _ h => h) (Or.inl ⟨by rfl, ?qiB_y5⟩) (by assumption) ?qiB_r5
       case qiB_y5 => (intro w hSw; (try dsimp only at hSw); go_simp; (try with_reducible rfl))
       try simp only [Act.put, List.setIfInBounds_toArray, List.set_cons_zero, List.set_cons_succ]
       refine wpAnyH_take (i := 6) (oi := _) (v := ?qiB_v6) rfl (by kernel_rfl) (by kernel_rfl) (by kernel_rfl) (fun _ _ _ h => h) (Or.inl ⟨by rfl, ?qiB_y6⟩) (by assumption) ?qiB_r6
       case qiB_y6 => (intro w hSw; (try dsimp only at hSw); go_simp; (try with_reducible rfl))
       try simp only [Act.put, List.setIfInBounds_toArray, List.set_cons_zero, List.set_cons_succ]
       refine wpAnyH_take (i := 7) (oi := _) (v := ?qiB_v7) rfl (by kernel_rfl) (by kernel_rfl) (by kernel_rfl) (fun _ _ _ h => h) (Or.inl ⟨by rfl, ?qiB_y7⟩) (by assumption) ?qiB_r7
       case qiB_y7 => (intro w hSw; (try dsimp only at hSw); go_simp; (try with_reducible rfl))
       try simp only [Act.put, List.setIfInBounds_toArray, List.set_cons_zero, List.set_cons_succ]
       refine wpAnyH_take (i := 8) (oi := _) (v := ?qiB_v8) rfl (by kernel_rfl) (by kernel_rfl) (by kernel_rfl) (fun _ _ _ h => h) (Or.inl ⟨by rfl, ?qiB_y8⟩) (by assumption) ?qiB_r8
       case qiB_y8 => (intro w hSw; (try dsimp only at hSw); go_simp; (try with_reducible rfl))
       try simp only [Act.put, List.setIfInBounds_toArray, List.set_cons_zero, List.set_cons_succ]
       refine wpAnyH_take (i := 9) (oi := _) (v := ?qiB_v9) rfl (by kernel_rfl) (by kernel_rfl) (by kernel_rfl) (fun _ _ _ h => h) (Or.inl ⟨by rfl, ?qiB_y9⟩) (by assumption) ?qiB_r9
       case qiB_y9 => (intro w hSw; (try dsimp only at hSw); go_simp; (try with_reducible rfl))
       try simp only [Act.put, List.setIfInBounds_toArray, List.set_cons_zero, List.set_cons_succ]
       refine wpAnyH_ready (rs := [10]) (by kernel_rfl) (by simp) ?_
       refine AllReadyH.cons (o := _) rfl (fun K hK => ?_) AllReadyH.nil
       go_simp
       go_at_call 169; refine HICB.out.mono ?_; rintro e w4 ⟨D, rfl, hk⟩
       refine ⟨rfl, ?_⟩
       rw [← HRQ.out, HREB.out]
       exact Bad.p ⟨D, rfl, hk⟩
      | ok yiB =>
       obtain ⟨ivB, siB⟩ := yiB
       rw [hmB] at hicB
       have HICB := Lib.hid hicB
       have HRNB := Lib.hid (bind_ok hmB HRB.out)
       have hpiB := (HDIB.out.un.fit.ins (insE_res HSUB.out.ok) hmB (by have := HCUT.out; omega)).2
       have HPIB : Hid (pot siB ≤ pot (addText s' (bA w2) a) + ((xr.data.toList.take q).drop b).length) := Lib.hid hpiB
       clear hicB hic0B hmB hpiB
       have HEAiB : Hid (E ∉ ownB (.slice (some ⟨gatB, 0, none⟩) natB catB)) := Lib.hid (fun e => (HSKiB.out.ue.foot E (List.mem_append.2 (.inl e))).2.2.2.1 rfl)
       refine have AFTERiB : (∀ (w9 w5 : World) (g2 cap2 : Nat), (∃ m9, UnS W w9 P F T lo dp d m [] siB m9 W.heap.size E ⟨⟨6, ⟨#[]⟩, (args ++ [(s').f.exprs.length]), ((keys ++ [(⟨#[116]⟩ : ByteArray)]) ++ [(⟨#[101]⟩ : ByteArray)]), a0⟩, .slice (some ⟨gatB, 0, none⟩) natB catB, (.slice (some ⟨gkiB, 0, none⟩) nkiB ckiB)⟩ ∧ w5.ownsRow lo 3 1 (.slice (some ⟨g2, 0, none⟩) (natB + 1) cap2) (natB + 1) (intsV (args ++ [(s').f.exprs.length]) ++ [.int .i64 (ivB : Int)]) ∧ (w9.alloc (.cells #[.int .i64 (ivB : Int)] 3)).grownBy w5 (Value.slice (some ⟨gatB, 0, none⟩) natB catB).ownBlock ∧ ((Value.slice (some ⟨gatB, 0, none⟩) natB catB).ownBlock = some g2 ∨ g2 = (w9.alloc (.cells #[.int .i64 (ivB : Int)] 3)).heap.size)) → (?GiB : World → World → Nat → Nat → Prop) w9 w5 g2 cap2) := ?lateriB; ?mainiB
       case mainiB =>
        go_region_law (first
         | (go_simp; go_at_call 169; refine HICB.out.mono ?_; rintro e w9 ⟨rfl, m9, hs9⟩; have hnv : natV ivB = .int .i64 (ivB : Int) := rfl; have H9 := Lib.hid (HDIB.out.step hs9); have a9 := H9.out.ue.loc.blk.cell 2; have a9a := (H9.out.ue.loc.blk.alloc (.cells #[.int .i64 (ivB : Int)] 3)).cell 2; have hrow := (HNAtB.out ▸ H9.out.ue.ok.args : w9.ownsRow lo 3 1 (.slice (some ⟨gatB, 0, none⟩) natB catB) natB (intsV (args ++ [(s').f.exprs.length]))).alloc (.cells #[.int .i64 (ivB : Int)] 3); have hblk := World.alloc_heap_new w9 (.cells #[.int .i64 (ivB : Int)] 3); have hlo9 : lo ≤ w9.heap.size := H9.out.un.ps.base.2)
         | (refine step_append_lies _ rfl (.tmp 76) (.tmp 86) 26 rfl lo 3 iI (.int .i64 0) 1 8 Tryz.underlying26 hiI hzI hsI hbI rfl (by decide) _ _ _ rfl hrow ⟨w9.heap.size, 0, none⟩ 1 1 [.int .i64 (ivB : Int)] rfl rfl (World.news_of_block hblk) (by intro u hu; simp at hu; subst hu; rfl) (by decide) (by unfold maxLen; omega) (by omega) (by simp; omega) _ rfl ?_; intro g2 cap2 w5 hown hgrow hat hlt; have hE5 := H9.out.ue.loc.lc (grown_lc (Y := ownB (.slice (some ⟨gatB, 0, none⟩) natB catB)) hgrow (fun g e => mem_ownB.2 e)) HEAiB.out; have c52 := hE5.blk.cell 2; have f52 := hE5.blk.frozen 2))
        all_goals exact AFTERiB w9 w5 g2 cap2 ⟨m9, H9.out, hown, hgrow, hat⟩
       case lateriB =>
        rintro w9 w5 gaiB caiB ⟨m9iB, h9, hown, hgrow, hat⟩
        have HSAiB := Lib.hid (h9.push HNAtB.out hown hgrow hat).1
        have HNAiB : Hid (((args ++ [(s').f.exprs.length]) ++ [ivB]).length = natB + 1) := Lib.hid (by rw [List.length_append, HNAtB.out]; rfl)
        clear h9 hown hgrow hat
        obtain ⟨waiB, hwaiB⟩ : ∃ w6, w5.setCell ⟨E, 2, none⟩ (.slice (some ⟨gaiB, 0, none⟩) (natB + 1) caiB) = w6 := ⟨_, rfl⟩
        rw [hwaiB] at HSAiB ⊢
        clear hwaiB
        obtain ⟨naiB, hnaiB⟩ : ∃ q, natB + 1 = q := ⟨_, rfl⟩
        rw [hnaiB] at HSAiB HNAiB
        have hnabiB : naiB ≤ natB + 1 := Nat.le_of_eq hnaiB.symm
        clear hnaiB

        have HRZ : Hid (partsM nx g' (xr.extract q xr.size).data.toList (a + q) (args ++ [(s').f.exprs.length] ++ [ivB]) (keys ++ [(⟨#[116]⟩ : ByteArray)] ++ [(⟨#[101]⟩ : ByteArray)]) siB = Q) := Lib.hid (by rw [rest_extract]; exact HRNB.out)
        have HTZ : Hid (TextC (xr.extract q xr.size).data.toList) := Lib.hid (by rw [rest_extract]; exact HTQ.out)
        have HXZ : Hid ((xr.extract q xr.size).size + q = xr.size ∧ b + 3 ≤ q ∧ pot siB ≤ pot s' + 1 + (q - b)) := Lib.hid ⟨by have := HQS.out; rw [ByteArray.size_extract]; omega, HBQ.out, by have h1 := HPIB.out; have h2 : ((xr.data.toList.take q).drop b).length ≤ q - b := (by simp; omega); have h3 := pot_add s' (bA w2) a; omega⟩
        have HQL : Hid (q ≤ xr.size) := Lib.hid (by have := HQS.out; omega)
        have j5 : (q : Int) ≤ (xr.size : Int) := by have := HQS.out; omega
        have hql := HQL.out
        go_wp2_with fail
        go_roundg g'
        case measure => omega
        case rel => exact ⟨xr.extract q xr.size, a + q, args ++ [(s').f.exprs.length] ++ [ivB], keys ++ [(⟨#[116]⟩ : ByteArray)] ++ [(⟨#[101]⟩ : ByteArray)], siB, m9iB, some ⟨gaiB, 0, none⟩, naiB, caiB, some ⟨gkiB, 0, none⟩, nkiB, ckiB, by rfl, by push_cast; rfl, HSAiB, HNAiB, HNKiB, HTZ, HRZ, by have := HXZ.out; omega, by have := HXZ.out; omega, by have := HXZ.out; omega, by have := HXZ.out; omega, by have := HXZ.out; omega⟩
end
end Go.Proofs.YtljgggohjigaoaaGreatDoor
