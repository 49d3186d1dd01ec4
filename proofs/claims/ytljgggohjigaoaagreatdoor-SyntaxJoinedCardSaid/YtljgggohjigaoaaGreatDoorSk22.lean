/- A name, and a call · An object; what stands in parentheses -/
import Derived.Deep.RegionWith
import Derived.Deep.RegionHeld
import Derived.Test.YtljgggohjigaoaaGreatDoorSk19
import Derived.Test.YtljgggohjigaoaaGreatDoorSk21
namespace Go.Proofs.YtljgggohjigaoaaGreatDoor
open Go.RowKit Go.Shelf
set_option linter.unusedVariables false
set_option linter.unusedSimpArgs false

set_option maxRecDepth 100000 in
set_option maxHeartbeats 4000000 in
theorem named1_any {W : World} {P F T lo dp d N E Bp a : Nat} {s : Ps} {m : FileM} {X : List Nat} {ex : PM Nat} {tx : ByteArray} (hE : Rds P F T lo dp d 75 #[.pointer (some ⟨P, 0, none⟩)] ex) (hD : Dec d 0 ex) (h : UnS W W P F T lo dp d m X s m N E ⟨⟨12, tx, [], [], a⟩, .slice none 0 0, .slice none 0 0⟩) (hB : Loc W P F T m Bp #[.pointer (some ⟨P, 0, none⟩)] 88) (hNB : Bp < N ∧ Bp ≠ E) :
  Calls Tryz.prog 170 #[.pointer (some ⟨Bp, 0, none⟩), .pointer (some ⟨E, 0, none⟩)] W (KEnd W P F T lo dp m X (StE P F T lo N E (fun (r : List Nat) => ⟨12, tx, r, [], a⟩)) (argsM ⟨#[41]⟩ ex (s.toks.length + 1) [] s) (fun _ => .tuple #[])) := by
 have HS := Lib.hid h
 have c0 := hB.blk.cell 0
 have hca := h.un.args ⟨#[41]⟩ hE hD
 obtain ⟨R, hR⟩ : ∃ R, argsM ⟨#[41]⟩ ex (s.toks.length + 1) [] s = R := ⟨_, rfl⟩
 rw [hR] at hca ⊢
 have HCA := Lib.hid hca
 clear h hB hE hD hR hca hNB
 go_enter Tryz.func170, Tryz.ntmps170
 go_wp2_with fail
 go_at_call 171; refine HCA.out.mono ?_
 intro e w3 hk
 cases R with
 | error bd =>
  obtain ⟨D, rfl, hk2⟩ := hk
  exact ⟨rfl, D, rfl, hk2⟩
 | ok y =>
  obtain ⟨l, s3⟩ := y
  obtain ⟨av, m3, rfl, hs3, ho3⟩ := hk
  obtain ⟨ad3, cap3, rfl⟩ := slice_of ho3.row
  have HS3 := Lib.hid (HS.out.step hs3)
  have hsz := HS.out.un.outs.size
  have hEl := HS.out.ue.loc.blk.lt
  have hS4 := HS3.out.setArgs rfl (ho3.mono (by omega)) (fun e => by have := (ho3.out E e).2.2.2; omega)
  have HS4 := Lib.hid hS4
  have g2 := HS3.out.ue.loc.blk.cell 2
  have z2 := HS3.out.ue.loc.blk.frozen 2
  clear hs3 ho3 hS4
  go_wp2_with fail
  first | go_end0 | go_ret
  exact HS4.out.k rfl
section
variable {P F T lo dp d : Nat} {nx : Sub}
set_option maxRecDepth 100000 in
set_option maxHeartbeats 4000000 in
theorem named_any (hs : Subs F lo dp d nx) {W : World} {s : Ps} {m : FileM} (h : PsAt W P F T lo dp s m) (he : Env W P F) (hf : Fit d s) (hk : (next s).k ≠ 0) : Calls Tryz.prog 159 #[.pointer (some ⟨P, 0, none⟩)] W (PEnd W P F T lo dp m natV (namedM nx s)) := by
 have hB1 := Loc.new h #[.pointer (some ⟨P, 0, none⟩)] 88
 have hU1 := (Un.start (X := []) h he hf).alloc (.cells #[.pointer (some ⟨P, 0, none⟩)] 88)
 obtain ⟨W1, hW1⟩ : ∃ W1, W.alloc (.cells #[.pointer (some ⟨P, 0, none⟩)] 88) = W1 := ⟨_, rfl⟩
 have hs1 : W1.heap.size = W.heap.size + 1 := by rw [← hW1]; simp
 rw [hW1] at hB1 hU1
 have h4W := he.ready.1
 obtain ⟨t, ht⟩ : ∃ t, next s = t := ⟨_, rfl⟩
 have HT := Lib.hid ht
 have hTK := hU1.take hk
 rw [ht] at hTK
 have HTK := Lib.hid hTK
 obtain ⟨R, hR⟩ : ∃ R, namedM nx s = R := ⟨_, rfl⟩
 have HR := Lib.hid hR
 rw [hR]
 have HB1 := Lib.hid hB1
 have HSUB := Lib.hid hs
 have HSZ := Lib.hid (And.intro hs1 h4W)
 have b1 := hB1.blk.cell 0
 have hmf : ∀ (fn : Fn) (first cap : Array Value) (w : World), (Instr.makeFunc fn first cap).run Tryz.prog w = .ok (.func fn first cap) w := fun _ _ _ _ => rfl
 clear h he hf hs hk hR hU1 hB1 hs1 h4W ht hTK
 go_enter Tryz.func159, Tryz.ntmps159
 go_wp2_with fail
 go_at_call 53; refine HTK.out.mono ?_
 rintro e w2 ⟨rfl, hs2⟩
 have hB2 := HB1.out.step hs2.outs hs2.later
 have b2 := hB2.blk.cell 0
 have hM3 := Loc.new hs2.un.ps #[.int .i64 t.k, .string t.x, .int .i64 (t.at_ : Int)] 75
 have hU3 := hs2.un.alloc (.cells #[.int .i64 t.k, .string t.x, .int .i64 (t.at_ : Int)] 75)
 have hB3 := hB2.alloc (.cells #[.int .i64 t.k, .string t.x, .int .i64 (t.at_ : Int)] 75)
 have b3 := hB3.blk.cell 0
 have v3 := hM3.blk.cell 2
 have hz2 := hB2.blk.lt
 obtain ⟨W3, hW3⟩ : ∃ W3, w2.alloc (.cells #[.int .i64 t.k, .string t.x, .int .i64 (t.at_ : Int)] 75) = W3 := ⟨_, rfl⟩
 have hs3 : W3.heap.size = w2.heap.size + 1 := by rw [← hW3]; simp
 have hE4 := UnE.new (N := W.heap.size + 1) hU3.ps 0 ⟨#[]⟩ t.at_
 have hU4 := hU3.alloc (.cells #[.int .i64 0, .string ⟨#[]⟩, .slice none 0 0, .slice none 0 0, .int .i64 (t.at_ : Int)] 38)
 have hB4 := hB3.alloc (.cells #[.int .i64 0, .string ⟨#[]⟩, .slice none 0 0, .slice none 0 0, .int .i64 (t.at_ : Int)] 38)
 have hM4 := hM3.alloc (.cells #[.int .i64 0, .string ⟨#[]⟩, .slice none 0 0, .slice none 0 0, .int .i64 (t.at_ : Int)] 38)
 have hsE : (w2.alloc (.cells #[.int .i64 t.k, .string t.x, .int .i64 (t.at_ : Int)] 75)).heap.size = w2.heap.size + 1 := by simp
 obtain ⟨W4, hW4⟩ : ∃ W4, (w2.alloc (.cells #[.int .i64 t.k, .string t.x, .int .i64 (t.at_ : Int)] 75)).alloc (.cells #[.int .i64 0, .string ⟨#[]⟩, .slice none 0 0, .slice none 0 0, .int .i64 (t.at_ : Int)] 38) = W4 := ⟨_, rfl⟩
 have b4 := hB4.blk.cell 0
 rw [hsE] at hE4
 rw [hW4] at hE4 hU4 hB4 hM4
 obtain ⟨E, hEE⟩ : ∃ E, w2.heap.size + 1 = E := ⟨_, rfl⟩
 have hzz := HSZ.out
 have HZ : Hid (W.heap.size < w2.heap.size ∧ w2.heap.size + 1 = E ∧ 4 ≤ W.heap.size) := Lib.hid ⟨hz2, hEE, hzz.2⟩
 rw [hEE] at hE4
 have hS4 := And.intro hU4 hE4
 have HS4 := Lib.hid hS4
 have HB4 := Lib.hid hB4
 have HM4 := Lib.hid hM4
 have HW4 := Lib.hid hW4
 have hfl2 : ∀ w : World, (Instr.field 75 (tkV t) 2).run Tryz.prog w = .ok (.int .i64 (t.at_ : Int)) w := fun _ => rfl
 obtain ⟨b, hb⟩ : ∃ b, isW ⟨#[40]⟩ (next (takeS s)) = b := ⟨_, rfl⟩
 have hIS := hU4.is ⟨#[40]⟩
 rw [hb] at hIS
 have HIS := Lib.hid hIS
 have HBB := Lib.hid hb
 clear hs2 hB2 hM3 hU3 hB3 hs3 hE4 hU4 hB4 hM4 hW4 hS4 hIS hb hzz hz2 hsE hW3
 go_wp2_with fail
 go_at_call 102; rw [HW4.out]; refine HIS.out.mono ?_
 rintro e w5 ⟨rfl, hs5⟩
 have HS5 := Lib.hid (And.intro hs5.un (HS4.out.2.step hs5.outs hs5.later))
 have HB5 := Lib.hid (HB4.out.step hs5.outs hs5.later)
 have HM5 := Lib.hid (HM4.out.step hs5.outs hs5.later)
 have b5 := HB5.out.blk.cell 0
 have n1 := HM5.out.blk.cell 1
 clear hs5
 cases b with
 | true =>
  have s0 := HS5.out.2.loc.blk.cell 0
  have s1 := HS5.out.2.loc.blk.cell 1
  have z0 := HS5.out.2.loc.blk.frozen 0
  have z1 := HS5.out.2.loc.blk.frozen 1
  have n1a := (HM5.out.lc (Lc.set w5 E 0 (.int .i64 12) (Y := [E]) (by simp)) (by simp; have := HZ.out; omega)).blk.cell 1
  go_wp2_with fail
  go_region
  all_goals
   have hfr : Free W P F T [] m E := ⟨HS5.out.2.loc.neP, HS5.out.2.loc.neT, HS5.out.2.loc.out, by have := HZ.out; omega, .inr (by have := HZ.out; omega)⟩
   have HS6 := Lib.hid (And.intro (((HS5.out.1.below (Below.refl _ w5).drew).set hfr 0 (.int .i64 12)).set hfr 1 (.string t.x)) (((HS5.out.2.lc (Lc.of (Below.refl _ w5).drew []) (by simp) (by simp)).setK 12).setX t.x))
   have hd6 := HB5.out.lc (Lc.of (Below.refl _ w5).drew []) (by simp)
   have HB6 := Lib.hid ((hd6.lc (Lc.set w5.drew E 0 (.int .i64 12) (Y := [E]) (by simp)) (by simp; have := HZ.out; omega)).lc (Lc.set _ E 1 (.string t.x) (Y := [E]) (by simp)) (by simp; have := HZ.out; omega))
   obtain ⟨w6, hw6⟩ : ∃ w6, ((w5.setCell ⟨E, 0, none⟩ (.int .i64 12)).setCell ⟨E, 1, none⟩ (.string t.x)).drew = w6 := ⟨_, rfl⟩
   have hw6B : (w5.drew.setCell ⟨E, 0, none⟩ (.int .i64 12)).setCell ⟨E, 1, none⟩ (.string t.x) = w6 := hw6
   have HS6 : Hid (Un W w6 P F T lo dp d m [] (peekS (takeS s)) m ∧ UnE w6 P F T lo (W.heap.size + 1) m E ⟨⟨12, t.x, [], [], t.at_⟩, .slice none 0 0, .slice none 0 0⟩) := by rw [← hw6]; exact HS6
   have HB6 : Hid (Loc w6 P F T m W.heap.size #[.pointer (some ⟨P, 0, none⟩)] 88) := by rw [← hw6]; exact HB6
   have b6 := HB6.out.blk.cell 0
   first | rw [hw6] | rw [hw6B]
   clear hw6 hw6B hd6 hfr
   have hz := HZ.out
   have hGR := grouped_any (α := List Nat) HS6.out.1.ps HSUB.out.left (b := ⟨#[40]⟩) (en := ⟨#[41]⟩) (by decide) (by decide) (enters_of Tryz.func170 (by kernel_rfl) rfl) (lbr := #[.pointer (some ⟨W.heap.size, 0, none⟩), .pointer (some ⟨E, 0, none⟩)]) (X := E :: (⟨⟨12, t.x, [], [], t.at_⟩, .slice none 0 0, .slice none 0 0⟩ : ExM).foot) (by
     intro k hk
     rcases List.mem_cons.1 hk with rfl | hk
     ·exact HS6.out.2.loc.blk.lt
     ·cases hk) (f := fun p s => argsM ⟨#[41]⟩ p.1 (s.toks.length + 1) [] s) (St := StE P F T lo (W.heap.size + 1) E (fun (r : List Nat) => ⟨12, t.x, r, [], t.at_⟩)) StE.aside
    (fun p hp W' s' ha hp' ho ht hff => by
     obtain ⟨d', rfl, hd1, hd2, hr1, hr2⟩ := HSUB.out.sub p hp
     exact named1_any (hr1 P T) hd1 (UnS.enter HS6.out.2 ha hp' HS6.out.1.env (HS6.out.1.fit.take.down.like ht hff) (by omega) (by omega) (by have := HS6.out.1.outs.size; have := HB6.out.blk.lt; omega)) (HB6.out.aside ha) ⟨by omega, by omega⟩)
   have HRB0 : Hid (bindP (betweenM ⟨#[40]⟩ ⟨#[41]⟩ true nx fun p s => argsM ⟨#[41]⟩ p.1 (s.toks.length + 1) [] s) (fun r => addM ⟨12, t.x, r.1, [], t.at_⟩) (peekS (takeS s)) = R) := Lib.hid (by
    rw [← HR.out]
    unfold namedM
    simp only
    rw [HT.out]
    have i1 : isW (wb [40]) (next (takeS s)) = true := HBB.out
    rw [i1, if_pos rfl]
    rfl)
   have hDB : Dec d 1 (betweenM ⟨#[40]⟩ ⟨#[41]⟩ true nx fun p s => argsM ⟨#[41]⟩ p.1 (s.toks.length + 1) [] s) := Dec.between (by decide) (fun p hp => fun s hS => args_dec (HSUB.out.ok.expr p hp) _ _ s hS)
   obtain ⟨RB, hRB⟩ : ∃ RB, betweenM ⟨#[40]⟩ ⟨#[41]⟩ true nx (fun p s => argsM ⟨#[41]⟩ p.1 (s.toks.length + 1) [] s) (peekS (takeS s)) = RB := ⟨_, rfl⟩
   rw [hRB] at hGR
   have HGR := Lib.hid hGR
   have HRB := Lib.hid hRB
   have HDB := Lib.hid hDB
   clear hGR hRB hDB hz
   go_wp2_with fail
   go_at_call 160; refine HGR.out.mono ?_
   intro e w7 hk
   have hXf : ∀ k, k ∈ E :: (⟨⟨12, t.x, [], [], t.at_⟩, .slice none 0 0, .slice none 0 0⟩ : ExM).foot → 4 ≤ k ∧ W.heap.size < k := fun k hk => by
    have hz := HZ.out
    rcases List.mem_cons.1 hk with rfl | hk
    ·omega
    ·cases hk
   cases RB with
   | error bd =>
    obtain ⟨D, rfl, hk2⟩ := HS6.out.1.kbad (fun k hk => .inr (Nat.le_of_lt (hXf k hk).2)) hk
    refine ⟨rfl, ?_⟩
    rw [bind_err HRB.out HRB0.out]
    exact Bad.p ⟨D, rfl, hk2⟩
   | ok y =>
    obtain ⟨⟨r, at_⟩, s7⟩ := y
    have hk4 := HS6.out.1.kend (fun k hk => ⟨(hXf k hk).1, .inr (Nat.le_of_lt (hXf k hk).2)⟩) (HS6.out.1.fit.dec HDB.out (by decide) HRB.out) hk
    obtain ⟨rfl, m7, hU7, hx7, hl7, x7, he7, hE7⟩ := hk4
    have hend : R = addM ⟨12, t.x, r, [], t.at_⟩ s7 := (bind_ok HRB.out HRB0.out).symm
    have HEND := Lib.hid hend
    obtain ⟨⟨k0, t0, l0, kk0, a0⟩, av0, kv0⟩ := x7
    simp only [Ex.mk.injEq] at he7
    obtain ⟨rfl, rfl, rfl, rfl, rfl⟩ := he7
    have hB7 := HB6.out.kstep hx7 hl7 (fun hm => by have := (hXf _ hm).2; omega)
    have b7 := hB7.blk.cell 0
    have q0 := hE7.loc.blk.cell 0
    have q1 := hE7.loc.blk.cell 1
    have q2 := hE7.loc.blk.cell 2
    have q3 := hE7.loc.blk.cell 3
    have q4 := hE7.loc.blk.cell 4
    have HADD := Lib.hid (hU7.addE (hE7.mono (by omega)))
    clear hk hU7 hx7 hl7 hE7 hB7 hend hXf
    go_wp2_with fail
    go_at_call 105; refine HADD.out.mono ?_
    rintro e w9 ⟨rfl, m9, hp9, ho9, hl9⟩
    have hnv : natV s7.f.exprs.length = .int .i64 (s7.f.exprs.length : Int) := rfl
    rw [hnv]
    go_wp2_with fail
    go_ret
    rw [HEND.out]
    exact ⟨rfl, m9, hp9, ho9, hl9⟩
 | false =>
  by_cases hn1 : t.x = ⟨#[110, 117, 108, 108]⟩
  ·have en1 : (t.x.toList == [110, 117, 108, 108]) = true := by rw [hn1]; kernel_rfl
   have HXn1 := Lib.hid hn1
   have HS6 := Lib.hid (And.intro (HS5.out.1.set (B := E) ⟨HS5.out.2.loc.neP, HS5.out.2.loc.neT, HS5.out.2.loc.out, by have := HZ.out; omega, .inr (by have := HZ.out; omega)⟩ 0 (.int .i64 1)) (HS5.out.2.setK 1))
   have HB6 := Lib.hid (HB5.out.lc (Lc.set w5 E 0 (.int .i64 1) (Y := [E]) (by simp)) (by simp; have := HZ.out; omega))
   have b6 := HB6.out.blk.cell 0
   have f0 := HS5.out.2.loc.blk.frozen 0
   have g0 := HS5.out.2.loc.blk.cell 0
   clear hn1
   have q0 := HS6.out.2.loc.blk.cell 0
   have q1 := HS6.out.2.loc.blk.cell 1
   have q2 := HS6.out.2.loc.blk.cell 2
   have q3 := HS6.out.2.loc.blk.cell 3
   have q4 := HS6.out.2.loc.blk.cell 4
   have HADD := Lib.hid (HS6.out.1.addE (HS6.out.2.mono (by omega)))
   have HEND : Hid (R = addM ⟨1, ⟨#[]⟩, [], [], t.at_⟩ (peekS (takeS s))) := Lib.hid (by
     rw [← HR.out]
     unfold namedM
     simp only
     rw [HT.out]
     have i1 : isW (wb [40]) (next (takeS s)) = false := HBB.out
     rw [i1, if_neg (by decide)]
     rw [if_pos (show t.x = wb [110, 117, 108, 108] from HXn1.out)])
   go_wp2_with fail
   go_at_call 105; refine HADD.out.mono ?_
   rintro e w9 ⟨rfl, m9, hp9, ho9, hl9⟩
   have hnv : natV ((peekS (takeS s)) : Ps).f.exprs.length = .int .i64 ((((peekS (takeS s)) : Ps).f.exprs.length : Nat) : Int) := rfl
   rw [hnv]
   go_wp2_with fail
   go_ret
   rw [HEND.out]
   exact ⟨rfl, m9, hp9, ho9, hl9⟩
  ·have en1 : (t.x.toList == [110, 117, 108, 108]) = false := word_no _ _ ⟨#[110, 117, 108, 108]⟩ (by kernel_rfl) hn1
   have HXn1 := Lib.hid hn1
   clear hn1
   by_cases hn2 : t.x = ⟨#[116, 114, 117, 101]⟩
   ·have en2 : (t.x.toList == [116, 114, 117, 101]) = true := by rw [hn2]; kernel_rfl
    have HXn2 := Lib.hid hn2
    have HS6 := Lib.hid (And.intro (HS5.out.1.set (B := E) ⟨HS5.out.2.loc.neP, HS5.out.2.loc.neT, HS5.out.2.loc.out, by have := HZ.out; omega, .inr (by have := HZ.out; omega)⟩ 0 (.int .i64 2)) (HS5.out.2.setK 2))
    have HB6 := Lib.hid (HB5.out.lc (Lc.set w5 E 0 (.int .i64 2) (Y := [E]) (by simp)) (by simp; have := HZ.out; omega))
    have b6 := HB6.out.blk.cell 0
    have f0 := HS5.out.2.loc.blk.frozen 0
    have g0 := HS5.out.2.loc.blk.cell 0
    clear hn2
    have q0 := HS6.out.2.loc.blk.cell 0
    have q1 := HS6.out.2.loc.blk.cell 1
    have q2 := HS6.out.2.loc.blk.cell 2
    have q3 := HS6.out.2.loc.blk.cell 3
    have q4 := HS6.out.2.loc.blk.cell 4
    have HADD := Lib.hid (HS6.out.1.addE (HS6.out.2.mono (by omega)))
    have HEND : Hid (R = addM ⟨2, ⟨#[]⟩, [], [], t.at_⟩ (peekS (takeS s))) := Lib.hid (by
      rw [← HR.out]
      unfold namedM
      simp only
      rw [HT.out]
      have i1 : isW (wb [40]) (next (takeS s)) = false := HBB.out
      rw [i1, if_neg (by decide)]
      rw [if_neg (show ¬ t.x = wb [110, 117, 108, 108] from HXn1.out)]; rw [if_pos (show t.x = wb [116, 114, 117, 101] from HXn2.out)])
    go_wp2_with fail
    go_at_call 105; refine HADD.out.mono ?_
    rintro e w9 ⟨rfl, m9, hp9, ho9, hl9⟩
    have hnv : natV ((peekS (takeS s)) : Ps).f.exprs.length = .int .i64 ((((peekS (takeS s)) : Ps).f.exprs.length : Nat) : Int) := rfl
    rw [hnv]
    go_wp2_with fail
    go_ret
    rw [HEND.out]
    exact ⟨rfl, m9, hp9, ho9, hl9⟩
   ·have en2 : (t.x.toList == [116, 114, 117, 101]) = false := word_no _ _ ⟨#[116, 114, 117, 101]⟩ (by kernel_rfl) hn2
    have HXn2 := Lib.hid hn2
    clear hn2
    by_cases hn3 : t.x = ⟨#[102, 97, 108, 115, 101]⟩
    ·have en3 : (t.x.toList == [102, 97, 108, 115, 101]) = true := by rw [hn3]; kernel_rfl
     have HXn3 := Lib.hid hn3
     have HS6 := Lib.hid (And.intro (HS5.out.1.set (B := E) ⟨HS5.out.2.loc.neP, HS5.out.2.loc.neT, HS5.out.2.loc.out, by have := HZ.out; omega, .inr (by have := HZ.out; omega)⟩ 0 (.int .i64 3)) (HS5.out.2.setK 3))
     have HB6 := Lib.hid (HB5.out.lc (Lc.set w5 E 0 (.int .i64 3) (Y := [E]) (by simp)) (by simp; have := HZ.out; omega))
     have b6 := HB6.out.blk.cell 0
     have f0 := HS5.out.2.loc.blk.frozen 0
     have g0 := HS5.out.2.loc.blk.cell 0
     clear hn3
     have q0 := HS6.out.2.loc.blk.cell 0
     have q1 := HS6.out.2.loc.blk.cell 1
     have q2 := HS6.out.2.loc.blk.cell 2
     have q3 := HS6.out.2.loc.blk.cell 3
     have q4 := HS6.out.2.loc.blk.cell 4
     have HADD := Lib.hid (HS6.out.1.addE (HS6.out.2.mono (by omega)))
     have HEND : Hid (R = addM ⟨3, ⟨#[]⟩, [], [], t.at_⟩ (peekS (takeS s))) := Lib.hid (by
       rw [← HR.out]
       unfold namedM
       simp only
       rw [HT.out]
       have i1 : isW (wb [40]) (next (takeS s)) = false := HBB.out
       rw [i1, if_neg (by decide)]
       rw [if_neg (show ¬ t.x = wb [110, 117, 108, 108] from HXn1.out)]; rw [if_neg (show ¬ t.x = wb [116, 114, 117, 101] from HXn2.out)]; rw [if_pos (show t.x = wb [102, 97, 108, 115, 101] from HXn3.out)])
     go_wp2_with fail
     go_at_call 105; refine HADD.out.mono ?_
     rintro e w9 ⟨rfl, m9, hp9, ho9, hl9⟩
     have hnv : natV ((peekS (takeS s)) : Ps).f.exprs.length = .int .i64 ((((peekS (takeS s)) : Ps).f.exprs.length : Nat) : Int) := rfl
     rw [hnv]
     go_wp2_with fail
     go_ret
     rw [HEND.out]
     exact ⟨rfl, m9, hp9, ho9, hl9⟩
    ·have en3 : (t.x.toList == [102, 97, 108, 115, 101]) = false := word_no _ _ ⟨#[102, 97, 108, 115, 101]⟩ (by kernel_rfl) hn3
     have HXn3 := Lib.hid hn3
     clear hn3
     have s0 := HS5.out.2.loc.blk.cell 0
     have s1 := HS5.out.2.loc.blk.cell 1
     have z0 := HS5.out.2.loc.blk.frozen 0
     have z1 := HS5.out.2.loc.blk.frozen 1
     have n1a := (HM5.out.lc (Lc.set w5 E 0 (.int .i64 9) (Y := [E]) (by simp)) (by simp; have := HZ.out; omega)).blk.cell 1
     go_wp2_with fail
     go_region
     all_goals
      have hfr : Free W P F T [] m E := ⟨HS5.out.2.loc.neP, HS5.out.2.loc.neT, HS5.out.2.loc.out, by have := HZ.out; omega, .inr (by have := HZ.out; omega)⟩
      have HS6 := Lib.hid (And.intro (((HS5.out.1.below (Below.refl _ w5).drew).set hfr 0 (.int .i64 9)).set hfr 1 (.string t.x)) (((HS5.out.2.lc (Lc.of (Below.refl _ w5).drew []) (by simp) (by simp)).setK 9).setX t.x))
      have hd6 := HB5.out.lc (Lc.of (Below.refl _ w5).drew []) (by simp)
      have HB6 := Lib.hid ((hd6.lc (Lc.set w5.drew E 0 (.int .i64 9) (Y := [E]) (by simp)) (by simp; have := HZ.out; omega)).lc (Lc.set _ E 1 (.string t.x) (Y := [E]) (by simp)) (by simp; have := HZ.out; omega))
      obtain ⟨w6, hw6⟩ : ∃ w6, ((w5.setCell ⟨E, 0, none⟩ (.int .i64 9)).setCell ⟨E, 1, none⟩ (.string t.x)).drew = w6 := ⟨_, rfl⟩
      have hw6B : (w5.drew.setCell ⟨E, 0, none⟩ (.int .i64 9)).setCell ⟨E, 1, none⟩ (.string t.x) = w6 := hw6
      have HS6 : Hid (Un W w6 P F T lo dp d m [] (peekS (takeS s)) m ∧ UnE w6 P F T lo (W.heap.size + 1) m E ⟨⟨9, t.x, [], [], t.at_⟩, .slice none 0 0, .slice none 0 0⟩) := by rw [← hw6]; exact HS6
      have HB6 : Hid (Loc w6 P F T m W.heap.size #[.pointer (some ⟨P, 0, none⟩)] 88) := by rw [← hw6]; exact HB6
      have b6 := HB6.out.blk.cell 0
      first | rw [hw6] | rw [hw6B]
      clear hw6 hw6B hd6 hfr
      have q0 := HS6.out.2.loc.blk.cell 0
      have q1 := HS6.out.2.loc.blk.cell 1
      have q2 := HS6.out.2.loc.blk.cell 2
      have q3 := HS6.out.2.loc.blk.cell 3
      have q4 := HS6.out.2.loc.blk.cell 4
      have HADD := Lib.hid (HS6.out.1.addE (HS6.out.2.mono (by omega)))
      have HEND : Hid (R = addM ⟨9, t.x, [], [], t.at_⟩ (peekS (takeS s))) := Lib.hid (by
       rw [← HR.out]
       unfold namedM
       simp only
       rw [HT.out]
       have i1 : isW (wb [40]) (next (takeS s)) = false := HBB.out
       rw [i1, if_neg (by decide)]
       rw [if_neg (show ¬ t.x = wb [110, 117, 108, 108] from HXn1.out)]; rw [if_neg (show ¬ t.x = wb [116, 114, 117, 101] from HXn2.out)]; rw [if_neg (show ¬ t.x = wb [102, 97, 108, 115, 101] from HXn3.out)])
      go_wp2_with fail
      go_at_call 105; refine HADD.out.mono ?_
      rintro e w9 ⟨rfl, m9, hp9, ho9, hl9⟩
      have hnv : natV ((peekS (takeS s)) : Ps).f.exprs.length = .int .i64 ((((peekS (takeS s)) : Ps).f.exprs.length : Nat) : Int) := rfl
      rw [hnv]
      go_wp2_with fail
      go_ret
      rw [HEND.out]
      exact ⟨rfl, m9, hp9, ho9, hl9⟩
end
end Go.Proofs.YtljgggohjigaoaaGreatDoor
namespace Go.Proofs.YtljgggohjigaoaaGreatDoor
open Go.RowKit Go.Shelf
set_option linter.unusedVariables false

theorem objE_dec {d : Nat} {ex : PM Nat} (hD : Dec d 0 ex) : Dec d 0 (objE ex) := (Dec.bind (e := 0) Dec.lines fun _ s hS => obj_dec hD _ _ _ s hS).mono (by omega)
/-- What the function value of parentheses says of its variable. -/
def StN (P F T : Nat) (B : Nat) : Nat → FileM → World → Prop := fun i m w => Loc w P F T m B #[.int .i64 (i : Int)] 3
theorem StN.aside {P F T B : Nat} : ∀ (a : Nat) (m : FileM) (w w' : World), StN P F T B a m w → Aside P w w' → StN P F T B a m w' := fun a m w w' h ha => Loc.step h (Outs.aside ha) (Later.refl _ _ _)
set_option maxRecDepth 100000 in
set_option maxHeartbeats 4000000 in
theorem atom1_any {W : World} {P F T lo dp d Bp O : Nat} {s : Ps} {m : FileM} {ex : PM Nat} (hE : Rds P F T lo dp d 75 #[.pointer (some ⟨P, 0, none⟩)] ex) (hD : Dec d 0 ex) (h : Un W W P F T lo dp d m [O] s m) (hO : Loc W P F T m O #[.int .i64 0] 3) (hB : Loc W P F T m Bp #[.pointer (some ⟨P, 0, none⟩)] 88) (hO4 : 4 ≤ O) :
  Calls Tryz.prog 161 #[.pointer (some ⟨Bp, 0, none⟩), .pointer (some ⟨O, 0, none⟩)] W (KEnd W P F T lo dp m [O] (StN P F T O) (ex s) (fun _ => .tuple #[])) := by
 have HU := Lib.hid h
 have HO := Lib.hid hO
 have c0 := hB.blk.cell 0
 have hrd := h.reads hE hD
 obtain ⟨R, hR⟩ : ∃ R, ex s = R := ⟨_, rfl⟩
 rw [hR] at hrd ⊢
 have HRD := Lib.hid hrd
 clear h hO hB hE hD hR hrd
 go_enter Tryz.func161, Tryz.ntmps161
 go_wp2_with fail
 go_at_call 75; refine HRD.out.mono ?_
 intro e w3 hk
 cases R with
 | error bd =>
  obtain ⟨D, rfl, hk2⟩ := hk
  exact ⟨rfl, D, rfl, hk2⟩
 | ok y =>
  obtain ⟨i, s3⟩ := y
  obtain ⟨rfl, m3, hs3⟩ := hk
  have hnv : natV i = .int .i64 (i : Int) := rfl
  rw [hnv]
  have hO3 := HO.out.step hs3.outs hs3.later
  have g0 := hO3.blk.cell 0
  have z0 := hO3.blk.frozen 0
  have hU4 := hs3.un.set (B := O) ⟨hO3.neP, hO3.neT, hO3.out, hO4, .inl (by simp)⟩ 0 (.int .i64 (i : Int))
  have hO4' : Loc (w3.setCell ⟨O, 0, none⟩ (.int .i64 (i : Int))) P F T m3 O #[.int .i64 (i : Int)] 3 := hO3.put 0 (.int .i64 (i : Int))
  have H4 := Lib.hid (And.intro hU4 hO4')
  clear hs3 hO3 hU4 hO4'
  go_wp2_with fail
  first | go_end0 | go_ret
  exact H4.out.1.k H4.out.2
section
variable {P F T lo dp d : Nat} {nx : Sub}
set_option maxRecDepth 100000 in
set_option maxHeartbeats 4000000 in
theorem object_any (hs : Subs F lo dp d nx) : Rds P F T lo dp d 163 #[.pointer (some ⟨P, 0, none⟩)] (objectM nx) := by
 intro W s m h he hf
 have hB1 := Loc.new h #[.pointer (some ⟨P, 0, none⟩)] 88
 have hU1 := (Un.start (X := []) h he hf).alloc (.cells #[.pointer (some ⟨P, 0, none⟩)] 88)
 obtain ⟨W1, hW1⟩ : ∃ W1, W.alloc (.cells #[.pointer (some ⟨P, 0, none⟩)] 88) = W1 := ⟨_, rfl⟩
 have hs1 : W1.heap.size = W.heap.size + 1 := by rw [← hW1]; simp
 rw [hW1] at hB1 hU1
 have hE3 := UnE.new (N := W.heap.size + 1) hU1.ps 8 ⟨#[]⟩ 0
 have hU3 := hU1.alloc (.cells #[.int .i64 8, .string ⟨#[]⟩, .slice none 0 0, .slice none 0 0, .int .i64 0] 38)
 have hB3 := hB1.alloc (.cells #[.int .i64 8, .string ⟨#[]⟩, .slice none 0 0, .slice none 0 0, .int .i64 0] 38)
 have b3a := hB3.blk.cell 0
 obtain ⟨W3, hW3⟩ : ∃ W3, W1.alloc (.cells #[.int .i64 8, .string ⟨#[]⟩, .slice none 0 0, .slice none 0 0, .int .i64 0] 38) = W3 := ⟨_, rfl⟩
 have hE3 : UnE W3 P F T lo (W.heap.size + 1) m W1.heap.size (⟨⟨8, ⟨#[]⟩, [], [], 0⟩, .slice none 0 0, .slice none 0 0⟩ : ExM) := by rw [← hW3]; exact hE3
 have hs3 : W3.heap.size = W1.heap.size + 1 := by rw [← hW3]; simp
 rw [hW3] at hU3 hB3
 have h4W := he.ready.1
 have hXf : ∀ k, k ∈ W1.heap.size :: (⟨⟨8, ⟨#[]⟩, [], [], 0⟩, .slice none 0 0, .slice none 0 0⟩ : ExM).foot → 4 ≤ k ∧ W.heap.size < k ∧ k < W3.heap.size := fun k hk => by
  rcases List.mem_cons.1 hk with rfl | hk
  ·omega
  ·cases hk
 have hGR := braced_any (α := List ByteArray × List Nat) hU3.ps hs.left  (enters_of Tryz.func173 (by kernel_rfl) rfl) (lbr := #[.pointer (some ⟨W.heap.size, 0, none⟩), .pointer (some ⟨W1.heap.size, 0, none⟩)]) (X := W1.heap.size :: (⟨⟨8, ⟨#[]⟩, [], [], 0⟩, .slice none 0 0, .slice none 0 0⟩ : ExM).foot) (fun k hk => (hXf k hk).2.2) (f := fun p => objE p.1) (St := StE P F T lo (W.heap.size + 1) W1.heap.size (fun (r : List ByteArray × List Nat) => ⟨8, ⟨#[]⟩, r.2, r.1, 0⟩)) StE.aside
  (fun p hp W' s' ha hp' ho ht hff => by
   obtain ⟨d', rfl, hd1, hd2, hr1, hr2⟩ := hs.sub p hp
   exact object1_any (hr1 P T) hd1 (UnS.enter hE3 ha hp' hU3.env (hf.take.down.like ht hff) (by omega) (by omega) (by omega)) (hB3.aside ha) ⟨by omega, by omega⟩)
 obtain ⟨R, hR⟩ : ∃ R, objectM nx s = R := ⟨_, rfl⟩
 have HR : Hid (bindP (betweenM ⟨#[123]⟩ ⟨#[125]⟩ false nx fun p => objE p.1) (fun r => addM ⟨8, ⟨#[]⟩, r.1.2, r.1.1, r.2⟩) s = R) := Lib.hid hR
 have hDB : Dec d 1 (betweenM ⟨#[123]⟩ ⟨#[125]⟩ false nx fun p => objE p.1) := Dec.between (by decide) (fun p hp => objE_dec (hs.ok.expr p hp))
 rw [hR]
 obtain ⟨RB, hRB⟩ : ∃ RB, betweenM ⟨#[123]⟩ ⟨#[125]⟩ false nx (fun p => objE p.1) s = RB := ⟨_, rfl⟩
 have hGR : Calls Tryz.prog 55 _ W3 (KEnd W3 P F T lo dp m _ _ (betweenM ⟨#[123]⟩ ⟨#[125]⟩ false nx (fun p => objE p.1) s) _) := hGR
 rw [hRB] at hGR
 have HGR := Lib.hid hGR
 have HW3 := Lib.hid hW3
 have HRB := Lib.hid hRB
 have HU3 := Lib.hid hU3
 have HB3 := Lib.hid hB3
 have HE3 := Lib.hid hE3
 have HDB := Lib.hid hDB
 have HXF := Lib.hid hXf
 have HSZ := Lib.hid (And.intro hs1 (And.intro hs3 h4W))
 have b1 := hB1.blk.cell 0
 have b3 := hB3.blk.cell 0
 have hmf : ∀ (fn : Fn) (first cap : Array Value) (w : World), (Instr.makeFunc fn first cap).run Tryz.prog w = .ok (.func fn first cap) w := fun _ _ _ _ => rfl
 clear hW3 h he hf hs hR hGR hRB hU1 hU3 hB1 hB3 hE3 hDB hs1 hs3 h4W hXf
 go_enter Tryz.func163, Tryz.ntmps163
 go_wp2_with fail
 go_at_call 55; rw [HW3.out]; refine HGR.out.mono ?_
 intro e w4 hk
 cases RB with
 | error bd =>
  obtain ⟨D, rfl, hk2⟩ := HU3.out.kbad (fun k hk => .inr (Nat.le_of_lt (HXF.out k hk).2.1)) hk
  refine ⟨rfl, ?_⟩
  rw [bind_err HRB.out HR.out]
  exact Bad.p ⟨D, rfl, hk2⟩
 | ok y =>
  obtain ⟨⟨r, at_⟩, s4⟩ := y
  have hk4 := HU3.out.kend (fun k hk => ⟨(HXF.out k hk).1, .inr (Nat.le_of_lt (HXF.out k hk).2.1)⟩) (HU3.out.fit.dec HDB.out (by decide) HRB.out) hk
  obtain ⟨rfl, m4, hU4, hx4, hl4, x4, he4, hE4⟩ := hk4
  have hR4 := bind_ok HRB.out HR.out
  simp only at hR4 he4
  obtain ⟨⟨k0, t0, l0, kk0, a0⟩, av0, kv0⟩ := x4
  simp only [Ex.mk.injEq] at he4
  obtain ⟨rfl, rfl, rfl, rfl, rfl⟩ := he4
  have hz := HSZ.out
  have hB4 := HB3.out.kstep hx4 hl4 (fun hm => by have := (HXF.out _ hm).2.1; omega)
  have HB4 := Lib.hid hB4
  have hU5 := hU4.set (B := W1.heap.size) ⟨hE4.loc.neP, hE4.loc.neT, hE4.loc.out, by omega, .inr (by omega)⟩ 4 (.int .i64 (at_ : Int))
  have hE5 := hE4.setAt at_
  have hB5 := hB4.lc (Lc.set w4 W1.heap.size 4 (.int .i64 (at_ : Int)) (Y := [W1.heap.size]) (by simp)) (by simp; omega)
  have c4 := hE4.loc.blk.cell 4
  have f4 := hE4.loc.blk.frozen 4
  obtain ⟨W5, hW5⟩ : ∃ W5, w4.setCell ⟨W1.heap.size, 4, none⟩ (.int .i64 (at_ : Int)) = W5 := ⟨_, rfl⟩
  rw [hW5] at hU5 hE5 hB5
  have b5 := hB5.blk.cell 0
  have q0 := hE5.loc.blk.cell 0
  have q1 := hE5.loc.blk.cell 1
  have q2 := hE5.loc.blk.cell 2
  have q3 := hE5.loc.blk.cell 3
  have q4 := hE5.loc.blk.cell 4
  have HADD := Lib.hid (hU5.addE (hE5.mono (by omega)))
  have hend : R = addM ⟨8, ⟨#[]⟩, r.2, r.1, at_⟩ s4 := hR4.symm
  have HEND := Lib.hid hend
  clear hU4 hx4 hl4 hE4 hB4 hU5 hE5 hB5 hR4 hk hend hz
  go_wp2_with fail
  go_at_call 105; refine HADD.out.mono ?_
  rintro e w6 ⟨rfl, m6, hp6, ho6, hl6⟩
  have hnv : natV s4.f.exprs.length = .int .i64 (s4.f.exprs.length : Int) := rfl
  rw [hnv]
  go_wp2_with fail
  go_ret
  rw [HEND.out]
  exact ⟨rfl, m6, hp6, ho6, hl6⟩
end
end Go.Proofs.YtljgggohjigaoaaGreatDoor
