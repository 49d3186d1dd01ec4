/- An object's key · What stands in an object -/
import Derived.Deep.RegionWith
import Derived.Deep.RegionHeld
import Derived.Test.YtljgggohjigaoaaGreatDoorSk20
namespace Go.Proofs.YtljgggohjigaoaaGreatDoor
open Go.RowKit Go.Shelf
set_option linter.unusedVariables false

theorem has_contains (l : List ByteArray) (k : ByteArray) : Lib.containsS l k = hasK l k := by
 rw [Bool.eq_iff_iff, Lib.containsS_iff]
 unfold hasK
 simp
section
variable {W w w' : World} {P F T lo dp d N : Nat} {m m1 m2 : FileM} {X : List Nat} {s s2 : Ps}
theorem contains_row {w : World} {B : Nat} {ad : Option Addr} {n cap : Nat} {keys : List ByteArray} (h : w.ownsRow B 9 1 (.slice ad n cap) n (keys.map Value.string)) (hn : keys.length = n) (hb : n ≤ 2000000000) (k : ByteArray) : Calls Tryz.prog 176 #[.slice ad n cap, .string k] w fun e w' => e = .returned (.bool (hasK keys k)) ∧ w' = w := by
 rcases h.2 with ⟨h1, h2⟩ | ⟨g, cap2, cur, h1, h2⟩
 ·have h0 : keys = [] := List.length_eq_zero_iff.1 (by omega)
  subst h0
  subst h2
  exact Tryz.slices_Contains_string_empty ad cap k w
 ·have h3 : ad = some ⟨g, 0, none⟩ := by injection h1
  subst h3
  have := Tryz.slices_Contains_string g 0 n cap keys k w (by omega) (by omega) (fun j hj => by
   have h4 := World.ownsRow.cells h (g := g) rfl j (.string (keys.getD j ByteArray.empty)) (by simp [hj])
   have e : (⟨g, 0, none⟩ : Addr).add j = ⟨g, 0 + j, none⟩ := by
    cases j with
    | zero => rfl
    | succ j => simp [Addr.add]
   rw [e] at h4
   exact h4)
  rw [show keys.take n = keys by rw [← hn]; exact List.take_length, has_contains] at this
  exact this
def keyF (keys : List ByteArray) (a : Nat) (Q : PR ByteArray) : PR ByteArray := match Q with | .error e => .error e | .ok (k, s') => if hasK keys k then .error (2, a) else .ok (k, s')
theorem key_dec0 {d : Nat} {keys : List ByteArray} : Dec d 0 (keyM keys) := key_dec
set_option maxRecDepth 100000 in
set_option maxHeartbeats 4000000 in
theorem Un.key (h : Un W w P F T lo dp d m X s m1) {ad : Option Addr} {n cap : Nat} {keys : List ByteArray} (hO : OwnL w P F T lo N m1 9 1 (.slice ad n cap) n (keys.map Value.string)) (hn : keys.length = n) (hb : n ≤ 2000000000) : Calls Tryz.prog 174 #[.pointer (some ⟨P, 0, none⟩), .slice ad n cap] w (Stp W w P F T lo dp d m X m1 Value.string (keyM keys s)) := by
 have HU := Lib.hid h
 have HO := Lib.hid hO
 have HN := Lib.hid (And.intro hn hb)
 have HPK := Lib.hid h.peek
 obtain ⟨tk, htk⟩ : ∃ tk, next s = tk := ⟨_, rfl⟩
 rw [htk] at HPK
 have HTK := Lib.hid htk
 obtain ⟨R, hR⟩ : ∃ R, keyM keys s = R := ⟨_, rfl⟩
 obtain ⟨Q, hQ⟩ : ∃ Q : PR ByteArray, (if (next s).k = 3 then plainM (peekS s) else bindP (kindM 1) (fun t s' => .ok (t.x, s')) (peekS s)) = Q := ⟨_, rfl⟩
 have hR2 : keyF keys tk.at_ Q = R := by rw [← hR, ← hQ, ← htk]; rfl
 have HR := Lib.hid hR2
 have HQ := Lib.hid hQ
 have hDD : ∀ k s', R = .ok (k, s') → Fit d s' := fun k s' hm => h.fit.dec (key_dec0 (keys := keys)) (by decide) (hR.trans hm)
 have HDD := Lib.hid hDD
 have HCN := Lib.hid (fun (w' : World) (k : ByteArray) (ho : w'.ownsRow lo 9 1 (.slice ad n cap) n (keys.map Value.string)) => contains_row ho hn hb k)
 have hfl0 : ∀ w : World, (Instr.field 75 (tkV tk) 0).run Tryz.prog w = .ok (.int .i64 tk.k) w := fun _ => rfl
 have hfl2 : ∀ w : World, (Instr.field 75 (tkV tk) 2).run Tryz.prog w = .ok (.int .i64 (tk.at_ : Int)) w := fun _ => rfl
 have HDG := Lib.hid (fun w => diag_any 2 (tk.at_ : Int) w)
 rw [hR]
 clear h hO hn hb htk hR hQ hR2 hDD
 go_enter Tryz.func174, Tryz.ntmps174
 go_wp2_with fail
 go_at_call 52; refine HPK.out.mono ?_
 rintro e w3 ⟨rfl, hs3⟩
 have H3 := Lib.hid hs3
 have hpk2 := hs3.un.peek
 rw [next_peek, peek_peek, HTK.out] at hpk2
 have HPK2 := Lib.hid hpk2
 clear hs3 hpk2
 go_wp2_with fail
 go_at_call 52; refine HPK2.out.mono ?_
 rintro e w4 ⟨rfl, hs4⟩
 have HU4 := Lib.hid hs4.un
 have HO34 := Lib.hid (H3.out.outs.trans H3.out.later hs4.outs)
 have HO4 := Lib.hid ((HO.out.step H3.out.outs H3.out.later).step hs4.outs hs4.later)
 clear hs4
 by_cases h3 : tk.k = 3
 ·have e3 : (tk.k == 3) = true := by rw [h3]; rfl
  have hq2 : plainM (peekS s) = Q := by rw [← HQ.out, HTK.out, if_pos h3]
  have hPL := HU4.out.plain (by rw [next_peek, HTK.out]; exact h3)
  cases hm : plainM (peekS s) with
  | error bd =>
   rw [hm] at hPL
   have HPL := Lib.hid hPL
   have hre : R = .error bd := by
    rw [← HR.out, ← hq2, hm]
    rfl
   have HRE := Lib.hid hre
   clear hPL hm hq2 h3 hre
   go_wp2_with fail
   go_at_call 54; refine HPL.out.mono ?_
   rintro e w5 ⟨D, rfl, hk2⟩
   refine ⟨rfl, ?_⟩
   rw [HRE.out]
   exact ⟨D, rfl, hk2⟩
  | ok y =>
   obtain ⟨k, s'⟩ := y
   rw [hm] at hPL
   have HPL := Lib.hid hPL
   have hq : Q = .ok (k, s') := by
    rw [← hq2, hm]
   have hfl1 : ∀ (t : Tk) (w : World), (Instr.field 75 (tkV t) 1).run Tryz.prog w = .ok (.string t.x) w := fun _ _ => rfl
   have HQE := Lib.hid hq
   clear hPL hm hq2 h3 hq
   go_wp2_with fail
   go_at_call 54; refine HPL.out.mono ?_
   rintro e w5 ⟨rfl, m5, hs5⟩
   skip
   have hq := HQE.out
   have hu5 := hs5.un
   have ho5 := HO34.out.trans (Later.refl _ _ _) hs5.outs
   have hl5 : Later w F m1 m5 := ⟨fun g hg => (hs5.later g hg).imp id (Nat.le_trans HO34.out.size), hs5.later.tv⟩
   have hO5 := HO4.out.step hs5.outs hs5.later
   clear hs5
   have hc := HCN.out w5 k hO5.row
   obtain ⟨b, hb⟩ : ∃ b, hasK keys k = b := ⟨_, rfl⟩
   rw [hb] at hc
   have HC := Lib.hid hc
   have HU5 := Lib.hid (And.intro hu5 (And.intro ho5 hl5))
   have hr : R = if b then .error (2, tk.at_) else .ok (k, s') := by
    rw [← HR.out, hq, ← hb]
    rfl
   have HRE := Lib.hid hr
   clear hq hu5 ho5 hl5 hO5 hc hb hr
   go_wp2_with fail
   go_at_call 176; refine HC.out.mono ?_
   rintro e w6 ⟨rfl, rfl⟩
   cases b with
   | true =>
    go_wp2_with (go_at_call 31; refine (HDG.out _).mono ?_; rintro e w7 ⟨rfl, hd7, hb7⟩)
    refine ⟨rfl, ?_⟩
    rw [HRE.out]
    have hsz := HU5.out.1.outs.size
    exact ⟨_, rfl, hsz, hd7, HU5.out.1.outs.trans HU5.out.1.later (OutsX.of (Aside.of hb7) X)⟩
   | false =>
    go_wp2_with fail
    go_ret
    rw [HRE.out]
    exact ⟨rfl, m5, HU5.out.1, HU5.out.2.1, HU5.out.2.2⟩
 ·have e3 : (tk.k == 3) = false := beq_eq_false_iff_ne.2 h3
  have hq2 : bindP (kindM 1) (fun t s' => .ok (t.x, s')) (peekS s) = Q := by rw [← HQ.out, HTK.out, if_neg h3]
  have hPL := HU4.out.kind (k := 1) (by decide)
  cases hm : kindM 1 (peekS s) with
  | error bd =>
   rw [hm] at hPL
   have HPL := Lib.hid hPL
   have hre : R = .error bd := by
    rw [← HR.out, ← hq2, show bindP (kindM 1) (fun t s' => .ok (t.x, s')) (peekS s) = .error bd from by unfold bindP; rw [hm]]
    rfl
   have HRE := Lib.hid hre
   clear hPL hm hq2 h3 hre
   go_wp2_with fail
   go_at_call 35; refine HPL.out.mono ?_
   rintro e w5 ⟨D, rfl, hk2⟩
   refine ⟨rfl, ?_⟩
   rw [HRE.out]
   exact ⟨D, rfl, hk2⟩
  | ok y =>
   obtain ⟨t, s'⟩ := y
   rw [hm] at hPL
   have HPL := Lib.hid hPL
   have hq : Q = .ok (t.x, s') := by
    rw [← hq2, show bindP (kindM 1) (fun t s' => (.ok (t.x, s') : PR ByteArray)) (peekS s) = .ok (t.x, s') from by unfold bindP; rw [hm]]
   have hfl1 : ∀ (t : Tk) (w : World), (Instr.field 75 (tkV t) 1).run Tryz.prog w = .ok (.string t.x) w := fun _ _ => rfl
   have HQE := Lib.hid hq
   clear hPL hm hq2 h3 hq
   go_wp2_with fail
   go_at_call 35; refine HPL.out.mono ?_
   rintro e w5 ⟨rfl, m5, hs5⟩
   obtain ⟨k, hk0⟩ : ∃ k, t.x = k := ⟨_, rfl⟩; have hfl3 : ∀ w : World, (Instr.field 75 (tkV t) 1).run Tryz.prog w = .ok (.string k) w := (fun _ => by rw [← hk0]; rfl); rw [hk0] at HQE; clear hfl1 hk0
   have hq := HQE.out
   have hu5 := hs5.un
   have ho5 := HO34.out.trans (Later.refl _ _ _) hs5.outs
   have hl5 : Later w F m1 m5 := ⟨fun g hg => (hs5.later g hg).imp id (Nat.le_trans HO34.out.size), hs5.later.tv⟩
   have hO5 := HO4.out.step hs5.outs hs5.later
   clear hs5
   have hc := HCN.out w5 k hO5.row
   obtain ⟨b, hb⟩ : ∃ b, hasK keys k = b := ⟨_, rfl⟩
   rw [hb] at hc
   have HC := Lib.hid hc
   have HU5 := Lib.hid (And.intro hu5 (And.intro ho5 hl5))
   have hr : R = if b then .error (2, tk.at_) else .ok (k, s') := by
    rw [← HR.out, hq, ← hb]
    rfl
   have HRE := Lib.hid hr
   clear hq hu5 ho5 hl5 hO5 hc hb hr
   go_wp2_with fail
   go_at_call 176; refine HC.out.mono ?_
   rintro e w6 ⟨rfl, rfl⟩
   cases b with
   | true =>
    go_wp2_with (go_at_call 31; refine (HDG.out _).mono ?_; rintro e w7 ⟨rfl, hd7, hb7⟩)
    refine ⟨rfl, ?_⟩
    rw [HRE.out]
    have hsz := HU5.out.1.outs.size
    exact ⟨_, rfl, hsz, hd7, HU5.out.1.outs.trans HU5.out.1.later (OutsX.of (Aside.of hb7) X)⟩
   | false =>
    go_wp2_with fail
    go_ret
    rw [HRE.out]
    exact ⟨rfl, m5, HU5.out.1, HU5.out.2.1, HU5.out.2.2⟩
end
end Go.Proofs.YtljgggohjigaoaaGreatDoor
namespace Go.Proofs.YtljgggohjigaoaaGreatDoor
open Go.RowKit Go.Shelf
set_option linter.unusedVariables false
set_option linter.unusedSimpArgs false

theorem want_lt {d : Nat} {s s' : Ps} {t : Tk} {b : ByteArray} (hf : Fit d s) (hb : b ≠ ⟨#[]⟩) (h : wantM b s = .ok (t, s')) : s'.toks.length < s.toks.length := by
 unfold wantM at h
 split at h
 ·rename_i hi
  cases h
  exact take_lt (hf.kind hb hi)
 ·cases h
def objE (ex : PM Nat) : PM (List ByteArray × List Nat) := bindP linesM fun _ s => objM ex (s.toks.length + 1) [] [] s
set_option maxRecDepth 100000 in
set_option maxHeartbeats 8000000 in
theorem object1_any {W : World} {P F T lo dp d N E Bp : Nat} {s : Ps} {m : FileM} {X : List Nat} {ex : PM Nat} (hE : Rds P F T lo dp d 75 #[.pointer (some ⟨P, 0, none⟩)] ex) (hD : Dec d 0 ex) (h : UnS W W P F T lo dp d m X s m N E ⟨⟨8, ⟨#[]⟩, [], [], 0⟩, .slice none 0 0, .slice none 0 0⟩) (hB : Loc W P F T m Bp #[.pointer (some ⟨P, 0, none⟩)] 88) (hNB : Bp < N ∧ Bp ≠ E) :
  Calls Tryz.prog 173 #[.pointer (some ⟨Bp, 0, none⟩), .pointer (some ⟨E, 0, none⟩)] W (KEnd W P F T lo dp m X (StE P F T lo N E (fun (r : List ByteArray × List Nat) => ⟨8, ⟨#[]⟩, r.2, r.1, 0⟩)) (objE ex s) (fun _ => .tuple #[])) := by
 obtain ⟨iI, hiI, hzI, hsI, hbI⟩ := info_of infoInt0
 obtain ⟨iS, hiS, hzS, hsS, hbS⟩ := info_of infoStr0
 have HS := Lib.hid h
 have HB := Lib.hid hB
 have HNB := Lib.hid hNB
 have HEX := Lib.hid (And.intro hE hD)
 have c0 := hB.blk.cell 0
 have hroom := h.un.room
 obtain ⟨R, hR⟩ : ∃ R, objE ex s = R := ⟨_, rfl⟩
 have HR : Hid (bindP linesM (fun _ s => objM ex (s.toks.length + 1) [] [] s) s = R) := Lib.hid hR
 rw [hR]
 have hc1 := h.un.lines
 obtain ⟨b1, s1, hm1⟩ : ∃ b1 s1, linesM s = .ok (b1, s1) := ⟨_, _, rfl⟩
 rw [hm1] at hc1
 have HC1 := Lib.hid hc1
 have hx1 := bind_ok hm1 HR.out
 have HR1 : Hid (objM ex (s1.toks.length + 1) [] [] s1 = R) := Lib.hid hx1
 have hl1 : s1.toks.length ≤ s.toks.length := ((Dec.lines (d := d)) s h.un.fit.snd b1 s1 hm1).1.length_le
 clear h hB hE hD hm1 hR hNB hc1 hx1
 go_enter Tryz.func173, Tryz.ntmps173
 go_wp2_with fail
 go_at_call 51; refine HC1.out.mono ?_
 rintro e w1 ⟨rfl, m1, hs1⟩
 have HS1 := Lib.hid (HS.out.step hs1)
 have HB1 := Lib.hid (HB.out.step hs1.outs hs1.later)
 obtain ⟨K, hK⟩ : ∃ K, s1.toks.length + 1 = K := ⟨_, rfl⟩
 have HKK := Lib.hid hK
 rw [hK] at HR1
 have hKb : K ≤ 1000000002 := by omega
 clear hs1 c0 hK
 go_wp2_with fail
 go_loopg [] K (fun gf wx => ∃ (keys : List ByteArray) (args : List Nat) (s' : Ps) (m' : FileM) (adv : Option Addr) (nv capv : Nat) (ad : Option Addr) (n cap : Nat), Hid (UnS W wx P F T lo dp d m X s' m' N E ⟨⟨8, ⟨#[]⟩, args, keys, 0⟩, .slice adv nv capv, .slice ad n cap⟩) ∧ Hid (Loc wx P F T m' Bp #[.pointer (some ⟨P, 0, none⟩)] 88) ∧ Hid (objM ex gf keys args s' = R) ∧ Hid (args.length = nv) ∧ Hid (keys.length = n) ∧ s'.toks.length < gf ∧ n + gf ≤ K ∧ nv + gf ≤ K)
 case atStart => exact ⟨[], [], s1, m1, none, 0, 0, none, 0, 0, HS1, HB1, HR1, Lib.hid rfl, Lib.hid rfl, by have := HKK.out; omega, by omega, by omega⟩
 case round =>
  obtain ⟨keys, args, s', m', adv, nv, capv, ad, n, cap, HSr, HBr, HRr, HNv, HNa, hlen, hnk, hnk2⟩ := hrel
  clear HS HB HS1 HB1 HR1 HC1
  obtain ⟨g', rfl⟩ : ∃ g', gk = g' + 1 := ⟨gk - 1, by omega⟩
  obtain ⟨b, hb⟩ : ∃ b, isW ⟨#[125]⟩ (next s') = b := ⟨_, rfl⟩
  have hIS := HSr.out.un.is ⟨#[125]⟩
  rw [hb] at hIS
  have HIS := Lib.hid hIS
  have HBB := Lib.hid hb
  have b0r := HBr.out.blk.cell 0
  clear hIS hb
  go_wp2_with fail
  go_at_call 102; refine HIS.out.mono ?_
  rintro e w3 ⟨rfl, hs3⟩
  have HS3 := Lib.hid (HSr.out.step hs3)
  have HB3 := Lib.hid (HBr.out.step hs3.outs hs3.later)
  clear hs3
  cases b with
  | true =>
   have hend : R = .ok ((keys, args), peekS s') := by
    rw [← HRr.out]
    unfold objM
    have i1 : isW (wb [125]) (next s') = true := HBB.out
    rw [i1]
    rfl
   have HEND := Lib.hid hend
   clear hend
   go_wp2_with fail
   first | go_end0 | go_ret
   rw [HEND.out]
   exact HS3.out.k rfl
  | false =>
   have HRa : Hid (bindP (keyM keys) (fun k => bindP (wantM ⟨#[61]⟩) fun _ => bindP ex fun i => bindP (skipM ⟨#[44]⟩) fun c => bindP linesM fun l s' => if !l && !c then .ok ((keys ++ [k], args ++ [i]), s') else objM ex g' (keys ++ [k]) (args ++ [i]) s') (peekS s') = R) := Lib.hid (by
    rw [← HRr.out]
    conv => rhs; unfold objM
    have i1 : isW (wb [125]) (next s') = false := HBB.out
    rw [i1]
    rfl)
   have hdra := HS3.out.below (Below.refl _ w3).drew
   have HDRa := Lib.hid hdra
   have HBDa := Lib.hid (HB3.out.lc (Lc.of (Below.refl _ w3).drew []) (by simp))
   have p0a := HB3.out.blk.cell 0
   have a3a := HS3.out.ue.loc.blk.cell 3
   have HOKa : Hid (OwnL w3.drew P F T lo N m' 9 1 (.slice ad n cap) n (keys.map Value.string)) := Lib.hid ⟨(HNa.out ▸ hdra.ue.ok.keys : w3.drew.ownsRow lo 9 1 (.slice ad n cap) n (keys.map Value.string)), fun g hg => (by
    have h1 := hdra.ue.foot g (List.mem_append.2 (.inr (mem_ownB.2 hg)))
    exact ⟨h1.1, h1.2.1, h1.2.2.1, h1.2.2.2.2⟩)⟩
   have hrda := hdra.un.key HOKa.out HNa.out (by omega)
   clear hdra
   cases hma : keyM keys (peekS s') with
   | error bd =>
    rw [hma] at hrda
    have HRDa := Lib.hid hrda
    have HREa := Lib.hid (bind_err hma HRa.out)
    clear hrda hma
    go_wp2_with fail
    refine wp_region_held_drew (S := fun w' => w'.cell? ⟨Bp, 0, none⟩ = some (.pointer (some ⟨P, 0, none⟩)) ∧ w'.cell? ⟨E, 3, none⟩ = some (.slice ad n cap)) (by kernel_rfl) ⟨p0a, a3a⟩ (fun hHeld => ?_)
    refine wpAnyH_take (i := 0) (oi := _) (v := ?qa_v0) rfl (by kernel_rfl) (by kernel_rfl) (by kernel_rfl) (fun _ _ _ h => h) (Or.inl ⟨by rfl, ?qa_y0⟩) (by assumption) ?qa_r0
    case qa_y0 => (intro w hSw; (try dsimp only at hSw); go_simp; (try with_reducible rfl))
    try simp only [Act.put, List.setIfInBounds_toArray, List.set_cons_zero, List.set_cons_succ]
    refine wpAnyH_take (i := 1) (oi := _) (v := ?qa_v1) rfl (by kernel_rfl) (by kernel_rfl) (by kernel_rfl) (fun _ _ _ h => h) (Or.inl ⟨by rfl, ?qa_y1⟩) (by assumption) ?qa_r1
    case qa_y1 => (intro w hSw; (try dsimp only at hSw); go_simp; (try with_reducible rfl))
    try simp only [Act.put, List.setIfInBounds_toArray, List.set_cons_zero, List.set_cons_succ]
    refine wpAnyH_take (i := 2) (oi := _) (v := ?qa_v2) rfl (by kernel_rfl) (by kernel_rfl) (by kernel_rfl) (fun _ _ _ h => h) (Or.inl ⟨by rfl, ?qa_y2⟩) (by assumption) ?qa_r2
    case qa_y2 => (intro w hSw; (try dsimp only at hSw); go_simp; (try with_reducible rfl))
    try simp only [Act.put, List.setIfInBounds_toArray, List.set_cons_zero, List.set_cons_succ]
    refine wpAnyH_take (i := 3) (oi := _) (v := ?qa_v3) rfl (by kernel_rfl) (by kernel_rfl) (by kernel_rfl) (fun _ _ _ h => h) (Or.inl ⟨by rfl, ?qa_y3⟩) (by assumption) ?qa_r3
    case qa_y3 => (intro w hSw; (try dsimp only at hSw); go_simp; (try with_reducible rfl))
    try simp only [Act.put, List.setIfInBounds_toArray, List.set_cons_zero, List.set_cons_succ]
    refine wpAnyH_take (i := 4) (oi := _) (v := ?qa_v4) rfl (by kernel_rfl) (by kernel_rfl) (by kernel_rfl) (fun _ _ _ h => h) (Or.inl ⟨by rfl, ?qa_y4⟩) (by assumption) ?qa_r4
    case qa_y4 => (intro w hSw; (try dsimp only at hSw); go_simp; (try with_reducible rfl))
    try simp only [Act.put, List.setIfInBounds_toArray, List.set_cons_zero, List.set_cons_succ]
    refine wpAnyH_ready (rs := [5]) (by kernel_rfl) (by simp) ?_
    refine AllReadyH.cons (o := _) rfl (fun K hK => ?_) AllReadyH.nil
    go_simp
    go_at_call 174; refine HRDa.out.mono ?_; rintro e w4 ⟨D, rfl, hk⟩
    refine ⟨rfl, ?_⟩
    rw [HREa.out]
    exact ⟨D, rfl, hk⟩
   | ok ya =>
    obtain ⟨ia, s3a⟩ := ya
    rw [hma] at hrda
    have HRDa := Lib.hid hrda
    have HRoa := Lib.hid (bind_ok hma HRa.out)
    have HL2 : Hid (s3a.toks.length ≤ (peekS s').toks.length) := Lib.hid (key_dec0 (d := d) (keys := keys) (peekS s') HS3.out.un.fit.snd ia s3a hma).1.length_le
    have HEAa : Hid (E ∉ ownB (.slice ad n cap)) := Lib.hid (fun e => (HS3.out.ue.foot E (List.mem_append.2 (.inr e))).2.2.2.1 rfl)
    clear hrda hma
    go_wp2_with fail
    refine have AFTERa : (∀ (w4 w5 : World) (g2 cap2 : Nat), (∃ m3, Stepped W w3.drew w4 P F T lo dp d m X m' s3a m3 ∧ w5.ownsRow lo 9 1 (.slice (some ⟨g2, 0, none⟩) (n + 1) cap2) (n + 1) (keys.map Value.string ++ [.string ia]) ∧ (w4.alloc (.cells #[.string ia] 9)).grownBy w5 (Value.slice ad n cap).ownBlock ∧ ((Value.slice ad n cap).ownBlock = some g2 ∨ g2 = (w4.alloc (.cells #[.string ia] 9)).heap.size)) → (?Ga : World → World → Nat → Nat → Prop) w4 w5 g2 cap2) := ?latera; ?maina
    case maina =>
     go_region_law (first
      | (go_simp; go_at_call 174; refine HRDa.out.mono ?_; rintro e w4 ⟨rfl, m3, hs4⟩; have H4 := Lib.hid (HDRa.out.step hs4); have hB4 := HBDa.out.step hs4.outs hs4.later; have a34 := H4.out.ue.loc.blk.cell 3; have a34a := (H4.out.ue.loc.blk.alloc (.cells #[.string ia] 9)).cell 3; have hrow := (HOKa.out.step hs4.outs hs4.later).row.alloc (.cells #[.string ia] 9); have hblk := World.alloc_heap_new w4 (.cells #[.string ia] 9); have hlo4 : lo ≤ w4.heap.size := hs4.un.ps.base.2)
      | (refine step_append_lies _ rfl (.tmp 9) (.tmp 14) 36 rfl lo 9 iS (.string ⟨#[]⟩) 1 16 Tryz.underlying36 hiS hzS hsS hbS rfl (by decide) _ _ _ rfl hrow ⟨w4.heap.size, 0, none⟩ 1 1 [.string ia] rfl rfl (World.news_of_block hblk) (by intro u hu; simp at hu; subst hu; rfl) (by decide) (by unfold maxLen; omega) (by omega) (by simp; omega) _ rfl ?_; intro g2 cap2 w5 hown hgrow hat hlt; have hE5 := H4.out.ue.loc.lc (grown_lc (Y := ownB (.slice ad n cap)) hgrow (fun g e => mem_ownB.2 e)) HEAa.out; have c53 := hE5.blk.cell 3; have f53 := hE5.blk.frozen 3))
     all_goals exact AFTERa w4 w5 g2 cap2 ⟨m3, hs4, hown, hgrow, hat⟩
    case latera =>
     rintro w4 w5 ga ca ⟨m3a, hs4, hown, hgrow, hat⟩
     have h4a := HDRa.out.step hs4
     have hpa := h4a.pushKey (n := n) HNa.out hown hgrow hat
     have HBa := Lib.hid ((HBDa.out.step hs4.outs hs4.later).lc hpa.2 (fun hk => by
      rcases List.mem_cons.1 hk with h1 | h1
      ·exact HNB.out.2 h1
      ·have := (h4a.ue.foot Bp (List.mem_append.2 (.inr h1))).2.2.2.2
       have := HNB.out.1
       omega))
     have HSa := Lib.hid hpa.1
     have HNao : Hid ((keys ++ [ia]).length = n + 1) := Lib.hid (by rw [List.length_append, HNa.out]; rfl)
     clear hs4 hown hgrow hat hpa h4a p0a a3a
     obtain ⟨w6a, hw6a⟩ : ∃ w6, w5.setCell ⟨E, 3, none⟩ (.slice (some ⟨ga, 0, none⟩) (n + 1) ca) = w6 := ⟨_, rfl⟩
     rw [hw6a] at HBa HSa ⊢
     clear hw6a
     obtain ⟨ka, hka⟩ : ∃ q, n + 1 = q := ⟨_, rfl⟩
     rw [hka] at HSa HNao
     have hkba : ka = n + 1 := hka.symm
     clear hka
     have b0a := HBa.out.blk.cell 0
     have hcw := HSa.out.un.want (b := ⟨#[61]⟩) (by decide)
     cases hmw : wantM (⟨#[61]⟩ : ByteArray) s3a with
     | error bd =>
      rw [hmw] at hcw
      have HCw := Lib.hid hcw
      have HREw := Lib.hid (bind_err hmw HRoa.out)
      clear hcw hmw
      go_wp2_with fail
      go_at_call 99; refine HCw.out.mono ?_
      rintro e we ⟨D, rfl, hk2⟩
      refine ⟨rfl, ?_⟩
      rw [HREw.out]
      exact Bad.k ⟨D, rfl, hk2⟩
     | ok yw =>
      obtain ⟨aw, sw⟩ := yw
      rw [hmw] at hcw
      have HCw := Lib.hid hcw
      have HRw := Lib.hid (bind_ok hmw HRoa.out)
      have HLW : Hid (sw.toks.length < s3a.toks.length) := Lib.hid (want_lt HSa.out.un.fit (by decide) hmw)
      clear hcw hmw
      go_wp2_with fail
      go_at_call 99; refine HCw.out.mono ?_
      rintro e ww ⟨rfl, mw, hsw⟩
      have HSw := Lib.hid (HSa.out.step hsw)
      have HBw := Lib.hid (HBa.out.step hsw.outs hsw.later)
      clear hsw
      have HRb : Hid (bindP ex (fun i => bindP (skipM ⟨#[44]⟩) fun c => bindP linesM fun l s' => if !l && !c then .ok ((keys ++ [ia], args ++ [i]), s') else objM ex g' (keys ++ [ia]) (args ++ [i]) s') sw = R) := HRw
      have HNb := HNv
      have hlw := HLW.out
      have hl2 := HL2.out
      have hlp := (peek_sfx s').length_le
      have hdrb := HSw.out.below (Below.refl _ ww).drew
      have HDRb := Lib.hid hdrb
      have HBDb := Lib.hid (HBw.out.lc (Lc.of (Below.refl _ ww).drew []) (by simp))
      have p0b := HBw.out.blk.cell 0
      have a2b := HSw.out.ue.loc.blk.cell 2
      have hrdb := hdrb.un.reads HEX.out.1 HEX.out.2
      clear hdrb
      cases hmb : ex sw with
      | error bd =>
       rw [hmb] at hrdb
       have HRDb := Lib.hid hrdb
       have HREb := Lib.hid (bind_err hmb HRb.out)
       clear hrdb hmb
       go_wp2_with fail
       refine wp_region_held_drew (S := fun w' => w'.cell? ⟨Bp, 0, none⟩ = some (.pointer (some ⟨P, 0, none⟩)) ∧ w'.cell? ⟨E, 2, none⟩ = some (.slice adv nv capv)) (by kernel_rfl) ⟨p0b, a2b⟩ (fun hHeld => ?_)
       refine wpAnyH_take (i := 0) (oi := _) (v := ?qb_v0) rfl (by kernel_rfl) (by kernel_rfl) (by kernel_rfl) (fun _ _ _ h => h) (Or.inl ⟨by rfl, ?qb_y0⟩) (by assumption) ?qb_r0
       case qb_y0 => (intro w hSw; (try dsimp only at hSw); go_simp; (try with_reducible rfl))
       try simp only [Act.put, List.setIfInBounds_toArray, List.set_cons_zero, List.set_cons_succ]
       refine wpAnyH_take (i := 1) (oi := _) (v := ?qb_v1) rfl (by kernel_rfl) (by kernel_rfl) (by kernel_rfl) (fun _ _ _ h => h) (Or.inl ⟨by rfl, ?qb_y1⟩) (by assumption) ?qb_r1
       case qb_y1 => (intro w hSw; (try dsimp only at hSw); go_simp; (try with_reducible rfl))
       try simp only [Act.put, List.setIfInBounds_toArray, List.set_cons_zero, List.set_cons_succ]
       refine wpAnyH_take (i := 2) (oi := _) (v := ?qb_v2) rfl (by kernel_rfl) (by kernel_rfl) (by kernel_rfl) (fun _ _ _ h => h) (Or.inl ⟨by rfl, ?qb_y2⟩) (by assumption) ?qb_r2
       case qb_y2 => (intro w hSw; (try dsimp only at hSw); go_simp; (try with_reducible rfl))
       try simp only [Act.put, List.setIfInBounds_toArray, List.set_cons_zero, List.set_cons_succ]
       refine wpAnyH_ready (rs := [3]) (by kernel_rfl) (by simp) ?_
       refine AllReadyH.cons (o := _) rfl (fun K hK => ?_) AllReadyH.nil
       go_simp
       go_at_call 75; refine HRDb.out.mono ?_; rintro e w4 ⟨D, rfl, hk⟩
       refine ⟨rfl, ?_⟩
       rw [HREb.out]
       exact ⟨D, rfl, hk⟩
      | ok yb =>
       obtain ⟨ib, s3b⟩ := yb
       rw [hmb] at hrdb
       have HRDb := Lib.hid hrdb
       have HRob := Lib.hid (bind_ok hmb HRb.out)
       have HL3 : Hid (s3b.toks.length ≤ sw.toks.length) := Lib.hid (HEX.out.2 sw HSw.out.un.fit.snd ib s3b hmb).1.length_le
       have HEAb : Hid (E ∉ ownB (.slice adv nv capv)) := Lib.hid (fun e => (HSw.out.ue.foot E (List.mem_append.2 (.inl e))).2.2.2.1 rfl)
       clear hrdb hmb
       go_wp2_with fail
       refine have AFTERb : (∀ (w4 w5 : World) (g2 cap2 : Nat), (∃ m3, Stepped W ww.drew w4 P F T lo dp d m X mw s3b m3 ∧ w5.ownsRow lo 3 1 (.slice (some ⟨g2, 0, none⟩) (nv + 1) cap2) (nv + 1) (intsV args ++ [.int .i64 (ib : Int)]) ∧ (w4.alloc (.cells #[.int .i64 (ib : Int)] 3)).grownBy w5 (Value.slice adv nv capv).ownBlock ∧ ((Value.slice adv nv capv).ownBlock = some g2 ∨ g2 = (w4.alloc (.cells #[.int .i64 (ib : Int)] 3)).heap.size)) → (?Gb : World → World → Nat → Nat → Prop) w4 w5 g2 cap2) := ?laterb; ?mainb
       case mainb =>
        go_region_law (first
         | (go_simp; go_at_call 75; refine HRDb.out.mono ?_; rintro e w4 ⟨rfl, m3, hs4⟩; have hnv : natV ib = .int .i64 (ib : Int) := rfl; have H4 := Lib.hid (HDRb.out.step hs4); have hB4 := HBDb.out.step hs4.outs hs4.later; have a24 := H4.out.ue.loc.blk.cell 2; have a24a := (H4.out.ue.loc.blk.alloc (.cells #[.int .i64 (ib : Int)] 3)).cell 2; have hrow := H4.out.ue.ok.args.alloc (.cells #[.int .i64 (ib : Int)] 3); have hrow := (HNb.out ▸ hrow : (w4.alloc (.cells #[.int .i64 (ib : Int)] 3)).ownsRow lo 3 1 (.slice adv nv capv) nv (intsV args)); have hblk := World.alloc_heap_new w4 (.cells #[.int .i64 (ib : Int)] 3); have hlo4 : lo ≤ w4.heap.size := hs4.un.ps.base.2)
         | (refine step_append_lies _ rfl (.tmp 20) (.tmp 23) 26 rfl lo 3 iI (.int .i64 0) 1 8 Tryz.underlying26 hiI hzI hsI hbI rfl (by decide) _ _ _ rfl hrow ⟨w4.heap.size, 0, none⟩ 1 1 [.int .i64 (ib : Int)] rfl rfl (World.news_of_block hblk) (by intro u hu; simp at hu; subst hu; rfl) (by decide) (by unfold maxLen; omega) (by omega) (by simp; omega) _ rfl ?_; intro g2 cap2 w5 hown hgrow hat hlt; have hE5 := H4.out.ue.loc.lc (grown_lc (Y := ownB (.slice adv nv capv)) hgrow (fun g e => mem_ownB.2 e)) HEAb.out; have c52 := hE5.blk.cell 2; have f52 := hE5.blk.frozen 2))
        all_goals exact AFTERb w4 w5 g2 cap2 ⟨m3, hs4, hown, hgrow, hat⟩
       case laterb =>
        rintro w4 w5 gb cb ⟨m3b, hs4, hown, hgrow, hat⟩
        have h4b := HDRb.out.step hs4
        have hpb := h4b.push (n := nv) HNb.out hown hgrow hat
        have HBb := Lib.hid ((HBDb.out.step hs4.outs hs4.later).lc hpb.2 (fun hk => by
         rcases List.mem_cons.1 hk with h1 | h1
         ·exact HNB.out.2 h1
         ·have := (h4b.ue.foot Bp (List.mem_append.2 (.inl h1))).2.2.2.2
          have := HNB.out.1
          omega))
        have HSb := Lib.hid hpb.1
        have HNbo : Hid ((args ++ [ib]).length = nv + 1) := Lib.hid (by rw [List.length_append, HNb.out]; rfl)
        clear hs4 hown hgrow hat hpb h4b p0b a2b
        obtain ⟨w6b, hw6b⟩ : ∃ w6, w5.setCell ⟨E, 2, none⟩ (.slice (some ⟨gb, 0, none⟩) (nv + 1) cb) = w6 := ⟨_, rfl⟩
        rw [hw6b] at HBb HSb ⊢
        clear hw6b
        obtain ⟨kb, hkb⟩ : ∃ q, nv + 1 = q := ⟨_, rfl⟩
        rw [hkb] at HSb HNbo
        have hkbb : kb ≤ 2000000000 := by omega
        clear hkb
        obtain ⟨k2b, hk2b⟩ : ∃ q, kb = q := ⟨_, rfl⟩
        rw [hk2b] at HSb HNbo
        clear hk2b
        obtain ⟨k2a, hk2a⟩ : ∃ q, ka = q := ⟨_, rfl⟩
        rw [hk2a] at HSb
        have HNa2 : Hid ((keys ++ [ia]).length = k2a) := Lib.hid (by rw [← hk2a]; exact HNao.out)
        have HNb2 := HNbo
        have hk2bb : k2b = nv + 1 := by
         have h1 := HNb2.out
         rw [List.length_append, HNv.out] at h1
         exact h1.symm
        have hl3b : s3b.toks.length ≤ sw.toks.length := HL3.out
        have hka2 : k2a = n + 1 := by omega
        have b0b := HBb.out.blk.cell 0
        have hcs := HSb.out.un.skip (b := ⟨#[44]⟩) (by decide)
        cases hms : skipM (⟨#[44]⟩ : ByteArray) s3b with
        | error bd =>
         exfalso
         unfold skipM at hms
         split at hms <;> cases hms
        | ok ys =>
         obtain ⟨c, ss⟩ := ys
         rw [hms] at hcs
         have HCS := Lib.hid hcs
         have HRs := Lib.hid (bind_ok hms HRob.out)
         have hls : ss.toks.length ≤ s3b.toks.length := ((Dec.skip (d := d) (w := ⟨#[44]⟩)) s3b HSb.out.un.fit.snd c ss hms).1.length_le
         clear hcs hms
         go_wp2_with fail
         go_at_call 74; refine HCS.out.mono ?_
         rintro e ws ⟨rfl, ms, hss⟩
         have HSs := Lib.hid (HSb.out.step hss)
         have HBs := Lib.hid (HBb.out.step hss.outs hss.later)
         clear hss
         cases c with
         | true =>
          have b0s := HBs.out.blk.cell 0
          have hcl := HSs.out.un.lines
          obtain ⟨bl, sl, hml⟩ : ∃ bl sl, linesM ss = .ok (bl, sl) := ⟨_, _, rfl⟩
          rw [hml] at hcl
          have HCL := Lib.hid hcl
          have HRl0 := Lib.hid (bind_ok hml HRs.out)
          have hll : sl.toks.length ≤ ss.toks.length := ((Dec.lines (d := d)) ss HSs.out.un.fit.snd bl sl hml).1.length_le
          clear hcl hml
          go_wp2_with fail
          go_at_call 51; refine HCL.out.mono ?_
          rintro e wl ⟨rfl, ml, hsl⟩
          have HSl := Lib.hid (HSs.out.step hsl)
          have HBl := Lib.hid (HBs.out.step hsl.outs hsl.later)
          clear hsl
          cases bl with
          | false =>
           have HRl := HRl0
           have HRn : Hid (objM ex g' (keys ++ [ia]) (args ++ [ib]) sl = R) := HRl
           have hlt' : sl.toks.length < g' := by omega
           go_wp2_with fail
           go_roundg g'
           case measure => omega
           case rel => exact ⟨keys ++ [ia], args ++ [ib], sl, ml, _, k2b, _, _, k2a, _, HSl, HBl, HRn, HNb2, HNa2, by omega, by omega, by omega⟩
          | true =>
           have HRl := HRl0
           have HRn : Hid (objM ex g' (keys ++ [ia]) (args ++ [ib]) sl = R) := HRl
           have hlt' : sl.toks.length < g' := by omega
           go_wp2_with fail
           go_roundg g'
           case measure => omega
           case rel => exact ⟨keys ++ [ia], args ++ [ib], sl, ml, _, k2b, _, _, k2a, _, HSl, HBl, HRn, HNb2, HNa2, by omega, by omega, by omega⟩
         | false =>
          have b0s := HBs.out.blk.cell 0
          have hcl := HSs.out.un.lines
          obtain ⟨bl, sl, hml⟩ : ∃ bl sl, linesM ss = .ok (bl, sl) := ⟨_, _, rfl⟩
          rw [hml] at hcl
          have HCL := Lib.hid hcl
          have HRl0 := Lib.hid (bind_ok hml HRs.out)
          have hll : sl.toks.length ≤ ss.toks.length := ((Dec.lines (d := d)) ss HSs.out.un.fit.snd bl sl hml).1.length_le
          clear hcl hml
          go_wp2_with fail
          go_at_call 51; refine HCL.out.mono ?_
          rintro e wl ⟨rfl, ml, hsl⟩
          have HSl := Lib.hid (HSs.out.step hsl)
          have HBl := Lib.hid (HBs.out.step hsl.outs hsl.later)
          clear hsl
          cases bl with
          | false =>
           have HRl := HRl0
           have HRn : Hid (.ok ((keys ++ [ia], args ++ [ib]), sl) = R) := HRl
           go_wp2_with fail
           first | go_ret | go_end0
           rw [← HRn.out]
           exact HSl.out.k rfl
          | true =>
           have HRl := HRl0
           have HRn : Hid (objM ex g' (keys ++ [ia]) (args ++ [ib]) sl = R) := HRl
           have hlt' : sl.toks.length < g' := by omega
           go_wp2_with fail
           go_roundg g'
           case measure => omega
           case rel => exact ⟨keys ++ [ia], args ++ [ib], sl, ml, _, k2b, _, _, k2a, _, HSl, HBl, HRn, HNb2, HNa2, by omega, by omega, by omega⟩
end Go.Proofs.YtljgggohjigaoaaGreatDoor
