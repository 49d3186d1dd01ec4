/- An index, and what each of the items has · What a choice chooses between -/
import Derived.Deep.RegionWith
import Derived.Deep.RegionHeld
import Derived.Test.YtljgggohjigaoaaGreatDoorSy20
namespace Go.Proofs.YtljgggohjigaoaaGreatDoor
open Go.RowKit Go.Shelf
set_option linter.unusedVariables false

section
variable {P F T lo dp d : Nat} {nx : Sub}
theorem idxE_dec {d' one : Nat} {ex : PM Nat} (hD : Dec d' 0 ex) : Dec d' 0 (idxE one ex) := by
  refine (Dec.bind (e := 0) Dec.skip fun st => ?_).mono (by omega)
  cases st with
  | true => exact Dec.pure
  | false => exact (Dec.bind (e := 0) hD fun i => Dec.pure).mono (by omega)
set_option maxRecDepth 100000 in
set_option maxHeartbeats 4000000 in
theorem indexed_any (hs : Subs F lo dp d nx) (one : Nat) : Rds P F T lo dp d 150 #[.pointer (some ⟨P, 0, none⟩), .int .i64 (one : Int)] (indexedM nx one) := by
  intro W s m h he hf
  have hB1 := Loc.new h #[.pointer (some ⟨P, 0, none⟩)] 88
  have hU1 := (Un.start (X := []) h he hf).alloc (.cells #[.pointer (some ⟨P, 0, none⟩)] 88)
  obtain ⟨W1, hW1⟩ : ∃ W1, W.alloc (.cells #[.pointer (some ⟨P, 0, none⟩)] 88) = W1 := ⟨_, rfl⟩
  have hs1 : W1.heap.size = W.heap.size + 1 := by rw [← hW1]; simp
  rw [hW1] at hB1 hU1
  have hO2 := OwnL.lit (N := W.heap.size + 1) hU1.ps (by omega) [one] (by simp)
  have hU2 := hU1.alloc (.cells #[.int .i64 (one : Int)] 3)
  have hB2 := hB1.alloc (.cells #[.int .i64 (one : Int)] 3)
  obtain ⟨W2, hW2⟩ : ∃ W2, W1.alloc (.cells #[.int .i64 (one : Int)] 3) = W2 := ⟨_, rfl⟩
  have hs2 : W2.heap.size = W1.heap.size + 1 := by rw [← hW2]; simp
  have hO2 : OwnL W2 P F T lo (W.heap.size + 1) m 3 1 (.slice (some ⟨W1.heap.size, 0, none⟩) 1 1) [one].length (intsV [one]) := by rw [← hW2]; exact hO2
  rw [hW2] at hU2 hB2
  have hE3 := UnE.ofRow hU2.ps 11 ⟨#[]⟩ hO2 0
  have hU3 := hU2.alloc (.cells #[.int .i64 11, .string ⟨#[]⟩, .slice (some ⟨W1.heap.size, 0, none⟩) 1 1, .slice none 0 0, .int .i64 0] 38)
  have hB3 := hB2.alloc (.cells #[.int .i64 11, .string ⟨#[]⟩, .slice (some ⟨W1.heap.size, 0, none⟩) 1 1, .slice none 0 0, .int .i64 0] 38)
  have b3a := hB3.blk.cell 0
  obtain ⟨W3, hW3⟩ : ∃ W3, W2.alloc (.cells #[.int .i64 11, .string ⟨#[]⟩, .slice (some ⟨W1.heap.size, 0, none⟩) 1 1, .slice none 0 0, .int .i64 0] 38) = W3 := ⟨_, rfl⟩
  have hE3 : UnE W3 P F T lo (W.heap.size + 1) m W2.heap.size ⟨⟨11, ⟨#[]⟩, [one], [], 0⟩, .slice (some ⟨W1.heap.size, 0, none⟩) 1 1, .slice none 0 0⟩ := by rw [← hW3]; exact hE3
  have hs3 : W3.heap.size = W2.heap.size + 1 := by rw [← hW3]; simp
  rw [hW3] at hU3 hB3
  have h4W := he.ready.1
  have hGR := grouped_any (α := Bool × List Nat) hU3.ps hs.left (b := ⟨#[91]⟩) (en := ⟨#[93]⟩) (by decide) (by decide) (enters_of Tryz.func164 (by kernel_rfl) rfl) (lbr := #[.pointer (some ⟨W.heap.size, 0, none⟩), .pointer (some ⟨W2.heap.size, 0, none⟩)]) (X := W2.heap.size :: (⟨⟨11, ⟨#[]⟩, [one], [], 0⟩, .slice (some ⟨W1.heap.size, 0, none⟩) 1 1, .slice none 0 0⟩ : ExM).foot) (by
      intro k hk
      rcases List.mem_cons.1 hk with rfl | hk
      · omega
      · exact (hE3.ok.lt k hk).2) (f := fun p => idxE one p.1) (St := StE P F T lo (W.heap.size + 1) W2.heap.size (fun (r : Bool × List Nat) => ⟨if r.1 then 30 else 11, ⟨#[]⟩, r.2, [], 0⟩)) StE.aside
    (fun p hp W' s' ha hp' ho ht hff => by
      obtain ⟨d', rfl, hd1, hd2, hr1, hr2⟩ := hs.sub p hp
      exact indexed1_any (hr1 P T) hd1 (UnS.enter hE3 ha hp' hU3.env (hf.take.down.like ht hff) (by omega) (by omega) (by omega)) (hB3.aside ha) ⟨by omega, by omega⟩)
  obtain ⟨R, hR⟩ : ∃ R, indexedM nx one s = R := ⟨_, rfl⟩
  have HR : Hid (bindP (betweenM ⟨#[91]⟩ ⟨#[93]⟩ true nx fun p => idxE one p.1) (fun r => if r.1.1 then bindP (wantM ⟨#[46]⟩) fun _ => bindP (kindM 1) fun t => addM ⟨30, t.x, r.1.2, [], r.2⟩ else addM ⟨11, ⟨#[]⟩, r.1.2, [], r.2⟩) s = R) := Lib.hid hR
  have hDB : Dec d 1 (betweenM ⟨#[91]⟩ ⟨#[93]⟩ true nx fun p => idxE one p.1) := Dec.between (by decide) (fun p hp => idxE_dec (hs.ok.expr p hp))
  rw [hR]
  obtain ⟨RB, hRB⟩ : ∃ RB, betweenM ⟨#[91]⟩ ⟨#[93]⟩ true nx (fun p => idxE one p.1) s = RB := ⟨_, rfl⟩
  rw [hRB] at hGR
  have HGR := Lib.hid hGR
  have HW3 := Lib.hid hW3
  have HRB := Lib.hid hRB
  have HU3 := Lib.hid hU3
  have HB3 := Lib.hid hB3
  have HE3 := Lib.hid hE3
  have HDB := Lib.hid hDB
  have HSZ := Lib.hid (And.intro hs1 (And.intro hs2 (And.intro hs3 h4W)))
  have b1 := hB1.blk.cell 0
  have b2 := hB2.blk.cell 0
  have b3 := hB3.blk.cell 0
  have hmf : ∀ (fn : Fn) (first cap : Array Value) (w : World), (Instr.makeFunc fn first cap).run Tryz.prog w = .ok (.func fn first cap) w := fun _ _ _ _ => rfl
  clear hW3 h he hf hs hR hGR hRB hU1 hU2 hU3 hB1 hB2 hB3 hO2 hE3 hDB hs1 hs2 hs3 h4W
  go_enter Tryz.func150, Tryz.ntmps150
  go_wp2_with fail
  go_at_call 160; rw [HW3.out]; refine HGR.out.mono ?_
  intro e w4 hk
  cases RB with
  | error bd =>
    obtain ⟨D, rfl, hk2⟩ := HU3.out.kbad (fun k hk => .inr (by
      have hz := HSZ.out
      rcases List.mem_cons.1 hk with rfl | hk
      · omega
      · have := (HE3.out.foot k hk).2.2.2.2; omega)) hk
    refine ⟨rfl, ?_⟩
    rw [bind_err HRB.out HR.out]
    exact Bad.p ⟨D, rfl, hk2⟩
  | ok y =>
    obtain ⟨⟨r, at_⟩, s4⟩ := y
    have hk4 := HU3.out.kend (fun k hk => (by
      have hz := HSZ.out
      rcases List.mem_cons.1 hk with rfl | hk
      · exact ⟨by omega, .inr (by omega)⟩
      · have := (HE3.out.foot k hk).2.2.2.2; exact ⟨by omega, .inr (by omega)⟩)) (HU3.out.fit.dec HDB.out (by decide) HRB.out) hk
    obtain ⟨rfl, m4, hU4, hx4, hl4, x4, he4, hE4⟩ := hk4
    have hR4 := bind_ok HRB.out HR.out
    obtain ⟨c, la⟩ := r
    simp only at hR4 he4
    obtain ⟨⟨k0, t0, l0, kk0, a0⟩, av0, kv0⟩ := x4
    simp only [Ex.mk.injEq] at he4
    obtain ⟨rfl, rfl, rfl, rfl, rfl⟩ := he4
    have hz := HSZ.out
    have hB4 := HB3.out.kstep hx4 hl4 (fun hm => by
      rcases List.mem_cons.1 hm with h1 | h1
      · omega
      · have := (HE3.out.foot _ h1).2.2.2.2; omega)
    have HB4 := Lib.hid hB4
    have hU5 := hU4.set (B := W2.heap.size) ⟨hE4.loc.neP, hE4.loc.neT, hE4.loc.out, by omega, .inr (by omega)⟩ 4 (.int .i64 (at_ : Int))
    have hE5 := hE4.setAt at_
    have hB5 := hB4.lc (Lc.set w4 W2.heap.size 4 (.int .i64 (at_ : Int)) (Y := [W2.heap.size]) (by simp)) (by simp; omega)
    have c4 := hE4.loc.blk.cell 4
    have f4 := hE4.loc.blk.frozen 4
    obtain ⟨W5, hW5⟩ : ∃ W5, w4.setCell ⟨W2.heap.size, 4, none⟩ (.int .i64 (at_ : Int)) = W5 := ⟨_, rfl⟩
    rw [hW5] at hU5 hE5 hB5
    have b5 := hB5.blk.cell 0
    have q0 := hE5.loc.blk.cell 0
    have q1 := hE5.loc.blk.cell 1
    have q2 := hE5.loc.blk.cell 2
    have q3 := hE5.loc.blk.cell 3
    have q4 := hE5.loc.blk.cell 4
    have HU5 := Lib.hid hU5
    have HE5 := Lib.hid hE5
    have HB5 := Lib.hid hB5
    have HR4 := Lib.hid hR4
    clear hU4 hx4 hl4 hE4 hB4 hU5 hE5 hB5 hR4 hk
    cases c with
    | false =>
      have HADD := Lib.hid (HU5.out.addE (HE5.out.mono (by omega)))
      have hend : R = addM ⟨11, ⟨#[]⟩, l0, [], at_⟩ s4 := by rw [← HR4.out]; rfl
      have HEND := Lib.hid hend
      clear hend hz
      go_wp2_with fail
      go_at_call 105; refine HADD.out.mono ?_
      rintro e w6 ⟨rfl, m6, hp6, ho6, hl6⟩
      have hnv : natV s4.f.exprs.length = .int .i64 (s4.f.exprs.length : Int) := rfl
      rw [hnv]
      go_wp2_with fail
      go_ret
      rw [HEND.out]
      exact ⟨rfl, m6, hp6, ho6, hl6⟩
    | true =>
      have HRT : Hid (bindP (wantM ⟨#[46]⟩) (fun _ => bindP (kindM 1) fun t => addM ⟨30, t.x, l0, [], at_⟩) s4 = R) := HR4
      have HWT := HU5.out.want (b := ⟨#[46]⟩) (by decide)
      cases hm6 : wantM (⟨#[46]⟩ : ByteArray) s4 with
      | error bd =>
        rw [hm6] at HWT
        have HWT := Lib.hid HWT
        have HRE := Lib.hid (bind_err hm6 HRT.out)
        clear hm6 hz
        go_wp2_with fail
        go_at_call 99; refine HWT.out.mono ?_
        rintro e w6 ⟨D, rfl, hk⟩
        refine ⟨rfl, ?_⟩
        rw [HRE.out]
        exact Bad.p ⟨D, rfl, hk⟩
      | ok y6 =>
        obtain ⟨t6, s6⟩ := y6
        rw [hm6] at HWT
        have HWT := Lib.hid HWT
        have HRT2 := Lib.hid (bind_ok hm6 HRT.out)
        clear hm6 hz
        go_wp2_with fail
        go_at_call 99; refine HWT.out.mono ?_
        rintro e w6 ⟨rfl, m6, hs6⟩
        have HU6 := Lib.hid hs6.un
        have HE6 := Lib.hid (HE5.out.step hs6.outs hs6.later)
        have HB6 := Lib.hid (HB5.out.step hs6.outs hs6.later)
        have b6 := HB6.out.blk.cell 0
        have HKD := hs6.un.kind (k := 1) (by decide)
        clear hs6
        cases hm7 : kindM 1 s6 with
        | error bd =>
          rw [hm7] at HKD
          have HKD := Lib.hid HKD
          have HRE := Lib.hid (bind_err hm7 HRT2.out)
          clear hm7
          go_wp2_with fail
          go_at_call 35; refine HKD.out.mono ?_
          rintro e w7 ⟨D, rfl, hk⟩
          refine ⟨rfl, ?_⟩
          rw [HRE.out]
          exact Bad.p ⟨D, rfl, hk⟩
        | ok y7 =>
          obtain ⟨t7, s7⟩ := y7
          rw [hm7] at HKD
          have HKD := Lib.hid HKD
          have hend : R = addM ⟨30, t7.x, l0, [], at_⟩ s7 := (bind_ok hm7 HRT2.out).symm
          have HEND := Lib.hid hend
          have hfl2 : ∀ w : World, (Instr.field 75 (tkV t7) 1).run Tryz.prog w = .ok (.string t7.x) w := fun _ => rfl
          clear hm7 hend
          go_wp2_with fail
          go_at_call 35; refine HKD.out.mono ?_
          rintro e w7 ⟨rfl, m7, hs7⟩
          have hE7 := HE6.out.step hs7.outs hs7.later
          have hB7 := HB6.out.step hs7.outs hs7.later
          have hz := HSZ.out
          have hU8 := hs7.un.set (B := W2.heap.size) ⟨hE7.loc.neP, hE7.loc.neT, hE7.loc.out, by omega, .inr (by omega)⟩ 1 (.string t7.x)
          have hE8 := hE7.setX t7.x
          have hB8 := hB7.lc (Lc.set w7 W2.heap.size 1 (.string t7.x) (Y := [W2.heap.size]) (by simp)) (by simp; omega)
          have c1 := hE7.loc.blk.cell 1
          have f1 := hE7.loc.blk.frozen 1
          have r0 := hE8.loc.blk.cell 0
          have r1 := hE8.loc.blk.cell 1
          have r2 := hE8.loc.blk.cell 2
          have r3 := hE8.loc.blk.cell 3
          have r4 := hE8.loc.blk.cell 4
          have b8 := hB8.blk.cell 0
          have HADD := Lib.hid (hU8.addE (hE8.mono (by omega)))
          clear hs7 hE7 hB7 hU8 hE8 hB8 hz
          go_wp2_with fail
          go_at_call 105; refine HADD.out.mono ?_
          rintro e w9 ⟨rfl, m9, hp9, ho9, hl9⟩
          have hnv : natV s7.f.exprs.length = .int .i64 (s7.f.exprs.length : Int) := rfl
          rw [hnv]
          go_wp2_with fail
          go_ret
          rw [HEND.out]
          exact ⟨rfl, m9, hp9, ho9, hl9⟩
end
end Go.Proofs.YtljgggohjigaoaaGreatDoor
namespace Go.Proofs.YtljgggohjigaoaaGreatDoor
open Go.RowKit Go.Shelf
set_option linter.unusedVariables false
set_option linter.unusedSimpArgs false

def condE (l : List Nat) (ex : PM Nat) : PM (List Nat) := bindP ex fun i => bindP (wantM (wb [58])) fun _ => bindP ex fun j s => .ok (l ++ [i] ++ [j], s)
set_option maxRecDepth 100000 in
set_option maxHeartbeats 4000000 in
theorem expr1_any {W : World} {P F T lo dp d N E Bp a n : Nat} {s : Ps} {m : FileM} {X : List Nat} {ex : PM Nat} {ad : Option Addr} {cap : Nat} {l : List Nat} {kv : Value} (hE : Rds P F T lo dp d 75 #[.pointer (some ⟨P, 0, none⟩)] ex) (hD : Dec d 0 ex) (h : UnS W W P F T lo dp d m X s m N E ⟨⟨28, ⟨#[]⟩, l, [], a⟩, .slice ad n cap, kv⟩) (hln : l.length = n) (hn : n ≤ 1000) (hB : Loc W P F T m Bp #[.pointer (some ⟨P, 0, none⟩)] 88) (hNB : Bp < N ∧ Bp ≠ E) :
    Calls Tryz.prog 104 #[.pointer (some ⟨E, 0, none⟩), .pointer (some ⟨Bp, 0, none⟩)] W (KEnd W P F T lo dp m X (StE P F T lo N E (fun (r : List Nat) => ⟨28, ⟨#[]⟩, r, [], a⟩)) (condE l ex s) (fun _ => .tuple #[])) := by
  obtain ⟨iI, hiI, hzI, hsI, hbI⟩ := info_of infoInt0
  have HS := Lib.hid h
  have HB := Lib.hid hB
  have HNB := Lib.hid hNB
  have HEX := Lib.hid (And.intro hE hD)
  have HNa := Lib.hid hln
  obtain ⟨R, hR⟩ : ∃ R, condE l ex s = R := ⟨_, rfl⟩
  have HRa : Hid (bindP ex (fun i => bindP (wantM ⟨#[58]⟩) fun _ => bindP ex fun j s => .ok (l ++ [i] ++ [j], s)) s = R) := Lib.hid hR
  rw [hR]
  clear h hB hE hD hR hNB hln
  go_enter Tryz.func104, Tryz.ntmps104
  have hdra := HS.out.below (Below.refl _ W).drew
  have HDRa := Lib.hid hdra
  have HBDa := Lib.hid (HB.out.lc (Lc.of (Below.refl _ W).drew []) (by simp))
  have p0a := HB.out.blk.cell 0
  have a2a := HS.out.ue.loc.blk.cell 2
  have hrda := hdra.un.reads HEX.out.1 HEX.out.2
  clear hdra
  cases hma : ex s with
  | error bd =>
    rw [hma] at hrda
    have HRDa := Lib.hid hrda
    have HREa := Lib.hid (bind_err hma HRa.out)
    clear hrda hma
    go_wp2_with fail
    refine wp_region_held_drew (S := fun w' => w'.cell? ⟨Bp, 0, none⟩ = some (.pointer (some ⟨P, 0, none⟩)) ∧ w'.cell? ⟨E, 2, none⟩ = some (.slice ad n cap)) (by kernel_rfl) ⟨p0a, a2a⟩ (fun hHeld => ?_)
    refine wpAnyH_take (i := 0) (oi := _) (v := ?qa_v0) rfl (by kernel_rfl) (by kernel_rfl) (by kernel_rfl) (fun _ _ _ h => h) (Or.inl ⟨by rfl, ?qa_y0⟩) (by assumption) ?qa_r0
    case qa_y0 => (intro w hSw; (try dsimp only at hSw); go_simp; (try with_reducible rfl))
    try simp only [Act.put, List.setIfInBounds_toArray, List.set_cons_zero, List.set_cons_succ]
    refine wpAnyH_take (i := 1) (oi := _) (v := ?qa_v1) rfl (by kernel_rfl) (by kernel_rfl) (by kernel_rfl) (fun _ _ _ h => h) (Or.inl ⟨by rfl, ?qa_y1⟩) (by assumption) ?qa_r1
    case qa_y1 => (intro w hSw; (try dsimp only at hSw); go_simp; (try with_reducible rfl))
    try simp only [Act.put, List.setIfInBounds_toArray, List.set_cons_zero, List.set_cons_succ]
    refine wpAnyH_take (i := 2) (oi := _) (v := ?qa_v2) rfl (by kernel_rfl) (by kernel_rfl) (by kernel_rfl) (fun _ _ _ h => h) (Or.inl ⟨by rfl, ?qa_y2⟩) (by assumption) ?qa_r2
    case qa_y2 => (intro w hSw; (try dsimp only at hSw); go_simp; (try with_reducible rfl))
    try simp only [Act.put, List.setIfInBounds_toArray, List.set_cons_zero, List.set_cons_succ]
    refine wpAnyH_ready (rs := [3]) (by kernel_rfl) (by simp) ?_
    refine AllReadyH.cons (o := _) rfl (fun K hK => ?_) AllReadyH.nil
    go_simp
    go_at_call 75; refine HRDa.out.mono ?_; rintro e w4 ⟨D, rfl, hk⟩
    refine ⟨rfl, ?_⟩
    rw [HREa.out]
    exact ⟨D, rfl, hk⟩
  | ok ya =>
    obtain ⟨ia, s3a⟩ := ya
    rw [hma] at hrda
    have HRDa := Lib.hid hrda
    have HRoa := Lib.hid (bind_ok hma HRa.out)
    have HEAa : Hid (E ∉ ownB (.slice ad n cap)) := Lib.hid (fun e => (HS.out.ue.foot E (List.mem_append.2 (.inl e))).2.2.2.1 rfl)
    clear hrda hma
    go_wp2_with fail
    refine have AFTERa : (∀ (w4 w5 : World) (g2 cap2 : Nat), (∃ m3, Stepped W W.drew w4 P F T lo dp d m X m s3a m3 ∧ w5.ownsRow lo 3 1 (.slice (some ⟨g2, 0, none⟩) (n + 1) cap2) (n + 1) (intsV l ++ [.int .i64 (ia : Int)]) ∧ (w4.alloc (.cells #[.int .i64 (ia : Int)] 3)).grownBy w5 (Value.slice ad n cap).ownBlock ∧ ((Value.slice ad n cap).ownBlock = some g2 ∨ g2 = (w4.alloc (.cells #[.int .i64 (ia : Int)] 3)).heap.size)) → (?Ga : World → World → Nat → Nat → Prop) w4 w5 g2 cap2) := ?latera; ?maina
    case maina =>
      go_region_law (first
        | (go_simp; go_at_call 75; refine HRDa.out.mono ?_; rintro e w4 ⟨rfl, m3, hs4⟩; have hnv : natV ia = .int .i64 (ia : Int) := rfl; have H4 := Lib.hid (HDRa.out.step hs4); have hB4 := HBDa.out.step hs4.outs hs4.later; have a24 := H4.out.ue.loc.blk.cell 2; have a24a := (H4.out.ue.loc.blk.alloc (.cells #[.int .i64 (ia : Int)] 3)).cell 2; have hrow := H4.out.ue.ok.args.alloc (.cells #[.int .i64 (ia : Int)] 3); have hrow := (HNa.out ▸ hrow : (w4.alloc (.cells #[.int .i64 (ia : Int)] 3)).ownsRow lo 3 1 (.slice ad n cap) n (intsV l)); have hblk := World.alloc_heap_new w4 (.cells #[.int .i64 (ia : Int)] 3); have hlo4 : lo ≤ w4.heap.size := hs4.un.ps.base.2)
        | (refine step_append_lies _ rfl (.tmp 3) (.tmp 6) 26 rfl lo 3 iI (.int .i64 0) 1 8 Tryz.underlying26 hiI hzI hsI hbI rfl (by decide) _ _ _ rfl hrow ⟨w4.heap.size, 0, none⟩ 1 1 [.int .i64 (ia : Int)] rfl rfl (World.news_of_block hblk) (by intro u hu; simp at hu; subst hu; rfl) (by decide) (by unfold maxLen; omega) (by omega) (by simp; omega) _ rfl ?_; intro g2 cap2 w5 hown hgrow hat hlt; have hE5 := H4.out.ue.loc.lc (grown_lc (Y := ownB (.slice ad n cap)) hgrow (fun g e => mem_ownB.2 e)) HEAa.out; have c52 := hE5.blk.cell 2; have f52 := hE5.blk.frozen 2))
      all_goals exact AFTERa w4 w5 g2 cap2 ⟨m3, hs4, hown, hgrow, hat⟩
    case latera =>
      rintro w4 w5 ga ca ⟨m3a, hs4, hown, hgrow, hat⟩
      have h4a := HDRa.out.step hs4
      have hpa := h4a.push (n := n) HNa.out hown hgrow hat
      have HBa := Lib.hid ((HBDa.out.step hs4.outs hs4.later).lc hpa.2 (fun hk => by
        rcases List.mem_cons.1 hk with h1 | h1
        · exact HNB.out.2 h1
        · have := (h4a.ue.foot Bp (List.mem_append.2 (.inl h1))).2.2.2.2
          have := HNB.out.1
          omega))
      have HSa := Lib.hid hpa.1
      have HNao : Hid ((l ++ [ia]).length = n + 1) := Lib.hid (by rw [List.length_append, HNa.out]; rfl)
      clear hs4 hown hgrow hat hpa h4a p0a a2a
      obtain ⟨w6a, hw6a⟩ : ∃ w6, w5.setCell ⟨E, 2, none⟩ (.slice (some ⟨ga, 0, none⟩) (n + 1) ca) = w6 := ⟨_, rfl⟩
      rw [hw6a] at HBa HSa ⊢
      clear hw6a
      obtain ⟨ka, hka⟩ : ∃ q, n + 1 = q := ⟨_, rfl⟩
      rw [hka] at HSa HNao
      have hkba : ka ≤ 1000000000 := by omega
      clear hka
      have b0a := HBa.out.blk.cell 0
      have hcc := HSa.out.un.want (b := ⟨#[58]⟩) (by decide)
      cases hmc : wantM (⟨#[58]⟩ : ByteArray) s3a with
      | error bd =>
        rw [hmc] at hcc
        have HCc := Lib.hid hcc
        have HREc := Lib.hid (bind_err hmc HRoa.out)
        clear hcc hmc
        go_wp2_with fail
        go_at_call 99; refine HCc.out.mono ?_
        rintro e we ⟨D, rfl, hk2⟩
        refine ⟨rfl, ?_⟩
        rw [HREc.out]
        exact Bad.k ⟨D, rfl, hk2⟩
      | ok yc =>
        obtain ⟨ac, sc⟩ := yc
        rw [hmc] at hcc
        have HCc := Lib.hid hcc
        have HRc := Lib.hid (bind_ok hmc HRoa.out)
        clear hcc hmc
        go_wp2_with fail
        go_at_call 99; refine HCc.out.mono ?_
        rintro e wc ⟨rfl, mc, hsc⟩
        have HSc := Lib.hid (HSa.out.step hsc)
        have HBc := Lib.hid (HBa.out.step hsc.outs hsc.later)
        clear hsc
        have HRb : Hid (bindP ex (fun j s => .ok (l ++ [ia] ++ [j], s)) sc = R) := HRc
        have HNb := HNao
        have hdrb := HSc.out.below (Below.refl _ wc).drew
        have HDRb := Lib.hid hdrb
        have HBDb := Lib.hid (HBc.out.lc (Lc.of (Below.refl _ wc).drew []) (by simp))
        have p0b := HBc.out.blk.cell 0
        have a2b := HSc.out.ue.loc.blk.cell 2
        have hrdb := hdrb.un.reads HEX.out.1 HEX.out.2
        clear hdrb
        cases hmb : ex sc with
        | error bd =>
          rw [hmb] at hrdb
          have HRDb := Lib.hid hrdb
          have HREb := Lib.hid (bind_err hmb HRb.out)
          clear hrdb hmb
          go_wp2_with fail
          refine wp_region_held_drew (S := fun w' => w'.cell? ⟨Bp, 0, none⟩ = some (.pointer (some ⟨P, 0, none⟩)) ∧ w'.cell? ⟨E, 2, none⟩ = some (.slice (some ⟨ga, 0, none⟩) ka ca)) (by kernel_rfl) ⟨p0b, a2b⟩ (fun hHeld => ?_)
          refine wpAnyH_take (i := 0) (oi := _) (v := ?qb_v0) rfl (by kernel_rfl) (by kernel_rfl) (by kernel_rfl) (fun _ _ _ h => h) (Or.inl ⟨by rfl, ?qb_y0⟩) (by assumption) ?qb_r0
          case qb_y0 => (intro w hSw; (try dsimp only at hSw); go_simp; (try with_reducible rfl))
          try simp only [Act.put, List.setIfInBounds_toArray, List.set_cons_zero, List.set_cons_succ]
          refine wpAnyH_take (i := 1) (oi := _) (v := ?qb_v1) rfl (by kernel_rfl) (by kernel_rfl) (by kernel_rfl) (fun _ _ _ h => h) (Or.inl ⟨by rfl, ?qb_y1⟩) (by assumption) ?qb_r1
          case qb_y1 => (intro w hSw; (try dsimp only at hSw); go_simp; (try with_reducible rfl))
          try simp only [Act.put, List.setIfInBounds_toArray, List.set_cons_zero, List.set_cons_succ]
          refine wpAnyH_take (i := 2) (oi := _) (v := ?qb_v2) rfl (by kernel_rfl) (by kernel_rfl) (by kernel_rfl) (fun _ _ _ h => h) (Or.inl ⟨by rfl, ?qb_y2⟩) (by assumption) ?qb_r2
          case qb_y2 => (intro w hSw; (try dsimp only at hSw); go_simp; (try with_reducible rfl))
          try simp only [Act.put, List.setIfInBounds_toArray, List.set_cons_zero, List.set_cons_succ]
          refine wpAnyH_ready (rs := [3]) (by kernel_rfl) (by simp) ?_
          refine AllReadyH.cons (o := _) rfl (fun K hK => ?_) AllReadyH.nil
          go_simp
          go_at_call 75; refine HRDb.out.mono ?_; rintro e w4 ⟨D, rfl, hk⟩
          refine ⟨rfl, ?_⟩
          rw [HREb.out]
          exact ⟨D, rfl, hk⟩
        | ok yb =>
          obtain ⟨ib, s3b⟩ := yb
          rw [hmb] at hrdb
          have HRDb := Lib.hid hrdb
          have HRob := Lib.hid (bind_ok hmb HRb.out)
          have HEAb : Hid (E ∉ ownB (.slice (some ⟨ga, 0, none⟩) ka ca)) := Lib.hid (fun e => (HSc.out.ue.foot E (List.mem_append.2 (.inl e))).2.2.2.1 rfl)
          clear hrdb hmb
          go_wp2_with fail
          refine have AFTERb : (∀ (w4 w5 : World) (g2 cap2 : Nat), (∃ m3, Stepped W wc.drew w4 P F T lo dp d m X mc s3b m3 ∧ w5.ownsRow lo 3 1 (.slice (some ⟨g2, 0, none⟩) (ka + 1) cap2) (ka + 1) (intsV (l ++ [ia]) ++ [.int .i64 (ib : Int)]) ∧ (w4.alloc (.cells #[.int .i64 (ib : Int)] 3)).grownBy w5 (Value.slice (some ⟨ga, 0, none⟩) ka ca).ownBlock ∧ ((Value.slice (some ⟨ga, 0, none⟩) ka ca).ownBlock = some g2 ∨ g2 = (w4.alloc (.cells #[.int .i64 (ib : Int)] 3)).heap.size)) → (?Gb : World → World → Nat → Nat → Prop) w4 w5 g2 cap2) := ?laterb; ?mainb
          case mainb =>
            go_region_law (first
              | (go_simp; go_at_call 75; refine HRDb.out.mono ?_; rintro e w4 ⟨rfl, m3, hs4⟩; have hnv : natV ib = .int .i64 (ib : Int) := rfl; have H4 := Lib.hid (HDRb.out.step hs4); have hB4 := HBDb.out.step hs4.outs hs4.later; have a24 := H4.out.ue.loc.blk.cell 2; have a24a := (H4.out.ue.loc.blk.alloc (.cells #[.int .i64 (ib : Int)] 3)).cell 2; have hrow := H4.out.ue.ok.args.alloc (.cells #[.int .i64 (ib : Int)] 3); have hrow := (HNb.out ▸ hrow : (w4.alloc (.cells #[.int .i64 (ib : Int)] 3)).ownsRow lo 3 1 (.slice (some ⟨ga, 0, none⟩) ka ca) ka (intsV (l ++ [ia]))); have hblk := World.alloc_heap_new w4 (.cells #[.int .i64 (ib : Int)] 3); have hlo4 : lo ≤ w4.heap.size := hs4.un.ps.base.2)
              | (refine step_append_lies _ rfl (.tmp 12) (.tmp 15) 26 rfl lo 3 iI (.int .i64 0) 1 8 Tryz.underlying26 hiI hzI hsI hbI rfl (by decide) _ _ _ rfl hrow ⟨w4.heap.size, 0, none⟩ 1 1 [.int .i64 (ib : Int)] rfl rfl (World.news_of_block hblk) (by intro u hu; simp at hu; subst hu; rfl) (by decide) (by unfold maxLen; omega) (by omega) (by simp; omega) _ rfl ?_; intro g2 cap2 w5 hown hgrow hat hlt; have hE5 := H4.out.ue.loc.lc (grown_lc (Y := ownB (.slice (some ⟨ga, 0, none⟩) ka ca)) hgrow (fun g e => mem_ownB.2 e)) HEAb.out; have c52 := hE5.blk.cell 2; have f52 := hE5.blk.frozen 2))
            all_goals exact AFTERb w4 w5 g2 cap2 ⟨m3, hs4, hown, hgrow, hat⟩
          case laterb =>
            rintro w4 w5 gb cb ⟨m3b, hs4, hown, hgrow, hat⟩
            have h4b := HDRb.out.step hs4
            have hpb := h4b.push (n := ka) HNb.out hown hgrow hat
            have HBb := Lib.hid ((HBDb.out.step hs4.outs hs4.later).lc hpb.2 (fun hk => by
              rcases List.mem_cons.1 hk with h1 | h1
              · exact HNB.out.2 h1
              · have := (h4b.ue.foot Bp (List.mem_append.2 (.inl h1))).2.2.2.2
                have := HNB.out.1
                omega))
            have HSb := Lib.hid hpb.1
            have HNbo : Hid (((l ++ [ia]) ++ [ib]).length = ka + 1) := Lib.hid (by rw [List.length_append, HNb.out]; rfl)
            clear hs4 hown hgrow hat hpb h4b p0b a2b
            obtain ⟨w6b, hw6b⟩ : ∃ w6, w5.setCell ⟨E, 2, none⟩ (.slice (some ⟨gb, 0, none⟩) (ka + 1) cb) = w6 := ⟨_, rfl⟩
            rw [hw6b] at HBb HSb ⊢
            clear hw6b
            obtain ⟨kb, hkb⟩ : ∃ q, ka + 1 = q := ⟨_, rfl⟩
            rw [hkb] at HSb HNbo
            have hkbb : kb ≤ 2000000000 := by omega
            clear hkb
            go_wp2_with fail
            go_end0
            rw [← HRob.out]
            exact HSb.out.k (by simp)
end Go.Proofs.YtljgggohjigaoaaGreatDoor
