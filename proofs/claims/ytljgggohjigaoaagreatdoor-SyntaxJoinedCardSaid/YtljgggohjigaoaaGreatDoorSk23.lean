/- An atom · What begins with a name, one a line -/
import Derived.Deep.RegionWith
import Derived.Deep.RegionHeld
import Derived.Test.YtljgggohjigaoaaGreatDoorSk22
namespace Go.Proofs.YtljgggohjigaoaaGreatDoor
open Go.RowKit Go.Shelf
set_option linter.unusedVariables false
set_option linter.unusedSimpArgs false

theorem want_peek (b : ByteArray) (s : Ps) : wantM b (peekS s) = wantM b s := by
 unfold wantM
 rw [next_peek, take_peek]
theorem between_peek {α : Type} (b e : ByteArray) (o : Bool) (nx : Sub) (f : PM Nat × PM Nat → PM α) (s : Ps) : betweenM b e o nx f (peekS s) = betweenM b e o nx f s := by
 unfold betweenM bindP
 rw [want_peek]
theorem list_peek (nx : Sub) (s : Ps) : listM nx (peekS s) = listM nx s := by
 unfold listM
 unfold bindP
 rw [between_peek]
theorem object_peek (nx : Sub) (s : Ps) : objectM nx (peekS s) = objectM nx s := by
 unfold objectM
 unfold bindP
 rw [between_peek]
theorem named_peek (nx : Sub) (s : Ps) : namedM nx (peekS s) = namedM nx s := by
 unfold namedM
 rw [next_peek, take_peek]
theorem text_peek (nx : Sub) (s : Ps) : textM nx (peekS s) = textM nx s := by
 unfold textM
 rw [next_peek, take_peek]
section
variable {P F T lo dp d : Nat} {nx : Sub}
set_option maxRecDepth 100000 in
set_option maxHeartbeats 4000000 in
theorem atom_any (hs : Subs F lo dp d nx) (hTX : ∀ (W : World) (s : Ps) (m : FileM), PsAt W P F T lo dp s m → Env W P F → Fit d s → (next s).k = 3 → Calls Tryz.prog 158 #[.pointer (some ⟨P, 0, none⟩)] W (PEnd W P F T lo dp m natV (textM nx s))) : Rds P F T lo dp d 149 #[.pointer (some ⟨P, 0, none⟩)] (atomM nx) := by
 intro W s m h he hf
 have hB1 := Loc.new h #[.pointer (some ⟨P, 0, none⟩)] 88
 have hU1 := (Un.start (X := []) h he hf).alloc (.cells #[.pointer (some ⟨P, 0, none⟩)] 88)
 obtain ⟨W1, hW1⟩ : ∃ W1, W.alloc (.cells #[.pointer (some ⟨P, 0, none⟩)] 88) = W1 := ⟨_, rfl⟩
 rw [hW1] at hB1 hU1
 have h4W := he.ready.1
 obtain ⟨t, ht⟩ : ∃ t, next s = t := ⟨_, rfl⟩
 have HT := Lib.hid ht
 have hPK := hU1.peek
 rw [ht] at hPK
 have HPK := Lib.hid hPK
 obtain ⟨R, hR⟩ : ∃ R, atomM nx s = R := ⟨_, rfl⟩
 have HR := Lib.hid hR
 rw [hR]
 have HB1 := Lib.hid hB1
 have HSUB := Lib.hid hs
 have HTX := Lib.hid hTX
 have HSZ := Lib.hid h4W
 have b1 := hB1.blk.cell 0
 have hmf : ∀ (fn : Fn) (first cap : Array Value) (w : World), (Instr.makeFunc fn first cap).run Tryz.prog w = .ok (.func fn first cap) w := fun _ _ _ _ => rfl
 clear h he hf hs hTX hR hU1 hB1 h4W ht hPK
 go_enter Tryz.func149, Tryz.ntmps149
 go_wp2_with fail
 go_at_call 52; refine HPK.out.mono ?_
 rintro e w2 ⟨rfl, hs2⟩
 have hB2 := HB1.out.step hs2.outs hs2.later
 have b2 := hB2.blk.cell 0
 have hM3 := Loc.new hs2.un.ps #[.int .i64 t.k, .string t.x, .int .i64 (t.at_ : Int)] 75
 have hU3 := hs2.un.alloc (.cells #[.int .i64 t.k, .string t.x, .int .i64 (t.at_ : Int)] 75)
 have hB3 := hB2.alloc (.cells #[.int .i64 t.k, .string t.x, .int .i64 (t.at_ : Int)] 75)
 have b3a := hB3.blk.cell 0
 have v30 := hM3.blk.cell 0
 have v31 := hM3.blk.cell 1
 obtain ⟨W3, hW3⟩ : ∃ W3, w2.alloc (.cells #[.int .i64 t.k, .string t.x, .int .i64 (t.at_ : Int)] 75) = W3 := ⟨_, rfl⟩
 rw [hW3] at hM3 hU3 hB3
 have b3 := hB3.blk.cell 0
 have HW3 := Lib.hid hW3
 have HM3 := Lib.hid hM3
 have HU3 := Lib.hid hU3
 have HBP3 := Lib.hid hB3
 have HO3 : Hid (Outs W W3 P F m) := Lib.hid hU3.outs.o
 have HL3 : Hid (Later W F m m) := Lib.hid hU3.later
 clear hs2 hB2 hM3 hU3 hB3 hW3
 by_cases h2 : t.k = 2
 ·have e2 : (t.k == 2) = true := by rw [h2]; rfl
  have HK2 := Lib.hid h2
  clear h2
  have hk0 : (next (peekS s)).k ≠ 0 := by rw [next_peek, HT.out, HK2.out]; decide
  have hTK := HU3.out.take hk0
  rw [next_peek, take_peek, HT.out] at hTK
  have HTK := Lib.hid hTK
  clear hk0 hTK
  go_wp2_with fail
  go_at_call 53; rw [HW3.out]; refine HTK.out.mono ?_
  rintro e w4 ⟨rfl, hs4⟩
  have hM4 := HM3.out.step hs4.outs hs4.later
  have hB4 := HBP3.out.step hs4.outs hs4.later
  have b4 := hB4.blk.cell 0
  have v41 := hM4.blk.cell 1
  have v42 := hM4.blk.cell 2
  have HADD := Lib.hid (hs4.un.addNone 4 t.x t.at_)
  have HEND : Hid (R = addM ⟨4, t.x, [], [], t.at_⟩ (takeS s)) := Lib.hid (by
   rw [← HR.out]
   unfold atomM
   simp only
   rw [HT.out, if_pos HK2.out])
  clear hs4 hM4 hB4
  go_wp2_with fail
  go_at_call 105; refine HADD.out.mono ?_
  rintro e w9 ⟨rfl, m9, hp9, ho9, hl9⟩
  have hnv : natV (takeS s).f.exprs.length = .int .i64 ((takeS s).f.exprs.length : Int) := rfl
  rw [hnv]
  go_wp2_with fail
  go_ret
  rw [HEND.out]
  exact ⟨rfl, m9, hp9, ho9, hl9⟩
 ·have e2 : (t.k == 2) = false := beq_eq_false_iff_ne.2 h2
  have HK2 := Lib.hid h2
  by_cases h3 : t.k = 3
  ·have e3 : (t.k == 3) = true := by rw [h3]; rfl
   have HK3 := Lib.hid h3
   clear h2 h3
   have hc9 := (HTX.out W3 (peekS s) m HU3.out.ps HU3.out.env HU3.out.fit (by rw [next_peek, HT.out]; exact HK3.out))
   have hend : R = textM nx (peekS s) := (by
    rw [← HR.out]
    unfold atomM
    simp only
    rw [HT.out, if_neg HK2.out, if_pos HK3.out]
    exact (text_peek nx s).symm)
   rw [← hend] at hc9
   have HC9 := Lib.hid hc9
   clear hc9 hend
   go_wp2_with fail
   go_at_call 158; rw [HW3.out]; refine HC9.out.mono ?_
   intro e w9 hk
   have hk := PEnd.trans HO3.out HL3.out hk
   cases R with
   | error bd =>
    obtain ⟨D, rfl, h1, h2, h3⟩ := hk
    exact ⟨rfl, D, rfl, h1, h2, h3⟩
   | ok y =>
    obtain ⟨a, s'⟩ := y
    obtain ⟨rfl, m', h1, h2, h3⟩ := hk
    have hnv : natV a = .int .i64 (a : Int) := rfl
    rw [hnv]
    go_wp2_with fail
    go_ret
    exact ⟨rfl, m', h1, h2, h3⟩
  ·have e3 : (t.k == 3) = false := beq_eq_false_iff_ne.2 h3
   have HK3 := Lib.hid h3
   by_cases hkk : t.k = 1 ∧ t.x ≠ wb [102, 111, 114]
   ·have e1 : (t.k == 1) = true := by rw [hkk.1]; rfl
    have ef : (t.x.toList == [102, 111, 114]) = false := word_no _ _ ⟨#[102, 111, 114]⟩ (by kernel_rfl) hkk.2
    have HKK := Lib.hid hkk
    clear h2 h3 hkk
    have hc9 := (named_any (P := P) (T := T) HSUB.out HU3.out.ps HU3.out.env HU3.out.fit (by rw [next_peek, HT.out, HKK.out.1]; decide))
    have hend : R = namedM nx (peekS s) := (by
     rw [← HR.out]
     unfold atomM
     simp only
     rw [HT.out, if_neg HK2.out, if_neg HK3.out, if_pos HKK.out]
     exact (named_peek nx s).symm)
    rw [← hend] at hc9
    have HC9 := Lib.hid hc9
    clear hc9 hend
    go_wp2_with fail
    go_at_call 159; rw [HW3.out]; refine HC9.out.mono ?_
    intro e w9 hk
    have hk := PEnd.trans HO3.out HL3.out hk
    cases R with
    | error bd =>
     obtain ⟨D, rfl, h1, h2, h3⟩ := hk
     exact ⟨rfl, D, rfl, h1, h2, h3⟩
    | ok y =>
     obtain ⟨a, s'⟩ := y
     obtain ⟨rfl, m', h1, h2, h3⟩ := hk
     have hnv : natV a = .int .i64 (a : Int) := rfl
     rw [hnv]
     go_wp2_with fail
     go_ret
     exact ⟨rfl, m', h1, h2, h3⟩
   ·have HK1 := Lib.hid hkk
    by_cases h1 : t.k = 1
    ·have e1 : (t.k == 1) = true := by rw [h1]; rfl
     have hf : t.x = ⟨#[102, 111, 114]⟩ := Classical.byContradiction fun hn => hkk ⟨h1, hn⟩
     have ef : (t.x.toList == [102, 111, 114]) = true := by rw [hf]; kernel_rfl
     clear h2 h3 hkk h1 hf
     obtain ⟨bp, hbp⟩ : ∃ b, isW ⟨#[40]⟩ t = b := ⟨_, rfl⟩
     have hip := HU3.out.is ⟨#[40]⟩
     rw [next_peek, peek_peek, HT.out, hbp] at hip
     have HIp := Lib.hid hip
     have HBp := Lib.hid hbp
     clear hip hbp
     go_wp2_with fail
     go_at_call 102; rw [HW3.out]; refine HIp.out.mono ?_
     rintro e w4 ⟨rfl, hsp⟩
     have HUw4 := Lib.hid hsp.un
     have HOw4 : Hid (Outs W w4 P F m) := Lib.hid hsp.un.outs.o
     have HLw4 : Hid (Later W F m m) := Lib.hid hsp.un.later
     have HBPw4 := Lib.hid (HBP3.out.step hsp.outs hsp.later)
     have bw4 := HBPw4.out.blk.cell 0
     clear hsp
     cases bp with
     | true =>
      have hO5 := Loc.new HUw4.out.ps #[.int .i64 0] 3
      have hU5 := HUw4.out.alloc (.cells #[.int .i64 0] 3)
      have hB5 := HBPw4.out.alloc (.cells #[.int .i64 0] 3)
      have b5 := hB5.blk.cell 0
      have hzW := HBPw4.out.blk.lt
      have h4W := HSZ.out
      obtain ⟨W5, hW5⟩ : ∃ W5, w4.alloc (.cells #[.int .i64 0] 3) = W5 := ⟨_, rfl⟩
      rw [hW5] at hO5 hU5 hB5
      have HW5 := Lib.hid hW5
      have hGR := grouped_any (α := Nat) hU5.ps HSUB.out.left (b := ⟨#[40]⟩) (en := ⟨#[41]⟩) (by decide) (by decide) (enters_of Tryz.func161 (by kernel_rfl) rfl) (lbr := #[.pointer (some ⟨W.heap.size, 0, none⟩), .pointer (some ⟨w4.heap.size, 0, none⟩)]) (X := [w4.heap.size]) (by
        intro k hk
        rw [List.mem_singleton.1 hk]
        exact hO5.blk.lt) (f := fun p => p.1) (St := StN P F T w4.heap.size) StN.aside
       (fun p hp W' s' ha hp' ho ht hff => by
        obtain ⟨d', rfl, hd1, hd2, hr1, hr2⟩ := HSUB.out.sub p hp
        exact atom1_any (hr1 P T) hd1 (Un.start hp' (hU5.env.aside ha) (hU5.fit.take.down.like ht hff)) (hO5.step (Outs.aside ha) (Later.refl _ _ _)) (hB5.step (Outs.aside ha) (Later.refl _ _ _)) (by omega))
      have HRB0 : Hid (bindP (betweenM ⟨#[40]⟩ ⟨#[41]⟩ true nx fun p => p.1) (fun r s' => .ok (r.1, s')) (peekS s) = R) := Lib.hid (by
       rw [← HR.out]
       unfold atomM
       simp only
       rw [HT.out, if_neg HK2.out, if_neg HK3.out, if_neg HK1.out]
       have i1 : isW (wb [40]) t = true := HBp.out
       rw [if_pos i1]
       unfold bindP
       rw [between_peek]
       rfl)
      have hDB : Dec d 1 (betweenM ⟨#[40]⟩ ⟨#[41]⟩ true nx fun p => p.1) := Dec.between (by decide) (fun p hp => HSUB.out.ok.expr p hp)
      obtain ⟨RB, hRB⟩ : ∃ RB, betweenM ⟨#[40]⟩ ⟨#[41]⟩ true nx (fun p => p.1) (peekS s) = RB := ⟨_, rfl⟩
      rw [hRB] at hGR
      have HGR := Lib.hid hGR
      have HRB := Lib.hid hRB
      have HDB := Lib.hid hDB
      have HU5 := Lib.hid hU5
      have hXf : ∀ k, k ∈ [w4.heap.size] → 4 ≤ k ∧ W.heap.size < k := fun k hk => by
       rw [List.mem_singleton.1 hk]
       omega
      have HXF := Lib.hid hXf
      clear hGR hRB hDB hO5 hU5 hB5 hW5 hzW h4W hXf
      go_wp2_with fail
      go_at_call 160; rw [HW5.out]; refine HGR.out.mono ?_
      intro e w7 hk
      cases RB with
      | error bd =>
       obtain ⟨D, rfl, hk2⟩ := HU5.out.kbad (fun k hk => .inr (Nat.le_of_lt (HXF.out k hk).2)) hk
       refine ⟨rfl, ?_⟩
       rw [bind_err HRB.out HRB0.out]
       exact Bad.p ⟨D, rfl, hk2⟩
      | ok y =>
       obtain ⟨⟨r, at_⟩, s7⟩ := y
       have hk4 := HU5.out.kend (fun k hk => ⟨(HXF.out k hk).1, .inr (Nat.le_of_lt (HXF.out k hk).2)⟩) (HU5.out.fit.dec HDB.out (by decide) HRB.out) hk
       obtain ⟨rfl, m7, hU7, hx7, hl7, hO7⟩ := hk4
       have hend : R = .ok (r, s7) := (bind_ok HRB.out HRB0.out).symm
       have HEND := Lib.hid hend
       have g7 := (show Loc w7 P F T m7 w4.heap.size #[.int .i64 (r : Int)] 3 from hO7).blk.cell 0
       have HU7 := Lib.hid hU7
       clear hk hU7 hx7 hl7 hO7 hend
       go_wp2_with fail
       go_ret
       rw [HEND.out]
       exact ⟨rfl, m7, HU7.out.ps, HU7.out.outs.o, HU7.out.later⟩
     | false =>
      obtain ⟨bl, hbl⟩ : ∃ b, isW ⟨#[91]⟩ t = b := ⟨_, rfl⟩
      have hil := HUw4.out.is ⟨#[91]⟩
      rw [next_peek, peek_peek, HT.out, hbl] at hil
      have HIl := Lib.hid hil
      have HBl := Lib.hid hbl
      clear hil hbl
      go_wp2_with fail
      go_at_call 102; refine HIl.out.mono ?_
      rintro e w5 ⟨rfl, hsl⟩
      have HUw5 := Lib.hid hsl.un
      have HOw5 : Hid (Outs W w5 P F m) := Lib.hid hsl.un.outs.o
      have HLw5 : Hid (Later W F m m) := Lib.hid hsl.un.later
      have HBPw5 := Lib.hid (HBPw4.out.step hsl.outs hsl.later)
      have bw5 := HBPw5.out.blk.cell 0
      clear hsl
      cases bl with
      | true =>
       have hc9 := (list_any (P := P) (T := T) HSUB.out w5 (peekS s) m HUw5.out.ps HUw5.out.env HUw5.out.fit)
       have hend : R = listM nx (peekS s) := (by
        rw [← HR.out]
        unfold atomM
        simp only
        rw [HT.out, if_neg HK2.out, if_neg HK3.out, if_neg HK1.out]
        have i1 : isW (wb [40]) t = false := HBp.out
        have i2 : isW (wb [91]) t = true := HBl.out
        rw [i1, i2]
        exact (list_peek nx s).symm)
       rw [← hend] at hc9
       have HC9 := Lib.hid hc9
       clear hc9 hend
       go_wp2_with fail
       go_at_call 162; refine HC9.out.mono ?_
       intro e w9 hk
       have hk := PEnd.trans HOw5.out HLw5.out hk
       cases R with
       | error bd =>
        obtain ⟨D, rfl, h1, h2, h3⟩ := hk
        exact ⟨rfl, D, rfl, h1, h2, h3⟩
       | ok y =>
        obtain ⟨a, s'⟩ := y
        obtain ⟨rfl, m', h1, h2, h3⟩ := hk
        have hnv : natV a = .int .i64 (a : Int) := rfl
        rw [hnv]
        go_wp2_with fail
        go_ret
        exact ⟨rfl, m', h1, h2, h3⟩
      | false =>
       obtain ⟨bo, hbo⟩ : ∃ b, isW ⟨#[123]⟩ t = b := ⟨_, rfl⟩
       have hio := HUw5.out.is ⟨#[123]⟩
       rw [next_peek, peek_peek, HT.out, hbo] at hio
       have HIo := Lib.hid hio
       have HBo := Lib.hid hbo
       clear hio hbo
       go_wp2_with fail
       go_at_call 102; refine HIo.out.mono ?_
       rintro e w6 ⟨rfl, hso⟩
       have HUw6 := Lib.hid hso.un
       have HOw6 : Hid (Outs W w6 P F m) := Lib.hid hso.un.outs.o
       have HLw6 : Hid (Later W F m m) := Lib.hid hso.un.later
       have HBPw6 := Lib.hid (HBPw5.out.step hso.outs hso.later)
       have bw6 := HBPw6.out.blk.cell 0
       clear hso
       cases bo with
       | true =>
        have hc9 := (object_any (P := P) (T := T) HSUB.out w6 (peekS s) m HUw6.out.ps HUw6.out.env HUw6.out.fit)
        have hend : R = objectM nx (peekS s) := (by
         rw [← HR.out]
         unfold atomM
         simp only
         rw [HT.out, if_neg HK2.out, if_neg HK3.out, if_neg HK1.out]
         have i1 : isW (wb [40]) t = false := HBp.out
         have i2 : isW (wb [91]) t = false := HBl.out
         have i3 : isW (wb [123]) t = true := HBo.out
         rw [i1, i2, i3]
         exact (object_peek nx s).symm)
        rw [← hend] at hc9
        have HC9 := Lib.hid hc9
        clear hc9 hend
        go_wp2_with fail
        go_at_call 163; refine HC9.out.mono ?_
        intro e w9 hk
        have hk := PEnd.trans HOw6.out HLw6.out hk
        cases R with
        | error bd =>
         obtain ⟨D, rfl, h1, h2, h3⟩ := hk
         exact ⟨rfl, D, rfl, h1, h2, h3⟩
        | ok y =>
         obtain ⟨a, s'⟩ := y
         obtain ⟨rfl, m', h1, h2, h3⟩ := hk
         have hnv : natV a = .int .i64 (a : Int) := rfl
         rw [hnv]
         go_wp2_with fail
         go_ret
         exact ⟨rfl, m', h1, h2, h3⟩
       | false =>
        have hrf := HUw6.out.refuse
        rw [next_peek, HT.out] at hrf
        have HRF := Lib.hid hrf
        have HEND : Hid (R = .error (50, t.at_)) := Lib.hid (by
         rw [← HR.out]
         unfold atomM
         simp only
         rw [HT.out, if_neg HK2.out, if_neg HK3.out, if_neg HK1.out]
         have i1 : isW (wb [40]) t = false := HBp.out
         have i2 : isW (wb [91]) t = false := HBl.out
         have i3 : isW (wb [123]) t = false := HBo.out
         rw [i1, i2, i3]
         rfl)
        clear hrf
        go_wp2_with fail
        go_at_call 59; refine HRF.out.mono ?_
        rintro e w7 ⟨D, rfl, hbad⟩
        have HBAD := Lib.hid hbad
        clear hbad
        go_wp2_with fail
        rw [HEND.out]
        exact ⟨rfl, Bad.p (HBAD.out _ rfl)⟩
    ·have e1 : (t.k == 1) = false := beq_eq_false_iff_ne.2 h1
     clear h2 h3 hkk h1
     obtain ⟨bp, hbp⟩ : ∃ b, isW ⟨#[40]⟩ t = b := ⟨_, rfl⟩
     have hip := HU3.out.is ⟨#[40]⟩
     rw [next_peek, peek_peek, HT.out, hbp] at hip
     have HIp := Lib.hid hip
     have HBp := Lib.hid hbp
     clear hip hbp
     go_wp2_with fail
     go_at_call 102; rw [HW3.out]; refine HIp.out.mono ?_
     rintro e w4 ⟨rfl, hsp⟩
     have HUw4 := Lib.hid hsp.un
     have HOw4 : Hid (Outs W w4 P F m) := Lib.hid hsp.un.outs.o
     have HLw4 : Hid (Later W F m m) := Lib.hid hsp.un.later
     have HBPw4 := Lib.hid (HBP3.out.step hsp.outs hsp.later)
     have bw4 := HBPw4.out.blk.cell 0
     clear hsp
     cases bp with
     | true =>
      have hO5 := Loc.new HUw4.out.ps #[.int .i64 0] 3
      have hU5 := HUw4.out.alloc (.cells #[.int .i64 0] 3)
      have hB5 := HBPw4.out.alloc (.cells #[.int .i64 0] 3)
      have b5 := hB5.blk.cell 0
      have hzW := HBPw4.out.blk.lt
      have h4W := HSZ.out
      obtain ⟨W5, hW5⟩ : ∃ W5, w4.alloc (.cells #[.int .i64 0] 3) = W5 := ⟨_, rfl⟩
      rw [hW5] at hO5 hU5 hB5
      have HW5 := Lib.hid hW5
      have hGR := grouped_any (α := Nat) hU5.ps HSUB.out.left (b := ⟨#[40]⟩) (en := ⟨#[41]⟩) (by decide) (by decide) (enters_of Tryz.func161 (by kernel_rfl) rfl) (lbr := #[.pointer (some ⟨W.heap.size, 0, none⟩), .pointer (some ⟨w4.heap.size, 0, none⟩)]) (X := [w4.heap.size]) (by
        intro k hk
        rw [List.mem_singleton.1 hk]
        exact hO5.blk.lt) (f := fun p => p.1) (St := StN P F T w4.heap.size) StN.aside
       (fun p hp W' s' ha hp' ho ht hff => by
        obtain ⟨d', rfl, hd1, hd2, hr1, hr2⟩ := HSUB.out.sub p hp
        exact atom1_any (hr1 P T) hd1 (Un.start hp' (hU5.env.aside ha) (hU5.fit.take.down.like ht hff)) (hO5.step (Outs.aside ha) (Later.refl _ _ _)) (hB5.step (Outs.aside ha) (Later.refl _ _ _)) (by omega))
      have HRB0 : Hid (bindP (betweenM ⟨#[40]⟩ ⟨#[41]⟩ true nx fun p => p.1) (fun r s' => .ok (r.1, s')) (peekS s) = R) := Lib.hid (by
       rw [← HR.out]
       unfold atomM
       simp only
       rw [HT.out, if_neg HK2.out, if_neg HK3.out, if_neg HK1.out]
       have i1 : isW (wb [40]) t = true := HBp.out
       rw [if_pos i1]
       unfold bindP
       rw [between_peek]
       rfl)
      have hDB : Dec d 1 (betweenM ⟨#[40]⟩ ⟨#[41]⟩ true nx fun p => p.1) := Dec.between (by decide) (fun p hp => HSUB.out.ok.expr p hp)
      obtain ⟨RB, hRB⟩ : ∃ RB, betweenM ⟨#[40]⟩ ⟨#[41]⟩ true nx (fun p => p.1) (peekS s) = RB := ⟨_, rfl⟩
      rw [hRB] at hGR
      have HGR := Lib.hid hGR
      have HRB := Lib.hid hRB
      have HDB := Lib.hid hDB
      have HU5 := Lib.hid hU5
      have hXf : ∀ k, k ∈ [w4.heap.size] → 4 ≤ k ∧ W.heap.size < k := fun k hk => by
       rw [List.mem_singleton.1 hk]
       omega
      have HXF := Lib.hid hXf
      clear hGR hRB hDB hO5 hU5 hB5 hW5 hzW h4W hXf
      go_wp2_with fail
      go_at_call 160; rw [HW5.out]; refine HGR.out.mono ?_
      intro e w7 hk
      cases RB with
      | error bd =>
       obtain ⟨D, rfl, hk2⟩ := HU5.out.kbad (fun k hk => .inr (Nat.le_of_lt (HXF.out k hk).2)) hk
       refine ⟨rfl, ?_⟩
       rw [bind_err HRB.out HRB0.out]
       exact Bad.p ⟨D, rfl, hk2⟩
      | ok y =>
       obtain ⟨⟨r, at_⟩, s7⟩ := y
       have hk4 := HU5.out.kend (fun k hk => ⟨(HXF.out k hk).1, .inr (Nat.le_of_lt (HXF.out k hk).2)⟩) (HU5.out.fit.dec HDB.out (by decide) HRB.out) hk
       obtain ⟨rfl, m7, hU7, hx7, hl7, hO7⟩ := hk4
       have hend : R = .ok (r, s7) := (bind_ok HRB.out HRB0.out).symm
       have HEND := Lib.hid hend
       have g7 := (show Loc w7 P F T m7 w4.heap.size #[.int .i64 (r : Int)] 3 from hO7).blk.cell 0
       have HU7 := Lib.hid hU7
       clear hk hU7 hx7 hl7 hO7 hend
       go_wp2_with fail
       go_ret
       rw [HEND.out]
       exact ⟨rfl, m7, HU7.out.ps, HU7.out.outs.o, HU7.out.later⟩
     | false =>
      obtain ⟨bl, hbl⟩ : ∃ b, isW ⟨#[91]⟩ t = b := ⟨_, rfl⟩
      have hil := HUw4.out.is ⟨#[91]⟩
      rw [next_peek, peek_peek, HT.out, hbl] at hil
      have HIl := Lib.hid hil
      have HBl := Lib.hid hbl
      clear hil hbl
      go_wp2_with fail
      go_at_call 102; refine HIl.out.mono ?_
      rintro e w5 ⟨rfl, hsl⟩
      have HUw5 := Lib.hid hsl.un
      have HOw5 : Hid (Outs W w5 P F m) := Lib.hid hsl.un.outs.o
      have HLw5 : Hid (Later W F m m) := Lib.hid hsl.un.later
      have HBPw5 := Lib.hid (HBPw4.out.step hsl.outs hsl.later)
      have bw5 := HBPw5.out.blk.cell 0
      clear hsl
      cases bl with
      | true =>
       have hc9 := (list_any (P := P) (T := T) HSUB.out w5 (peekS s) m HUw5.out.ps HUw5.out.env HUw5.out.fit)
       have hend : R = listM nx (peekS s) := (by
        rw [← HR.out]
        unfold atomM
        simp only
        rw [HT.out, if_neg HK2.out, if_neg HK3.out, if_neg HK1.out]
        have i1 : isW (wb [40]) t = false := HBp.out
        have i2 : isW (wb [91]) t = true := HBl.out
        rw [i1, i2]
        exact (list_peek nx s).symm)
       rw [← hend] at hc9
       have HC9 := Lib.hid hc9
       clear hc9 hend
       go_wp2_with fail
       go_at_call 162; refine HC9.out.mono ?_
       intro e w9 hk
       have hk := PEnd.trans HOw5.out HLw5.out hk
       cases R with
       | error bd =>
        obtain ⟨D, rfl, h1, h2, h3⟩ := hk
        exact ⟨rfl, D, rfl, h1, h2, h3⟩
       | ok y =>
        obtain ⟨a, s'⟩ := y
        obtain ⟨rfl, m', h1, h2, h3⟩ := hk
        have hnv : natV a = .int .i64 (a : Int) := rfl
        rw [hnv]
        go_wp2_with fail
        go_ret
        exact ⟨rfl, m', h1, h2, h3⟩
      | false =>
       obtain ⟨bo, hbo⟩ : ∃ b, isW ⟨#[123]⟩ t = b := ⟨_, rfl⟩
       have hio := HUw5.out.is ⟨#[123]⟩
       rw [next_peek, peek_peek, HT.out, hbo] at hio
       have HIo := Lib.hid hio
       have HBo := Lib.hid hbo
       clear hio hbo
       go_wp2_with fail
       go_at_call 102; refine HIo.out.mono ?_
       rintro e w6 ⟨rfl, hso⟩
       have HUw6 := Lib.hid hso.un
       have HOw6 : Hid (Outs W w6 P F m) := Lib.hid hso.un.outs.o
       have HLw6 : Hid (Later W F m m) := Lib.hid hso.un.later
       have HBPw6 := Lib.hid (HBPw5.out.step hso.outs hso.later)
       have bw6 := HBPw6.out.blk.cell 0
       clear hso
       cases bo with
       | true =>
        have hc9 := (object_any (P := P) (T := T) HSUB.out w6 (peekS s) m HUw6.out.ps HUw6.out.env HUw6.out.fit)
        have hend : R = objectM nx (peekS s) := (by
         rw [← HR.out]
         unfold atomM
         simp only
         rw [HT.out, if_neg HK2.out, if_neg HK3.out, if_neg HK1.out]
         have i1 : isW (wb [40]) t = false := HBp.out
         have i2 : isW (wb [91]) t = false := HBl.out
         have i3 : isW (wb [123]) t = true := HBo.out
         rw [i1, i2, i3]
         exact (object_peek nx s).symm)
        rw [← hend] at hc9
        have HC9 := Lib.hid hc9
        clear hc9 hend
        go_wp2_with fail
        go_at_call 163; refine HC9.out.mono ?_
        intro e w9 hk
        have hk := PEnd.trans HOw6.out HLw6.out hk
        cases R with
        | error bd =>
         obtain ⟨D, rfl, h1, h2, h3⟩ := hk
         exact ⟨rfl, D, rfl, h1, h2, h3⟩
        | ok y =>
         obtain ⟨a, s'⟩ := y
         obtain ⟨rfl, m', h1, h2, h3⟩ := hk
         have hnv : natV a = .int .i64 (a : Int) := rfl
         rw [hnv]
         go_wp2_with fail
         go_ret
         exact ⟨rfl, m', h1, h2, h3⟩
       | false =>
        have hrf := HUw6.out.refuse
        rw [next_peek, HT.out] at hrf
        have HRF := Lib.hid hrf
        have HEND : Hid (R = .error (50, t.at_)) := Lib.hid (by
         rw [← HR.out]
         unfold atomM
         simp only
         rw [HT.out, if_neg HK2.out, if_neg HK3.out, if_neg HK1.out]
         have i1 : isW (wb [40]) t = false := HBp.out
         have i2 : isW (wb [91]) t = false := HBl.out
         have i3 : isW (wb [123]) t = false := HBo.out
         rw [i1, i2, i3]
         rfl)
        clear hrf
        go_wp2_with fail
        go_at_call 59; refine HRF.out.mono ?_
        rintro e w7 ⟨D, rfl, hbad⟩
        have HBAD := Lib.hid hbad
        clear hbad
        go_wp2_with fail
        rw [HEND.out]
        exact ⟨rfl, Bad.p (HBAD.out _ rfl)⟩
end
end Go.Proofs.YtljgggohjigaoaaGreatDoor
namespace Go.Proofs.YtljgggohjigaoaaGreatDoor
open Go.RowKit Go.Shelf
set_option linter.unusedVariables false

section
variable {W : World} {P F T lo dp d : Nat} {s : Ps} {m : FileM} {X : List Nat}
end
end Go.Proofs.YtljgggohjigaoaaGreatDoor
