/- What the signs of a level join · All levels joined; what a sign stands ahead of -/
import Derived.Deep.DeepCutAuto
import Derived.Test.YtljgggohjigaoaaGreatDoorSy15
namespace Go.Proofs.YtljgggohjigaoaaGreatDoor
open Go.RowKit Go.Shelf
set_option linter.unusedVariables false

theorem PEnd.trans {α : Type} {W W1 w' : World} {P F T lo dp : Nat} {m m1 : FileM} {val : α → Value} {r : PR α} {e : Ending} (ho : Outs W W1 P F m) (hl : Later W F m m1) (h : PEnd W1 P F T lo dp m1 val r e w') : PEnd W P F T lo dp m val r e w' := by
  unfold PEnd at h ⊢
  cases r with
  | error bd =>
    obtain ⟨D, h1, h2, h3, h4⟩ := h
    exact ⟨D, h1, Nat.le_trans ho.size h2, h3, ho.trans hl h4⟩
  | ok y =>
    obtain ⟨a, s'⟩ := y
    obtain ⟨h1, m', h2, h3, h4⟩ := h
    exact ⟨h1, m', h2, ho.trans hl h3, hl.trans ho.size h4⟩
def natV (n : Nat) : Value := .int .i64 (n : Int)
/-- A reader of numbers, where d levels are left. -/
def Rds (P F T lo dp d : Nat) (fn : Nat) (args : Array Value) (sp : PM Nat) : Prop := ∀ (W : World) (s : Ps) (m : FileM), PsAt W P F T lo dp s m → Env W P F → Fit d s → Calls Tryz.prog fn args W (PEnd W P F T lo dp m natV (sp s))
theorem lev_cell {W : World} (h : LevAt W) (lv : Nat) (hl : lv < 6) : W.cell? ⟨1, lv * 2, none⟩ = some (.int .i64 (lowK lv)) ∧ W.cell? ⟨1, lv * 2 + 1, none⟩ = some (.int .i64 (topK lv)) := by
  obtain ⟨t, fr, h⟩ := h
  have hc : ∀ i, W.cell? ⟨1, i, none⟩ = levC[i]? := fun i => by
    simp [World.cell?, h]
  rw [hc, hc]
  match lv, hl with
  | 0, _ => exact ⟨rfl, rfl⟩
  | 1, _ => exact ⟨rfl, rfl⟩
  | 2, _ => exact ⟨rfl, rfl⟩
  | 3, _ => exact ⟨rfl, rfl⟩
  | 4, _ => exact ⟨rfl, rfl⟩
  | 5, _ => exact ⟨rfl, rfl⟩
theorem peekL_idem (o : Bool) (l : List Tk) : peekL o (peekL o l) = peekL o l := peek_idem o l
theorem next_peek (s : Ps) : next (peekS s) = next s := by
  show headT (peekL s.over (peekL s.over s.toks)) = _
  rw [peekL_idem]
  rfl
theorem take_peek (s : Ps) : takeS (peekS s) = takeS s := by
  show ({ peekS s with toks := (peekL s.over (peekL s.over s.toks)).drop 1 } : Ps) = _
  rw [peekL_idem]
  rfl
theorem take_lt {s : Ps} (h : (next s).k ≠ 0) : (takeS s).toks.length < s.toks.length := by
  have h1 := (peekL_sfx s.over s.toks).length_le
  show ((peekL s.over s.toks).drop 1).length < _
  cases hp : peekL s.over s.toks with
  | nil =>
    exfalso
    apply h
    show (headT (peekL s.over s.toks)).k = 0
    rw [hp]
    rfl
  | cons a q =>
    rw [hp] at h1
    simp at h1 ⊢
    omega
section
variable {P F T lo dp d : Nat} {nx : Sub}
set_option maxRecDepth 100000 in
set_option maxHeartbeats 4000000 in
theorem joined_zero (hS : Rds P F T lo dp d 119 #[.pointer (some ⟨P, 0, none⟩)] (signedM nx)) : Rds P F T lo dp d 103 #[.pointer (some ⟨P, 0, none⟩), .int .i64 6] (joinedM nx 0) := by
  intro W s m h he hf
  have HS := Lib.hid (hS W s m h he hf)
  have HR : Hid (joinedM nx 0 s = signedM nx s) := Lib.hid rfl
  rw [HR.out]
  obtain ⟨R, hR⟩ : ∃ R, signedM nx s = R := ⟨_, rfl⟩
  rw [hR] at HS ⊢
  clear hR HR h he hf hS
  go_enter Tryz.func103, Tryz.ntmps103
  go_wp2_with fail
  go_at_call 119; refine HS.out.mono ?_
  intro e w2 hk
  cases R with
  | error bd =>
    obtain ⟨D, rfl, h1, h2, h3⟩ := hk
    exact ⟨rfl, D, rfl, h1, h2, h3⟩
  | ok y =>
    obtain ⟨a, s'⟩ := y
    obtain ⟨rfl, m', h1, h2, h3⟩ := hk
    go_wp2_with fail
    go_ret
    exact ⟨rfl, m', h1, h2, h3⟩
set_option maxRecDepth 100000 in
set_option maxHeartbeats 4000000 in
theorem joined_more (hx : SubOk d nx) {n lv : Nat} (hlv : n + lv = 5) (hJ : Rds P F T lo dp d 103 #[.pointer (some ⟨P, 0, none⟩), .int .i64 ((lv : Int) + 1)] (joinedM nx n)) : Rds P F T lo dp d 103 #[.pointer (some ⟨P, 0, none⟩), .int .i64 (lv : Int)] (joinedM nx (n + 1)) := by
  intro W s m h he hf
  have HJ := Lib.hid hJ
  have HPS := Lib.hid (And.intro h (And.intro he hf))
  have HD : Hid (Dec d 0 (joinedM nx n)) := Lib.hid (joined_dec hx n)
  have HJ1 := Lib.hid (hJ W s m h he hf)
  obtain ⟨sub, hsub⟩ : ∃ sub, joinedM nx n = sub := ⟨_, rfl⟩
  obtain ⟨R, hR⟩ : ∃ R, joinedM nx (n + 1) s = R := ⟨_, rfl⟩
  have HR : Hid (bindP sub (fun left s => joinLoop sub lv (s.toks.length + 1) left s) s = R) := Lib.hid (by
    have hl : lv = 5 - n := by omega
    rw [← hR, ← hsub, hl]
    rfl)
  rw [hR]
  rw [hsub] at HJ HJ1 HD
  have e6 : ((lv : Int) == 6) = false := by simp; omega
  have l0 : (0 : Int) ≤ (lv : Int) := by omega
  have l6 : (lv : Int) < 6 := by omega
  have hlv6 : lv < 6 := by omega
  obtain ⟨R1, hR1⟩ : ∃ R1, sub s = R1 := ⟨_, rfl⟩
  have HR1 := Lib.hid hR1
  rw [hR1] at HJ1
  clear h he hf hJ hR hsub hx hlv hR1
  go_enter Tryz.func103, Tryz.ntmps103
  go_wp2_with fail
  go_at_call 103; refine HJ1.out.mono ?_
  intro e w2 hk
  cases R1 with
  | error bd =>
    obtain ⟨D, rfl, h1, h2, h3⟩ := hk
    have hR2 : R = .error bd := by rw [← HR.out]; unfold bindP; rw [HR1.out]
    refine ⟨rfl, ?_⟩
    rw [hR2]
    exact ⟨D, rfl, h1, h2, h3⟩
  | ok y =>
    obtain ⟨left, s1⟩ := y
    obtain ⟨rfl, m1, hp1, ho1, hl1⟩ := hk
    have HR2 : Hid (joinLoop sub lv (s1.toks.length + 1) left s1 = R) := Lib.hid (by rw [← HR.out]; unfold bindP; rw [HR1.out])
    have hdec := HD.out s HPS.out.2.2.snd left s1 HR1.out
    have HW2 := Lib.hid (And.intro hp1 (And.intro ho1 (And.intro hl1 (And.intro (HPS.out.2.1.outs HPS.out.1 ho1) (HPS.out.2.2.of hdec.1 hdec.2 (by omega))))))
    have hnv : natV left = .int .i64 (left : Int) := rfl
    rw [hnv]
    clear hp1 ho1 hl1 hdec hnv HR HR1 HJ1
    go_wp2_with fail
    go_loopg [5] (s1.toks.length + 1) (fun gf s5 wx => ∃ (l : Nat) (s' : Ps) (m' : FileM), s5 = .int .i64 (l : Int) ∧ Hid (PsAt wx P F T lo dp s' m' ∧ Outs W wx P F m ∧ Later W F m m' ∧ Env wx P F ∧ Fit d s') ∧ Hid (joinLoop sub lv gf l s' = R) ∧ s'.toks.length < gf)
    case atStart => exact ⟨left, s1, m1, rfl, HW2, HR2, by omega⟩
    case round =>
      obtain ⟨l, s', m', rfl, HW, HRL, hlen⟩ := hrel
      clear HW2 HR2
      obtain ⟨g', rfl⟩ : ∃ g', gk = g' + 1 := ⟨gk - 1, by omega⟩
      have HPK := Lib.hid (peek_ps HW.out.1)
      obtain ⟨t, ht⟩ : ∃ t, next s' = t := ⟨_, rfl⟩
      have HT := Lib.hid ht
      rw [ht] at HPK
      have HJO := Lib.hid (fun w => joins_any t w)
      obtain ⟨kz, hkz⟩ : ∃ kz, joinsT t = kz := ⟨_, rfl⟩
      have HKZ := Lib.hid hkz
      rw [hkz] at HJO
      clear ht hkz
      go_wp2_with fail
      go_at_call 52; refine HPK.out.mono ?_
      rintro e w3 ⟨rfl, hp3, ha3⟩
      have HP3 := Lib.hid (And.intro hp3 ha3)
      clear hp3 ha3
      go_wp2_with fail
      go_at_call 120; refine (HJO.out _).mono ?_
      rintro e w4 ⟨rfl, hb4⟩
      have HP4 := Lib.hid (And.intro (HP3.out.1.below hb4) (HP3.out.2.trans (Aside.of hb4)))
      have he4 : Env w4 P F := (HW.out.2.2.2.1.aside HP3.out.2).below hb4
      have HE4 := Lib.hid he4
      obtain ⟨c0, c1⟩ := lev_cell he4.lev lv hlv6
      obtain ⟨lz, hlz⟩ : ∃ z, lowK lv = z := ⟨_, rfl⟩
      obtain ⟨tz, htz⟩ : ∃ z, topK lv = z := ⟨_, rfl⟩
      rw [hlz] at c0
      rw [htz] at c1
      have HLZ := Lib.hid (And.intro hlz htz)
      clear hb4 he4 hlz htz
      by_cases hin : lz ≤ kz ∧ kz ≤ tz
      · have i1 : ¬ kz < lz := by omega
        have i2 : ¬ tz < kz := by omega
        have HIN := Lib.hid hin
        obtain ⟨i3, i4⟩ := hin
        have hcnd : lowK lv ≤ joinsT (next s') ∧ joinsT (next s') ≤ topK lv := by rw [HT.out, HKZ.out, HLZ.out.1, HLZ.out.2]; exact HIN.out
        have hw1 := joins_wt hcnd.1
        have hk0 : (next s').k ≠ 0 := fun e => by
          have h0 : wt (next s') = 0 := by unfold wt; rw [if_pos e]
          omega
        have hk1 : (next (peekS s')).k ≠ 0 := by rw [next_peek]; exact hk0
        have htk := take_ps HP4.out.1 hk1
        rw [next_peek, take_peek, HT.out] at htk
        have HTK := Lib.hid htk
        have hft : Fit d (takeS s') := HW.out.2.2.2.2.of (c := 0) (take_sfx s') (by have := pot_take s'; omega) (by omega)
        have hlt : (takeS s').toks.length < s'.toks.length := by
          have := take_lt hk0
          exact this
        have HFT := Lib.hid (And.intro hft hlt)
        have hfl : ∀ w : World, (Instr.field 75 (tkV t) 2).run Tryz.prog w = .ok (.int .i64 (t.at_ : Int)) w := fun _ => rfl
        have HRL2 : Hid (bindP sub (fun right => bindP (addM ⟨kz, ⟨#[]⟩, [l, right], [], t.at_⟩) fun i => joinLoop sub lv g' i) (takeS s') = R) := Lib.hid (by
          rw [← HRL.out]
          conv => rhs; unfold joinLoop
          rw [if_pos hcnd, HT.out, HKZ.out])
        clear hcnd hw1 hk0 hk1 htk hft hlt HRL
        go_wp2_with fail
        go_at_call 53; refine HTK.out.mono ?_
        rintro e w5 ⟨rfl, hp5, ha5⟩
        have HP5 := Lib.hid (And.intro hp5 (And.intro (HP4.out.2.trans ha5) (HE4.out.aside ha5)))
        have HJ2 := Lib.hid (HJ.out w5 (takeS s') m' hp5 HP5.out.2.2 HFT.out.1)
        obtain ⟨R2, hR2⟩ : ∃ R2, sub (takeS s') = R2 := ⟨_, rfl⟩
        have HR2 := Lib.hid hR2
        rw [hR2] at HJ2
        clear hp5 ha5 hR2 c0 c1
        go_wp2_with fail
        go_at_call 103; refine HJ2.out.mono ?_
        intro e w6 hk
        have ho5 : Outs W w5 P F m := HW.out.2.1.trans HW.out.2.2.1 (Outs.aside HP5.out.2.1)
        have hl5 : Later W F m m' := HW.out.2.2.1
        cases R2 with
        | error bd =>
          obtain ⟨D, rfl, h1, h2, h3⟩ := hk
          have hR3 : R = .error bd := by rw [← HRL2.out]; unfold bindP; rw [HR2.out]
          refine ⟨rfl, ?_⟩
          rw [hR3]
          exact ⟨D, rfl, Nat.le_trans ho5.size h1, h2, ho5.trans hl5 h3⟩
        | ok y =>
          obtain ⟨right, s2⟩ := y
          obtain ⟨rfl, m2, hp6, ho6, hl6⟩ := hk
          have hdec := HD.out (takeS s') HFT.out.1.snd right s2 HR2.out
          have hf2 : Fit d s2 := HFT.out.1.of hdec.1 hdec.2 (by omega)
          have hnv : natV right = .int .i64 (right : Int) := rfl
          rw [hnv]
          have HR4 : Hid (joinLoop sub lv g' s2.f.exprs.length { s2 with f := { s2.f with exprs := s2.f.exprs ++ [⟨kz, ⟨#[]⟩, [l, right], [], t.at_⟩] } } = R) := Lib.hid (by
            rw [← HRL2.out]
            unfold bindP
            rw [HR2.out]
            rfl)
          have HAD := Lib.hid (add_lit hp6 kz ⟨#[]⟩ [l, right] (by simp) t.at_ hf2.room)
          have HW6 := Lib.hid (And.intro (ho5.trans hl5 ho6) (And.intro (hl5.trans ho5.size hl6) (And.intro (HP5.out.2.2.outs HP5.out.1 ho6) (And.intro hdec hf2))))
          have HP6 := Lib.hid hp6
          clear hp6 ho6 hl6 hdec hf2 hnv ho5 hl5
          go_wp2_with fail
          go_at_call 105; refine HAD.out.mono ?_
          rintro e w7 ⟨rfl, m3, hp7, ho7, hl7⟩
          have HW7 : Hid (PsAt w7 P F T lo dp { s2 with f := { s2.f with exprs := s2.f.exprs ++ [⟨kz, ⟨#[]⟩, [l, right], [], t.at_⟩] } } m3 ∧ Outs W w7 P F m ∧ Later W F m m3 ∧ Env w7 P F ∧ Fit d { s2 with f := { s2.f with exprs := s2.f.exprs ++ [⟨kz, ⟨#[]⟩, [l, right], [], t.at_⟩] } }) := Lib.hid (by
            refine ⟨hp7, HW6.out.1.trans HW6.out.2.1 ho7, HW6.out.2.1.trans HW6.out.1.size hl7, HW6.out.2.2.1.outs HP6.out ho7, HW6.out.2.2.2.2.snd, HW6.out.2.2.2.2.txt, HW6.out.2.2.2.2.pos, ?_⟩
            have h1 := HW6.out.2.2.2.1.2
            have h2 := pot_take s'
            have h3 := HW.out.2.2.2.2.pot
            have h4 := joins_wt (t := next s') (lv := lv) (by rw [HT.out, HKZ.out, HLZ.out.1]; exact HIN.out.1)
            unfold Go.Proofs.YtljgggohjigaoaaGreatDoor.pot at h1 h2 h3 ⊢
            simp only [List.length_append, List.length_cons, List.length_nil] at h1 h2 h3 ⊢
            omega)
          have hll := HFT.out.2
          have hl2 := HW6.out.2.2.2.1.1.length_le
          clear hp7 ho7 hl7
          go_wp2_with fail
          go_roundg g'
          case measure => omega
          case rel => exact ⟨_, _, m3, rfl, HW7, HR4, by show s2.toks.length < g'; omega⟩
      · have HNI := Lib.hid hin
        have hend : R = .ok (l, peekS s') := by
          rw [← HRL.out]
          unfold joinLoop
          rw [if_neg (by rw [HT.out, HKZ.out, HLZ.out.1, HLZ.out.2]; exact HNI.out)]
        have HEND := Lib.hid hend
        clear hend
        by_cases hlo2 : kz < lz
        · clear hin
          go_wp2_with fail
          go_ret
          rw [HEND.out]
          exact ⟨rfl, m', HP4.out.1, HW.out.2.1.trans HW.out.2.2.1 (Outs.aside HP4.out.2), HW.out.2.2.1⟩
        · have i2 : tz < kz := by omega
          clear hin
          go_wp2_with fail
          go_ret
          rw [HEND.out]
          exact ⟨rfl, m', HP4.out.1, HW.out.2.1.trans HW.out.2.2.1 (Outs.aside HP4.out.2), HW.out.2.2.1⟩
end
end Go.Proofs.YtljgggohjigaoaaGreatDoor
namespace Go.Proofs.YtljgggohjigaoaaGreatDoor
open Go.RowKit Go.Shelf
set_option linter.unusedVariables false

section
variable {P F T lo dp d : Nat} {nx : Sub}
theorem joined_any (hx : SubOk d nx) (hS : Rds P F T lo dp d 119 #[.pointer (some ⟨P, 0, none⟩)] (signedM nx)) : ∀ n, n ≤ 6 → Rds P F T lo dp d 103 #[.pointer (some ⟨P, 0, none⟩), .int .i64 ((6 - n : Nat) : Int)] (joinedM nx n) := by
  intro n
  induction n with
  | zero => intro _; exact joined_zero hS
  | succ n ih =>
    intro hn
    have h1 := ih (by omega)
    have e : ((6 - n : Nat) : Int) = ((5 - n : Nat) : Int) + 1 := by omega
    rw [e] at h1
    have h2 := joined_more (lv := 5 - n) hx (by omega) h1
    rw [show 6 - (n + 1) = 5 - n by omega]
    exact h2
theorem PsAt.same {W W' : World} {s : Ps} {m : FileM} (h : PsAt W P F T lo dp s m) (hs : W.heap.size ≤ W'.heap.size) (hk : ∀ k, k < W.heap.size → (k = P ∨ k = T ∨ k ∈ m.foot F) → W'.heap[k]? = W.heap[k]?) : PsAt W' P F T lo dp s m :=
  ⟨h.tok.same hs (hk P h.tok.ranks.1 (.inl rfl)) (hk T h.tok.ranks.2.1 (.inr (.inl rfl))), h.ton, h.good, h.file.keep (fun k hm => hk k (h.file.lt k hm).1 (.inr (.inr hm))), h.far, h.base.1, Nat.le_trans h.base.2 hs⟩
/-- The expression under way at E, whose one argument is new. -/
def ArgAt (P F T lo E : Nat) (k : Int) (a N : Nat) (i : Nat) (m : FileM) (w : World) : Prop := ∃ g, Blk w g #[.int .i64 (i : Int)] 3 ∧ Blk w E #[.int .i64 k, .string ⟨#[]⟩, .slice (some ⟨g, 0, none⟩) 1 1, .slice none 0 0, .int .i64 (a : Int)] 38 ∧ g ∉ m.foot F ∧ g ≠ P ∧ g ≠ T ∧ E ≠ P ∧ lo ≤ g ∧ N ≤ g
theorem ArgAt.aside {P F T lo E : Nat} {k : Int} {a N i : Nat} {m : FileM} {w w' : World} (h : ArgAt P F T lo E k a N i m w) (ha : Aside P w w') : ArgAt P F T lo E k a N i m w' := by
  obtain ⟨g, h1, h2, h3, h4, h5, h6, h7⟩ := h
  exact ⟨g, h1.aside ha h4, h2.aside ha h6, h3, h4, h5, h6, h7⟩
set_option maxRecDepth 100000 in
set_option maxHeartbeats 4000000 in
theorem signed1_any {W : World} {s : Ps} {m : FileM} {sp : PM Nat} (hS : Rds P F T lo dp d 119 #[.pointer (some ⟨P, 0, none⟩)] sp) (h : PsAt W P F T lo dp s m) (he : Env W P F) (hf : Fit d s) {Bp E : Nat} {k : Int} {a : Nat} (bp : Blk W Bp #[.pointer (some ⟨P, 0, none⟩)] 88) (be : Blk W E #[.int .i64 k, .string ⟨#[]⟩, .slice none 0 0, .slice none 0 0, .int .i64 (a : Int)] 38) (hEP : E ≠ P) (hET : E ≠ T) (hEf : E ∉ m.foot F) :
    Calls Tryz.prog 137 #[.pointer (some ⟨Bp, 0, none⟩), .pointer (some ⟨E, 0, none⟩)] W (KEnd W P F T lo dp m [E] (ArgAt P F T lo E k a W.heap.size) (sp s) (fun _ => .tuple #[])) := by
  have HS := Lib.hid (hS W s m h he hf)
  obtain ⟨R, hR⟩ : ∃ R, sp s = R := ⟨_, rfl⟩
  rw [hR] at HS ⊢
  have c0 := bp.cell 0
  have HPS := Lib.hid h
  have HBE := Lib.hid be
  have HF := Lib.hid (And.intro hEP (And.intro hET hEf))
  have hrk := h.tok.ranks
  have HRK := Lib.hid hrk
  clear h he hf hS bp be hEP hET hEf hR hrk
  go_enter Tryz.func137, Tryz.ntmps137
  go_wp2_with fail
  go_at_call 119; refine HS.out.mono ?_
  intro e w2 hk
  cases R with
  | error bd =>
    obtain ⟨D, rfl, h1, h2, h3⟩ := hk
    exact ⟨rfl, D, rfl, h1, h2, ⟨h3.os, h3.tape, h3.output, h3.size, fun k hk h4 h5 _ => h3.block k hk h4 h5⟩⟩
  | ok y =>
    obtain ⟨i, s'⟩ := y
    obtain ⟨rfl, m', hp2, ho2, hl2⟩ := hk
    have hnv : natV i = .int .i64 (i : Int) := rfl
    rw [hnv]
    have hbe2 : Blk w2 E #[.int .i64 k, .string ⟨#[]⟩, .slice none 0 0, .slice none 0 0, .int .i64 (a : Int)] 38 := (ho2.block E HBE.out.lt HF.out.1 HF.out.2.2).trans HBE.out
    have hfE : E ∉ m'.foot F := fun hm => by
      rcases hl2 E hm with h1 | h1
      · exact HF.out.2.2 h1
      · have := HBE.out.lt; omega
    have hb3 := hbe2.alloc (.cells #[.int .i64 (i : Int)] 3)
    have c2 := hbe2.cell 2
    have f2 := hbe2.frozen 2
    have c2a := hb3.cell 2
    have f2a := hb3.frozen 2
    have HW2 := Lib.hid (And.intro hp2 (And.intro ho2 (And.intro hl2 (And.intro hbe2 (And.intro hfE hb3)))))
    clear hp2 ho2 hl2 hbe2 hfE hb3 hnv
    go_wp2_with fail
    go_end0
    obtain ⟨hp2, ho2, hl2, hbe2, hfE, hb3⟩ := HW2.out
    have hlt := hbe2.lt
    have hkp : ∀ j, j < w2.heap.size → j ≠ E → ((w2.alloc (.cells #[.int .i64 (i : Int)] 3)).setCell ⟨E, 2, none⟩ (.slice (some ⟨w2.heap.size, 0, none⟩) 1 1)).heap[j]? = w2.heap[j]? := fun j hj hjE => by
      rw [Below.heap_setCell _ _ _ _ (by exact hjE)]
      exact (below_new w2 (.cells #[.int .i64 (i : Int)] 3)).block j hj
    have hsz : ((w2.alloc (.cells #[.int .i64 (i : Int)] 3)).setCell ⟨E, 2, none⟩ (.slice (some ⟨w2.heap.size, 0, none⟩) 1 1)).heap.size = w2.heap.size + 1 := by simp
    refine ⟨rfl, m', hp2.same (by omega) (fun j hj hm => hkp j hj ?_), ⟨ho2.os, ho2.tape, ho2.output, by have := ho2.size; omega, fun j hj h1 h2 h3 => (hkp j (Nat.lt_of_lt_of_le hj ho2.size) (fun e => h3 (by rw [e]; exact List.mem_cons_self))).trans (ho2.block j hj h1 h2)⟩, hl2, w2.heap.size, ?_, ?_, ?_, ?_, ?_, HF.out.1, hp2.base.2, ho2.size⟩
    · rcases hm with rfl | rfl | hm
      · exact fun e => HF.out.1 e.symm
      · exact fun e => HF.out.2.1 e.symm
      · rintro rfl; exact hfE hm
    · exact (Blk.new w2 #[.int .i64 (i : Int)] 3).other (p := ⟨E, 2, none⟩) (by show w2.heap.size ≠ E; omega) _
    · have := hb3.set 2 (.slice (some ⟨w2.heap.size, 0, none⟩) 1 1)
      simpa using this
    · intro hm
      have := (hp2.file.lt _ hm).1
      omega
    · have := hp2.tok.ranks; omega
    · have := hp2.tok.ranks; omega
end
end Go.Proofs.YtljgggohjigaoaaGreatDoor
