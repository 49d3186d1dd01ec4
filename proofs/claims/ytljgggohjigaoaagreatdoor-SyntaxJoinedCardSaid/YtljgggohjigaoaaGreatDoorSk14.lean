/- All levels joined; what a sign stands ahead of · What stands behind a sign, and what without one -/
import Derived.Test.YtljgggohjigaoaaGreatDoorSk13
namespace Go.Proofs.YtljgggohjigaoaaGreatDoor
open Go.RowKit Go.Shelf
set_option linter.unusedVariables false

section
variable {P F T lo dp d : Nat} {nx : Sub}
theorem joined_any (hx : SubOk d nx) (hS : Rds P F T lo dp d 119 #[.pointer (some ⟨P, 0, none⟩)] (signedM nx)) : ∀ n, n ≤ 6 → Rds P F T lo dp d 103 #[.pointer (some ⟨P, 0, none⟩), .int .i64 ((6 - n : Nat) : Int)] (joinedM nx n) := by
 intro n
 induction n with
 | zero => intro _; exact joined_zero hS
 | succ n ih =>
  intro hn
  have h1 := ih (by omega)
  have e : ((6 - n : Nat) : Int) = ((5 - n : Nat) : Int) + 1 := by omega
  rw [e] at h1
  have h2 := joined_more (lv := 5 - n) hx (by omega) h1
  rw [show 6 - (n + 1) = 5 - n by omega]
  exact h2
theorem PsAt.same {W W' : World} {s : Ps} {m : FileM} (h : PsAt W P F T lo dp s m) (hs : W.heap.size ≤ W'.heap.size) (hk : ∀ k, k < W.heap.size → (k = P ∨ k = T ∨ k ∈ m.foot F) → W'.heap[k]? = W.heap[k]?) : PsAt W' P F T lo dp s m :=
 ⟨h.tok.same hs (hk P h.tok.ranks.1 (.inl rfl)) (hk T h.tok.ranks.2.1 (.inr (.inl rfl))), h.ton, h.good, h.file.keep (fun k hm => hk k (h.file.lt k hm).1 (.inr (.inr hm))), h.far, h.base.1, Nat.le_trans h.base.2 hs⟩
/-- The expression under way at E, whose one argument is new. -/
def ArgAt (P F T lo E : Nat) (k : Int) (a N : Nat) (i : Nat) (m : FileM) (w : World) : Prop := ∃ g, Blk w g #[.int .i64 (i : Int)] 3 ∧ Blk w E #[.int .i64 k, .string ⟨#[]⟩, .slice (some ⟨g, 0, none⟩) 1 1, .slice none 0 0, .int .i64 (a : Int)] 38 ∧ g ∉ m.foot F ∧ g ≠ P ∧ g ≠ T ∧ E ≠ P ∧ lo ≤ g ∧ N ≤ g
theorem ArgAt.aside {P F T lo E : Nat} {k : Int} {a N i : Nat} {m : FileM} {w w' : World} (h : ArgAt P F T lo E k a N i m w) (ha : Aside P w w') : ArgAt P F T lo E k a N i m w' := by
 obtain ⟨g, h1, h2, h3, h4, h5, h6, h7⟩ := h
 exact ⟨g, h1.aside ha h4, h2.aside ha h6, h3, h4, h5, h6, h7⟩
set_option maxRecDepth 100000 in
set_option maxHeartbeats 4000000 in
theorem signed1_any {W : World} {s : Ps} {m : FileM} {sp : PM Nat} (hS : Rds P F T lo dp d 119 #[.pointer (some ⟨P, 0, none⟩)] sp) (h : PsAt W P F T lo dp s m) (he : Env W P F) (hf : Fit d s) {Bp E : Nat} {k : Int} {a : Nat} (bp : Blk W Bp #[.pointer (some ⟨P, 0, none⟩)] 88) (be : Blk W E #[.int .i64 k, .string ⟨#[]⟩, .slice none 0 0, .slice none 0 0, .int .i64 (a : Int)] 38) (hEP : E ≠ P) (hET : E ≠ T) (hEf : E ∉ m.foot F) :
  Calls Tryz.prog 137 #[.pointer (some ⟨Bp, 0, none⟩), .pointer (some ⟨E, 0, none⟩)] W (KEnd W P F T lo dp m [E] (ArgAt P F T lo E k a W.heap.size) (sp s) (fun _ => .tuple #[])) := by
 have HS := Lib.hid (hS W s m h he hf)
 obtain ⟨R, hR⟩ : ∃ R, sp s = R := ⟨_, rfl⟩
 rw [hR] at HS ⊢
 have c0 := bp.cell 0
 have HPS := Lib.hid h
 have HBE := Lib.hid be
 have HF := Lib.hid (And.intro hEP (And.intro hET hEf))
 have hrk := h.tok.ranks
 have HRK := Lib.hid hrk
 clear h he hf hS bp be hEP hET hEf hR hrk
 go_enter Tryz.func137, Tryz.ntmps137
 go_wp2_with fail
 go_at_call 119; refine HS.out.mono ?_
 intro e w2 hk
 cases R with
 | error bd =>
  obtain ⟨D, rfl, h1, h2, h3⟩ := hk
  exact ⟨rfl, D, rfl, h1, h2, ⟨h3.os, h3.tape, h3.output, h3.size, fun k hk h4 h5 _ => h3.block k hk h4 h5⟩⟩
 | ok y =>
  obtain ⟨i, s'⟩ := y
  obtain ⟨rfl, m', hp2, ho2, hl2⟩ := hk
  have hnv : natV i = .int .i64 (i : Int) := rfl
  rw [hnv]
  have hbe2 : Blk w2 E #[.int .i64 k, .string ⟨#[]⟩, .slice none 0 0, .slice none 0 0, .int .i64 (a : Int)] 38 := (ho2.block E HBE.out.lt HF.out.1 HF.out.2.2).trans HBE.out
  have hfE : E ∉ m'.foot F := fun hm => by
   rcases hl2 E hm with h1 | h1
   ·exact HF.out.2.2 h1
   ·have := HBE.out.lt; omega
  have hb3 := hbe2.alloc (.cells #[.int .i64 (i : Int)] 3)
  have c2 := hbe2.cell 2
  have f2 := hbe2.frozen 2
  have c2a := hb3.cell 2
  have f2a := hb3.frozen 2
  have HW2 := Lib.hid (And.intro hp2 (And.intro ho2 (And.intro hl2 (And.intro hbe2 (And.intro hfE hb3)))))
  clear hp2 ho2 hl2 hbe2 hfE hb3 hnv
  go_wp2_with fail
  go_end0
  obtain ⟨hp2, ho2, hl2, hbe2, hfE, hb3⟩ := HW2.out
  have hlt := hbe2.lt
  have hkp : ∀ j, j < w2.heap.size → j ≠ E → ((w2.alloc (.cells #[.int .i64 (i : Int)] 3)).setCell ⟨E, 2, none⟩ (.slice (some ⟨w2.heap.size, 0, none⟩) 1 1)).heap[j]? = w2.heap[j]? := fun j hj hjE => by
   rw [Below.heap_setCell _ _ _ _ (by exact hjE)]
   exact (below_new w2 (.cells #[.int .i64 (i : Int)] 3)).block j hj
  have hsz : ((w2.alloc (.cells #[.int .i64 (i : Int)] 3)).setCell ⟨E, 2, none⟩ (.slice (some ⟨w2.heap.size, 0, none⟩) 1 1)).heap.size = w2.heap.size + 1 := by simp
  refine ⟨rfl, m', hp2.same (by omega) (fun j hj hm => hkp j hj ?_), ⟨ho2.os, ho2.tape, ho2.output, by have := ho2.size; omega, fun j hj h1 h2 h3 => (hkp j (Nat.lt_of_lt_of_le hj ho2.size) (fun e => h3 (by rw [e]; exact List.mem_cons_self))).trans (ho2.block j hj h1 h2)⟩, hl2, w2.heap.size, ?_, ?_, ?_, ?_, ?_, HF.out.1, hp2.base.2, ho2.size⟩
  ·rcases hm with rfl | rfl | hm
   ·exact fun e => HF.out.1 e.symm
   ·exact fun e => HF.out.2.1 e.symm
   ·rintro rfl; exact hfE hm
  ·exact (Blk.new w2 #[.int .i64 (i : Int)] 3).other (p := ⟨E, 2, none⟩) (by show w2.heap.size ≠ E; omega) _
  ·have := hb3.set 2 (.slice (some ⟨w2.heap.size, 0, none⟩) 1 1)
   simpa using this
  ·intro hm
   have := (hp2.file.lt _ hm).1
   omega
  ·have := hp2.tok.ranks; omega
  ·have := hp2.tok.ranks; omega
end
end Go.Proofs.YtljgggohjigaoaaGreatDoor
namespace Go.Proofs.YtljgggohjigaoaaGreatDoor
open Go.RowKit Go.Shelf
set_option linter.unusedVariables false

theorem Fit.down {d : Nat} {s : Ps} (h : Fit (d + 1) s) : Fit d s := ⟨h.snd.down, h.txt, fun t ht => by have := h.pos t ht; omega, h.pot⟩
theorem peek_peek (s : Ps) : peekS (peekS s) = peekS s := by
 show ({ peekS s with toks := peekL s.over (peekL s.over s.toks) } : Ps) = _
 rw [peekL_idem]
 rfl
section
variable {P F T lo dp d : Nat} {nx : Sub}
theorem add_at {w : World} {s : Ps} {m : FileM} {k : Int} {a i g : Nat} (h : PsAt w P F T lo dp s m) (hg : Blk w g #[.int .i64 (i : Int)] 3) (hf : g ∉ m.foot F) (hP : g ≠ P) (hT : g ≠ T) (hlo : lo ≤ g) (hroom : s.f.exprs.length ≤ 1000000000) :
  Calls Tryz.prog 105 #[.pointer (some ⟨P, 0, none⟩), .agg #[.int .i64 k, .string ⟨#[]⟩, .slice (some ⟨g, 0, none⟩) 1 1, .slice none 0 0, .int .i64 (a : Int)]] w (fun e w' => ∃ m', e = .returned (natV s.f.exprs.length) ∧ PsAt w' P F T lo dp { s with f := { s.f with exprs := s.f.exprs ++ [⟨k, ⟨#[]⟩, [i], [], a⟩] } } m' ∧ Outs w w' P F m ∧ (∀ q ∈ m'.foot F, q ∈ m.foot F ∨ q = g ∨ w.heap.size ≤ q) ∧ Kept m m') := by
 have hx : (⟨⟨k, ⟨#[]⟩, [i], [], a⟩, .slice (some ⟨g, 0, none⟩) 1 1, .slice none 0 0⟩ : ExM).Ok lo w := by
  refine ⟨⟨rfl, .inr ⟨g, 1, _, rfl, hlo, hg, Nat.le_refl _, by unfold maxLen; omega, rfl, rfl⟩⟩, World.ownsRow_nil _ _ _ _⟩
 have hft : (⟨⟨k, ⟨#[]⟩, [i], [], a⟩, .slice (some ⟨g, 0, none⟩) 1 1, .slice none 0 0⟩ : ExM).foot = [g] := rfl
 refine (add_any h hx (fun q hq => ?_) (by rw [hft]; simp) hroom).mono ?_
 ·rw [hft] at hq
  have hq := List.mem_singleton.1 hq
  subst hq
  exact ⟨hf, hP, hT⟩
 ·rintro e w' ⟨rfl, m', hp', ho, hl2⟩
  refine ⟨m', rfl, hp', ho, fun q hq => ?_, hl2.tv⟩
  rcases hl2 q hq with h2 | h2 | h2
  ·exact .inl h2
  ·rw [hft] at h2
   exact .inr (.inl (List.mem_singleton.1 h2))
  ·exact .inr (.inr h2)
set_option maxRecDepth 100000 in
set_option maxHeartbeats 4000000 in
theorem signed_any (hnx : Left24 dp nx) (hx : SubOk d nx) (hPo : Rds P F T lo dp d 136 #[.pointer (some ⟨P, 0, none⟩)] (postedM nx)) (hSub : ∀ p, nx = some p → ∃ d', d = d' + 1 ∧ Dec d' 0 p.2 ∧ Rds P F T lo (dp + 1) d' 119 #[.pointer (some ⟨P, 0, none⟩)] p.2) : Rds P F T lo dp d 119 #[.pointer (some ⟨P, 0, none⟩)] (signedM nx) := by
 intro W s m h he hf
 have hb0 := below_new W (.cells #[.pointer (some ⟨P, 0, none⟩)] 88)
 have hk0 : Blk (W.alloc (.cells #[.pointer (some ⟨P, 0, none⟩)] 88)) W.heap.size #[.pointer (some ⟨P, 0, none⟩)] 88 := Blk.new _ _ _
 obtain ⟨W1, hW1⟩ : ∃ W1, W.alloc (.cells #[.pointer (some ⟨P, 0, none⟩)] 88) = W1 := ⟨_, rfl⟩
 rw [hW1] at hb0 hk0
 have h1 := h.below hb0
 have HALL := Lib.hid (And.intro h (And.intro he (And.intro hf (And.intro hb0 (And.intro hk0 h1)))))
 have b0 := hk0.cell 0
 have HNX := Lib.hid hnx
 have HPO := Lib.hid hPo
 have HSUB := Lib.hid hSub
 obtain ⟨t, ht⟩ : ∃ t, next s = t := ⟨_, rfl⟩
 have HT := Lib.hid ht
 have HIS := Lib.hid (ht ▸ is_ps h1 ⟨#[33]⟩)
 obtain ⟨R, hR⟩ : ∃ R, signedM nx s = R := ⟨_, rfl⟩
 have HR := Lib.hid hR
 rw [hR]
 clear h he hf hb0 hk0 h1 hnx hPo hSub hx ht hR
 go_enter Tryz.func119, Tryz.ntmps119
 go_wp2_with fail
 go_at_call 102; refine HIS.out.mono ?_
 rintro e w2 ⟨rfl, hp2, ha2⟩
 have hA2 : Aside P W w2 := (Aside.of HALL.out.2.2.2.1).trans ha2
 have hk2 := HALL.out.2.2.2.2.1.aside ha2 (by have := HALL.out.1.tok.ranks; omega)
 have b2 := hk2.cell 0
 have H2 := Lib.hid (And.intro hp2 (And.intro hA2 hk2))
 clear hA2 hk2 ha2 b0
 cases hi : isW ⟨#[33]⟩ t with
 | true =>
  have HI := Lib.hid hi
  clear hp2
  have htk : (next (peekS s)).k ≠ 0 := by
   rw [next_peek, HT.out]
   intro e
   have h1 := isW_wt (w := wb [33]) (by decide) HALL.out.2.2.1.snd (by rw [HT.out]; exact HI.out)
   rw [HT.out] at h1
   unfold wt at h1
   rw [if_pos e] at h1
   omega
  have hta := take_ps H2.out.1 htk
  rw [next_peek, take_peek, HT.out] at hta
  have HTA := Lib.hid hta
  have hfl : ∀ w : World, (Instr.field 75 (tkV t) 2).run Tryz.prog w = .ok (.int .i64 (t.at_ : Int)) w := fun _ => rfl
  have HFT : Hid (Fit d (takeS s)) := Lib.hid (HALL.out.2.2.1.of (c := 0) (take_sfx s) (by have := pot_take s; omega) (by omega))
  have HPT : Hid (pot (takeS s) + 1 ≤ pot s) := Lib.hid (by
   have h1 := isW_wt (w := wb [33]) (by decide) HALL.out.2.2.1.snd (by rw [HT.out]; exact HI.out)
   have h2 := pot_take s
   omega)
  clear htk hta hi
  go_wp2_with fail
  go_at_call 53; refine HTA.out.mono ?_
  rintro e w5 ⟨rfl, hp5, ha5⟩
  have hA5 : Aside P W w5 := H2.out.2.1.trans ha5
  have hk5 := H2.out.2.2.aside ha5 (by have := HALL.out.1.tok.ranks; omega)
  have hbe := below_new w5 (.cells #[.int .i64 14, .string ⟨#[]⟩, .slice none 0 0, .slice none 0 0, .int .i64 (t.at_ : Int)] 38)
  have hp6 := hp5.below hbe
  have bE : Blk (w5.alloc (.cells #[.int .i64 14, .string ⟨#[]⟩, .slice none 0 0, .slice none 0 0, .int .i64 (t.at_ : Int)] 38)) w5.heap.size #[.int .i64 14, .string ⟨#[]⟩, .slice none 0 0, .slice none 0 0, .int .i64 (t.at_ : Int)] 38 := Blk.new _ _ _
  have hk6 := hk5.alloc (.cells #[.int .i64 14, .string ⟨#[]⟩, .slice none 0 0, .slice none 0 0, .int .i64 (t.at_ : Int)] 38)
  have b5 := hk5.cell 0
  have b6 := hk6.cell 0
  have e4 := bE.cell 4
  have H6 := Lib.hid (And.intro hA5 (And.intro hp6 (And.intro bE (And.intro hk6 (And.intro hbe hp5)))))
  have henv : Env (w5.alloc (.cells #[.int .i64 14, .string ⟨#[]⟩, .slice none 0 0, .slice none 0 0, .int .i64 (t.at_ : Int)] 38)) P F := (HALL.out.2.1.aside hA5).below hbe
  have hrk5 := hp5.tok.ranks
  have hsz5 := hk5.lt
  obtain ⟨tv, hP⟩ := hp6.blk
  rcases HNX.out with ⟨h24, hn⟩ | ⟨h24, p, hn⟩
  ·have HD := Lib.hid (fun fv => deeper_too (F := F) (by rw [h24] at hP; exact hP) (t.at_ : Int) fv)
   have hR2 : R = .error (7, t.at_) := by
    rw [← HR.out]
    unfold signedM
    simp only
    rw [HT.out, hn]
    have i1 : isW (wb [33]) t = true := HI.out
    rw [i1]
    rfl
   have HRE := Lib.hid hR2
   clear hp6 hp5 ha5 hA5 hk5 hbe bE hk6 henv hP h24 hn hR2
   go_wp2_with (go_at_call 100; refine (HD.out _).mono ?_; rintro e w6 ⟨D, rfl, hD, hdb, hbw⟩)
   refine ⟨rfl, ?_⟩
   rw [HRE.out]
   have hs6 := H6.out.2.2.2.2.1.size
   have hs5 := H6.out.1.size
   exact ⟨D, rfl, by omega, hdb, Outs.aside (H6.out.1.trans ((Aside.of H6.out.2.2.2.2.1).trans (Aside.of hbw)))⟩
  ·obtain ⟨d', rfl, hDec, hRd⟩ := HSUB.out p hn
   have hW7 := hp6.setDepth (dp + 1)
   have hfoot := hp5.file.lt
   have hEf : w5.heap.size ∉ m.foot F := fun hm => by have := (hfoot _ hm).1; omega
   have hC := signed1_any (k := 14) (a := t.at_) hRd hW7 (henv.aside ((Aside.refl P _).set 2 _)) HFT.out.down (hk6.other (p := ⟨P, 2, none⟩) (by show W.heap.size ≠ P; have := HALL.out.1.tok.ranks; omega) _) (bE.other (p := ⟨P, 2, none⟩) (by show w5.heap.size ≠ P; omega) _) (by omega) (by omega) hEf
   have hD := deeper_any hP h24 (t.at_ : Int) (enters_of Tryz.func137 (by kernel_rfl) rfl) (hC.mono (fun e w hk => hk.reads))
   have HD := Lib.hid hD
   have hR2 : R = bindP p.2 (fun i => addM ⟨14, ⟨#[]⟩, [i], [], t.at_⟩) (takeS s) := by
    rw [← HR.out]
    unfold signedM
    simp only
    rw [HT.out, hn]
    have i1 : isW (wb [33]) t = true := HI.out
    rw [i1]
    rfl
   have HRE := Lib.hid hR2
   have HX := Lib.hid (And.intro hEf (And.intro hDec hrk5))
   clear hp6 hp5 ha5 hA5 hk5 hbe bE hk6 henv hP h24 hn hR2 hW7 hfoot hEf hC hD hDec hRd
   go_wp2_with fail
   go_at_call 100; refine HD.out.mono ?_
   rintro e w8 (⟨rfl, w7, ⟨a, s3, hin, m', hp7, ho7, hl7, hs7⟩, -, rfl⟩ | ⟨v, rfl, bd, D, hin, rfl, hD, hdb, ho7⟩)
   ·have hp8 := hp7.setDepth dp
    obtain ⟨g, hg, hE, hgf, hgP, hgT, hEP, hlog, hNg⟩ := hs7.aside ((Aside.refl P w7).set 2 (.int .i64 (dp : Int)))
    have hrk := HX.out.2.2
    have hsz6 : (w5.alloc (.cells #[.int .i64 14, .string ⟨#[]⟩, .slice none 0 0, .slice none 0 0, .int .i64 (t.at_ : Int)] 38)).heap.size = w5.heap.size + 1 := by simp
    have hs5 := H6.out.1.size
    have hB7 : Blk w7 W.heap.size #[.pointer (some ⟨P, 0, none⟩)] 88 := (ho7.block W.heap.size (by simp; omega) (by have := HALL.out.1.tok.ranks; omega) (fun hm => by have := (HALL.out.1.file.lt _ hm).1; omega) (by have := HALL.out.2.2.2.2.1.lt; have := H6.out.2.2.2.1.lt; simp only [List.mem_singleton]; have h3 := H2.out.2.2.lt; have h4 := H2.out.2.1.size; omega)).trans (H6.out.2.2.2.1.other (p := ⟨P, 2, none⟩) (by show W.heap.size ≠ P; have := HALL.out.1.tok.ranks; omega) _)
    have hB8 := hB7.other (p := ⟨P, 2, none⟩) (by show W.heap.size ≠ P; have := HALL.out.1.tok.ranks; omega) (.int .i64 (dp : Int))
    have b8 := hB8.cell 0
    have q0 := hE.cell 0
    have q1 := hE.cell 1
    have q2 := hE.cell 2
    have q3 := hE.cell 3
    have q4 := hE.cell 4
    have hdc := HX.out.2.1 (takeS s) HFT.out.down.snd a s3 hin
    have hroom := (HFT.out.down.of hdc.1 hdc.2 (by omega)).room
    have HAD := Lib.hid (add_at (k := 14) (a := t.at_) (i := a) hp8 hg hgf hgP hgT hlog hroom)
    have HZ := Lib.hid (And.intro hin (And.intro ho7 (And.intro hl7 (And.intro hp8 hNg))))
    clear hp7 ho7 hl7 hs7 hp8 hg hE hgf hgP hgT hEP hlog hNg hB7 hB8 hdc hroom hin hrk hsz6 hs5
    go_wp2_with fail
    go_at_call 105; refine HAD.out.mono ?_
    rintro e w9 ⟨m9, rfl, hp9, ho9, hl9, htv9⟩
    have HY := Lib.hid (And.intro hp9 (And.intro ho9 (And.intro hl9 htv9)))
    have hnv : natV s3.f.exprs.length = .int .i64 (s3.f.exprs.length : Int) := rfl
    rw [hnv]
    clear hp9 ho9 hl9 hnv b8 q0 q1 q2 q3 q4
    go_wp2_with fail
    go_ret
    obtain ⟨hin, ho7, hl7, hp8, hNg⟩ := HZ.out
    obtain ⟨hp9, ho9, hl9, htv9⟩ := HY.out
    rw [HRE.out]
    unfold bindP
    rw [hin]
    have hs6 := H6.out.2.2.2.2.1.size
    have hs5 := H6.out.1.size
    have hs7 := ho7.size
    have hs9 := ho9.size
    simp only [World.size_setCell] at hs7 hNg hs9
    have hl7' : ∀ q ∈ m'.foot F, q ∈ m.foot F ∨ (w5.alloc (.cells #[.int .i64 14, .string ⟨#[]⟩, .slice none 0 0, .slice none 0 0, .int .i64 (t.at_ : Int)] 38)).heap.size ≤ q := fun q hq => by
     have := hl7 q hq
     simpa only [World.size_setCell] using this
    refine ⟨rfl, m9, hp9, ⟨?_, ?_, ?_, by omega, fun j hj h1 h2 => ?_⟩, ⟨fun q hq => ?_, htv9.trans hl7.tv⟩⟩
    ·exact ho9.os.trans (ho7.os.trans (H6.out.2.2.2.2.1.os.trans H6.out.1.os))
    ·exact ho9.tape.trans (ho7.tape.trans (H6.out.2.2.2.2.1.tape.trans H6.out.1.tape))
    ·exact ho9.output.trans (ho7.output.trans (H6.out.2.2.2.2.1.output.trans H6.out.1.output))
    ·rw [ho9.block j (by simp only [World.size_setCell]; omega) h1 (fun hm => by rcases hl7' j hm with h3 | h3; exact h2 h3; omega), Below.heap_setCell _ _ _ _ (by exact h1), ho7.block j (by simp; omega) h1 h2 (by simp; omega), Below.heap_setCell _ _ _ _ (by exact h1), H6.out.2.2.2.2.1.block j (by omega), H6.out.1.block j hj h1]
    ·rcases hl9 q hq with h1 | h1 | h1
     ·rcases hl7' q h1 with h2 | h2
      ·exact .inl h2
      ·exact .inr (by omega)
     ·subst h1
      exact .inr (by omega)
     ·simp only [World.size_setCell] at h1
      exact .inr (by omega)
   ·refine ⟨rfl, ?_⟩
    rw [HRE.out]
    unfold bindP
    rw [hin]
    have hs6 := H6.out.2.2.2.2.1.size
    have hs5 := H6.out.1.size
    have hs7 := ho7.size
    simp only [World.size_setCell] at hs7 hD
    refine ⟨D, rfl, by omega, hdb, ⟨?_, ?_, ?_, by omega, fun j hj h1 h2 => ?_⟩⟩
    ·exact ho7.os.trans (H6.out.2.2.2.2.1.os.trans H6.out.1.os)
    ·exact ho7.tape.trans (H6.out.2.2.2.2.1.tape.trans H6.out.1.tape)
    ·exact ho7.output.trans (H6.out.2.2.2.2.1.output.trans H6.out.1.output)
    ·rw [ho7.block j (by simp; omega) h1 h2 (by simp; omega), Below.heap_setCell _ _ _ _ (by exact h1), H6.out.2.2.2.2.1.block j (by omega), H6.out.1.block j hj h1]
 | false =>
  have HI := Lib.hid hi
  have hi2 := is_ps hp2 ⟨#[45]⟩
  rw [next_peek, HT.out] at hi2
  have HIS2 := Lib.hid hi2
  clear hp2 hi hi2
  go_wp2_with fail
  go_at_call 102; refine HIS2.out.mono ?_
  rintro e w3 ⟨rfl, hp3, ha3⟩
  have hpp : peekS (peekS s) = peekS s := peek_peek s
  rw [hpp] at hp3
  have hk3 := H2.out.2.2.aside ha3 (by have := HALL.out.1.tok.ranks; omega)
  have b3 := hk3.cell 0
  have H3 := Lib.hid (And.intro hp3 (And.intro (H2.out.2.1.trans ha3) hk3))
  clear hp3 hk3 ha3 hpp b2
  cases hj : isW ⟨#[45]⟩ t with
  | true =>
   have HJ := Lib.hid hj
   have htk : (next (peekS s)).k ≠ 0 := by
    rw [next_peek, HT.out]
    intro e
    have h1 := isW_wt (w := wb [45]) (by decide) HALL.out.2.2.1.snd (by rw [HT.out]; exact HJ.out)
    rw [HT.out] at h1
    unfold wt at h1
    rw [if_pos e] at h1
    omega
   have hta := take_ps H3.out.1 htk
   rw [next_peek, take_peek, HT.out] at hta
   have HTA := Lib.hid hta
   have hfl : ∀ w : World, (Instr.field 75 (tkV t) 2).run Tryz.prog w = .ok (.int .i64 (t.at_ : Int)) w := fun _ => rfl
   have HFT : Hid (Fit d (takeS s)) := Lib.hid (HALL.out.2.2.1.of (c := 0) (take_sfx s) (by have := pot_take s; omega) (by omega))
   have HPT : Hid (pot (takeS s) + 1 ≤ pot s) := Lib.hid (by
    have h1 := isW_wt (w := wb [45]) (by decide) HALL.out.2.2.1.snd (by rw [HT.out]; exact HJ.out)
    have h2 := pot_take s
    omega)
   clear htk hta hj
   go_wp2_with fail
   go_at_call 53; refine HTA.out.mono ?_
   rintro e w5 ⟨rfl, hp5, ha5⟩
   have hA5 : Aside P W w5 := H3.out.2.1.trans ha5
   have hk5 := H3.out.2.2.aside ha5 (by have := HALL.out.1.tok.ranks; omega)
   have hbe := below_new w5 (.cells #[.int .i64 13, .string ⟨#[]⟩, .slice none 0 0, .slice none 0 0, .int .i64 (t.at_ : Int)] 38)
   have hp6 := hp5.below hbe
   have bE : Blk (w5.alloc (.cells #[.int .i64 13, .string ⟨#[]⟩, .slice none 0 0, .slice none 0 0, .int .i64 (t.at_ : Int)] 38)) w5.heap.size #[.int .i64 13, .string ⟨#[]⟩, .slice none 0 0, .slice none 0 0, .int .i64 (t.at_ : Int)] 38 := Blk.new _ _ _
   have hk6 := hk5.alloc (.cells #[.int .i64 13, .string ⟨#[]⟩, .slice none 0 0, .slice none 0 0, .int .i64 (t.at_ : Int)] 38)
   have b5 := hk5.cell 0
   have b6 := hk6.cell 0
   have e4 := bE.cell 4
   have H6 := Lib.hid (And.intro hA5 (And.intro hp6 (And.intro bE (And.intro hk6 (And.intro hbe hp5)))))
   have henv : Env (w5.alloc (.cells #[.int .i64 13, .string ⟨#[]⟩, .slice none 0 0, .slice none 0 0, .int .i64 (t.at_ : Int)] 38)) P F := (HALL.out.2.1.aside hA5).below hbe
   have hrk5 := hp5.tok.ranks
   have hsz5 := hk5.lt
   obtain ⟨tv, hP⟩ := hp6.blk
   rcases HNX.out with ⟨h24, hn⟩ | ⟨h24, p, hn⟩
   ·have HD := Lib.hid (fun fv => deeper_too (F := F) (by rw [h24] at hP; exact hP) (t.at_ : Int) fv)
    have hR2 : R = .error (7, t.at_) := by
     rw [← HR.out]
     unfold signedM
     simp only
     rw [HT.out, hn]
     have i1 : isW (wb [33]) t = false := HI.out
     have i2 : isW (wb [45]) t = true := HJ.out
     rw [i1, i2]
     rfl
    have HRE := Lib.hid hR2
    clear hp6 hp5 ha5 hA5 hk5 hbe bE hk6 henv hP h24 hn hR2
    go_wp2_with (go_at_call 100; refine (HD.out _).mono ?_; rintro e w6 ⟨D, rfl, hD, hdb, hbw⟩)
    refine ⟨rfl, ?_⟩
    rw [HRE.out]
    have hs6 := H6.out.2.2.2.2.1.size
    have hs5 := H6.out.1.size
    exact ⟨D, rfl, by omega, hdb, Outs.aside (H6.out.1.trans ((Aside.of H6.out.2.2.2.2.1).trans (Aside.of hbw)))⟩
   ·obtain ⟨d', rfl, hDec, hRd⟩ := HSUB.out p hn
    have hW7 := hp6.setDepth (dp + 1)
    have hfoot := hp5.file.lt
    have hEf : w5.heap.size ∉ m.foot F := fun hm => by have := (hfoot _ hm).1; omega
    have hC := signed1_any (k := 13) (a := t.at_) hRd hW7 (henv.aside ((Aside.refl P _).set 2 _)) HFT.out.down (hk6.other (p := ⟨P, 2, none⟩) (by show W.heap.size ≠ P; have := HALL.out.1.tok.ranks; omega) _) (bE.other (p := ⟨P, 2, none⟩) (by show w5.heap.size ≠ P; omega) _) (by omega) (by omega) hEf
    have hD := deeper_any hP h24 (t.at_ : Int) (enters_of Tryz.func137 (by kernel_rfl) rfl) (hC.mono (fun e w hk => hk.reads))
    have HD := Lib.hid hD
    have hR2 : R = bindP p.2 (fun i => addM ⟨13, ⟨#[]⟩, [i], [], t.at_⟩) (takeS s) := by
     rw [← HR.out]
     unfold signedM
     simp only
     rw [HT.out, hn]
     have i1 : isW (wb [33]) t = false := HI.out
     have i2 : isW (wb [45]) t = true := HJ.out
     rw [i1, i2]
     rfl
    have HRE := Lib.hid hR2
    have HX := Lib.hid (And.intro hEf (And.intro hDec hrk5))
    clear hp6 hp5 ha5 hA5 hk5 hbe bE hk6 henv hP h24 hn hR2 hW7 hfoot hEf hC hD hDec hRd
    go_wp2_with fail
    go_at_call 100; refine HD.out.mono ?_
    rintro e w8 (⟨rfl, w7, ⟨a, s3, hin, m', hp7, ho7, hl7, hs7⟩, -, rfl⟩ | ⟨v, rfl, bd, D, hin, rfl, hD, hdb, ho7⟩)
    ·have hp8 := hp7.setDepth dp
     obtain ⟨g, hg, hE, hgf, hgP, hgT, hEP, hlog, hNg⟩ := hs7.aside ((Aside.refl P w7).set 2 (.int .i64 (dp : Int)))
     have hrk := HX.out.2.2
     have hsz6 : (w5.alloc (.cells #[.int .i64 13, .string ⟨#[]⟩, .slice none 0 0, .slice none 0 0, .int .i64 (t.at_ : Int)] 38)).heap.size = w5.heap.size + 1 := by simp
     have hs5 := H6.out.1.size
     have hB7 : Blk w7 W.heap.size #[.pointer (some ⟨P, 0, none⟩)] 88 := (ho7.block W.heap.size (by simp; omega) (by have := HALL.out.1.tok.ranks; omega) (fun hm => by have := (HALL.out.1.file.lt _ hm).1; omega) (by have := HALL.out.2.2.2.2.1.lt; have := H6.out.2.2.2.1.lt; simp only [List.mem_singleton]; have h3 := H2.out.2.2.lt; have h4 := H2.out.2.1.size; omega)).trans (H6.out.2.2.2.1.other (p := ⟨P, 2, none⟩) (by show W.heap.size ≠ P; have := HALL.out.1.tok.ranks; omega) _)
     have hB8 := hB7.other (p := ⟨P, 2, none⟩) (by show W.heap.size ≠ P; have := HALL.out.1.tok.ranks; omega) (.int .i64 (dp : Int))
     have b8 := hB8.cell 0
     have q0 := hE.cell 0
     have q1 := hE.cell 1
     have q2 := hE.cell 2
     have q3 := hE.cell 3
     have q4 := hE.cell 4
     have hdc := HX.out.2.1 (takeS s) HFT.out.down.snd a s3 hin
     have hroom := (HFT.out.down.of hdc.1 hdc.2 (by omega)).room
     have HAD := Lib.hid (add_at (k := 13) (a := t.at_) (i := a) hp8 hg hgf hgP hgT hlog hroom)
     have HZ := Lib.hid (And.intro hin (And.intro ho7 (And.intro hl7 (And.intro hp8 hNg))))
     clear hp7 ho7 hl7 hs7 hp8 hg hE hgf hgP hgT hEP hlog hNg hB7 hB8 hdc hroom hin hrk hsz6 hs5
     go_wp2_with fail
     go_at_call 105; refine HAD.out.mono ?_
     rintro e w9 ⟨m9, rfl, hp9, ho9, hl9, htv9⟩
     have HY := Lib.hid (And.intro hp9 (And.intro ho9 (And.intro hl9 htv9)))
     have hnv : natV s3.f.exprs.length = .int .i64 (s3.f.exprs.length : Int) := rfl
     rw [hnv]
     clear hp9 ho9 hl9 hnv b8 q0 q1 q2 q3 q4
     go_wp2_with fail
     go_ret
     obtain ⟨hin, ho7, hl7, hp8, hNg⟩ := HZ.out
     obtain ⟨hp9, ho9, hl9, htv9⟩ := HY.out
     rw [HRE.out]
     unfold bindP
     rw [hin]
     have hs6 := H6.out.2.2.2.2.1.size
     have hs5 := H6.out.1.size
     have hs7 := ho7.size
     have hs9 := ho9.size
     simp only [World.size_setCell] at hs7 hNg hs9
     have hl7' : ∀ q ∈ m'.foot F, q ∈ m.foot F ∨ (w5.alloc (.cells #[.int .i64 13, .string ⟨#[]⟩, .slice none 0 0, .slice none 0 0, .int .i64 (t.at_ : Int)] 38)).heap.size ≤ q := fun q hq => by
      have := hl7 q hq
      simpa only [World.size_setCell] using this
     refine ⟨rfl, m9, hp9, ⟨?_, ?_, ?_, by omega, fun j hj h1 h2 => ?_⟩, ⟨fun q hq => ?_, htv9.trans hl7.tv⟩⟩
     ·exact ho9.os.trans (ho7.os.trans (H6.out.2.2.2.2.1.os.trans H6.out.1.os))
     ·exact ho9.tape.trans (ho7.tape.trans (H6.out.2.2.2.2.1.tape.trans H6.out.1.tape))
     ·exact ho9.output.trans (ho7.output.trans (H6.out.2.2.2.2.1.output.trans H6.out.1.output))
     ·rw [ho9.block j (by simp only [World.size_setCell]; omega) h1 (fun hm => by rcases hl7' j hm with h3 | h3; exact h2 h3; omega), Below.heap_setCell _ _ _ _ (by exact h1), ho7.block j (by simp; omega) h1 h2 (by simp; omega), Below.heap_setCell _ _ _ _ (by exact h1), H6.out.2.2.2.2.1.block j (by omega), H6.out.1.block j hj h1]
     ·rcases hl9 q hq with h1 | h1 | h1
      ·rcases hl7' q h1 with h2 | h2
       ·exact .inl h2
       ·exact .inr (by omega)
      ·subst h1
       exact .inr (by omega)
      ·simp only [World.size_setCell] at h1
       exact .inr (by omega)
    ·refine ⟨rfl, ?_⟩
     rw [HRE.out]
     unfold bindP
     rw [hin]
     have hs6 := H6.out.2.2.2.2.1.size
     have hs5 := H6.out.1.size
     have hs7 := ho7.size
     simp only [World.size_setCell] at hs7 hD
     refine ⟨D, rfl, by omega, hdb, ⟨?_, ?_, ?_, by omega, fun j hj h1 h2 => ?_⟩⟩
     ·exact ho7.os.trans (H6.out.2.2.2.2.1.os.trans H6.out.1.os)
     ·exact ho7.tape.trans (H6.out.2.2.2.2.1.tape.trans H6.out.1.tape)
     ·exact ho7.output.trans (H6.out.2.2.2.2.1.output.trans H6.out.1.output)
     ·rw [ho7.block j (by simp; omega) h1 h2 (by simp; omega), Below.heap_setCell _ _ _ _ (by exact h1), H6.out.2.2.2.2.1.block j (by omega), H6.out.1.block j hj h1]
  | false =>
   have hpost : R = postedM nx (peekS s) := by
    rw [← HR.out]
    unfold signedM
    simp only
    rw [HT.out]
    have i1 : isW (wb [33]) t = false := HI.out
    have i2 : isW (wb [45]) t = false := hj
    rw [i1, i2]
    rfl
   have HPP := Lib.hid (HPO.out w3 (peekS s) m H3.out.1 (HALL.out.2.1.aside H3.out.2.1) (HALL.out.2.2.1.of (c := 0) (peek_sfx s) (by have := pot_peek s; omega) (by omega)))
   rw [← hpost] at HPP
   clear hpost hj
   go_wp2_with fail
   go_at_call 136; refine HPP.out.mono ?_
   intro e w4 hk
   have hk := PEnd.trans (Outs.aside H3.out.2.1 (F := F) (m := m)) (Later.refl W F m) hk
   cases R with
   | error bd =>
    obtain ⟨D, rfl, h1, h2, h3⟩ := hk
    exact ⟨rfl, D, rfl, h1, h2, h3⟩
   | ok y =>
    obtain ⟨a, s'⟩ := y
    obtain ⟨rfl, m', h1, h2, h3⟩ := hk
    have hnv : natV a = .int .i64 (a : Int) := rfl
    rw [hnv]
    go_wp2_with fail
    go_ret
    exact ⟨rfl, m', h1, h2, h3⟩
end
end Go.Proofs.YtljgggohjigaoaaGreatDoor
