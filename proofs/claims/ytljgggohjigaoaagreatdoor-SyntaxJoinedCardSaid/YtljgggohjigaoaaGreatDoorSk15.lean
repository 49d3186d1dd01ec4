/- What stands behind an atom -/
import Derived.Test.YtljgggohjigaoaaGreatDoorSk14
namespace Go.Proofs.YtljgggohjigaoaaGreatDoor
open Go.RowKit Go.Shelf
set_option linter.unusedVariables false

section
variable {P F T lo dp d : Nat} {nx : Sub}
theorem add_atx {w : World} {s : Ps} {m : FileM} {k : Int} {x : ByteArray} {a i g : Nat} (h : PsAt w P F T lo dp s m) (hg : Blk w g #[.int .i64 (i : Int)] 3) (hf : g ∉ m.foot F) (hP : g ≠ P) (hT : g ≠ T) (hlo : lo ≤ g) (hroom : s.f.exprs.length ≤ 1000000000) :
  Calls Tryz.prog 105 #[.pointer (some ⟨P, 0, none⟩), .agg #[.int .i64 k, .string x, .slice (some ⟨g, 0, none⟩) 1 1, .slice none 0 0, .int .i64 (a : Int)]] w (fun e w' => ∃ m', e = .returned (natV s.f.exprs.length) ∧ PsAt w' P F T lo dp { s with f := { s.f with exprs := s.f.exprs ++ [⟨k, x, [i], [], a⟩] } } m' ∧ Outs w w' P F m ∧ (∀ q ∈ m'.foot F, q ∈ m.foot F ∨ q = g ∨ w.heap.size ≤ q) ∧ Kept m m') := by
 have hx : (⟨⟨k, x, [i], [], a⟩, .slice (some ⟨g, 0, none⟩) 1 1, .slice none 0 0⟩ : ExM).Ok lo w := by
  refine ⟨⟨rfl, .inr ⟨g, 1, _, rfl, hlo, hg, Nat.le_refl _, by unfold maxLen; omega, rfl, rfl⟩⟩, World.ownsRow_nil _ _ _ _⟩
 have hft : (⟨⟨k, x, [i], [], a⟩, .slice (some ⟨g, 0, none⟩) 1 1, .slice none 0 0⟩ : ExM).foot = [g] := rfl
 refine (add_any h hx (fun q hq => ?_) (by rw [hft]; simp) hroom).mono ?_
 ·rw [hft] at hq
  have hq := List.mem_singleton.1 hq
  subst hq
  exact ⟨hf, hP, hT⟩
 ·rintro e w' ⟨rfl, m', hp', ho, hl2⟩
  refine ⟨m', rfl, hp', ho, fun q hq => ?_, hl2.tv⟩
  rcases hl2 q hq with h2 | h2 | h2
  ·exact .inl h2
  ·rw [hft] at h2
   exact .inr (.inl (List.mem_singleton.1 h2))
  ·exact .inr (.inr h2)
theorem between_lt {α : Type} {s : Ps} {b en : ByteArray} {o : Bool} {f : PM Nat × PM Nat → PM α} {a : α × Nat} {s' : Ps} (hb : b ≠ ⟨#[]⟩) (hS : Snd d s.toks) (hf : ∀ p, nx = some p → Dec d 0 (f p)) (h : betweenM b en o nx f s = .ok (a, s')) : s'.toks.length < s.toks.length := by
 unfold betweenM bindP at h
 cases hw : wantM b s with
 | error x => rw [hw] at h; cases h
 | ok y =>
  obtain ⟨t, s1⟩ := y
  rw [hw] at h
  have h1 : isW b (next s) = true ∧ s1 = takeS s := by
   unfold wantM at hw
   split at hw
   ·rename_i hi
    cases hw
    exact ⟨hi, rfl⟩
   ·cases hw
  have hw1 := isW_wt hb hS h1.1
  have hk : (next s).k ≠ 0 := fun e => by
   unfold wt at hw1
   rw [if_pos e] at hw1
   omega
  have hlt := take_lt hk
  obtain ⟨-, rfl⟩ := h1
  unfold deeperM at h
  cases nx with
  | none => cases h
  | some p =>
   simp only at h
   cases h2 : f p { takeS s with over := o } with
   | error x => rw [h2] at h; cases h
   | ok y =>
    obtain ⟨a2, s2⟩ := y
    rw [h2] at h
    have h3 := hf p rfl { takeS s with over := o } (hS.sfx (take_sfx s)) a2 s2 h2
    simp only at h
    cases h4 : wantM en s2 with
    | error x => rw [h4] at h; cases h
    | ok y =>
     obtain ⟨t3, s3⟩ := y
     rw [h4] at h
     have h5 : s3 = takeS s2 := by
      unfold wantM at h4
      split at h4
      ·cases h4; rfl
      ·cases h4
     cases h
     subst h5
     have h6 := (take_sfx s2).length_le
     have h7 := h3.1.length_le
     show (takeS s2).toks.length < _
     have h8 : ({ takeS s with over := o } : Ps).toks.length = (takeS s).toks.length := rfl
     omega
theorem indexed_lt (hx : SubOk d nx) {one a : Nat} {s s' : Ps} (hS : Snd d s.toks) (h : indexedM nx one s = .ok (a, s')) : s'.toks.length < s.toks.length := by
 have hf : ∀ p, nx = some p → Dec d 0 ((fun p => bindP (skipM (wb [42])) fun st => if st then fun s => .ok ((true, [one]), s) else bindP p.1 fun i s => .ok ((false, [one, i]), s) : PM Nat × PM Nat → PM (Bool × List Nat)) p) := fun p hp => by
  refine (Dec.bind (e := 0) Dec.skip fun st => ?_).mono (by omega)
  cases st with
  | true => exact Dec.pure
  | false => exact (Dec.bind (e := 0) (hx.expr p hp) fun i => Dec.pure).mono (by omega)
 unfold indexedM at h
 unfold bindP at h
 split at h
 ·cases h
 ·rename_i r s1 hm
  have h1 := between_lt (by decide) hS hf hm
  have hS1 : Snd d s1.toks := hS.sfx (Dec.between (by decide) hf s hS _ _ hm).1
  have h2 : Dec d (-1) (if r.1.1 then bindP (wantM (wb [46])) fun _ => bindP (kindM 1) fun t => addM ⟨30, t.x, r.1.2, [], r.2⟩ else addM ⟨11, ⟨#[]⟩, r.1.2, [], r.2⟩) := by
   split
   ·exact (Dec.bind (e := -1) (Dec.want (by decide)) fun _ => (Dec.bind (e := -1) Dec.kind0 fun t => Dec.add _).mono (by omega)).mono (by omega)
   ·exact Dec.add _
  have h3 := (h2 s1 hS1 a s' h).1.length_le
  omega
set_option maxRecDepth 100000 in
set_option maxHeartbeats 4000000 in
theorem posted_any (hx : SubOk d nx) (hA : Rds P F T lo dp d 149 #[.pointer (some ⟨P, 0, none⟩)] (atomM nx)) (hI : ∀ one : Nat, Rds P F T lo dp d 150 #[.pointer (some ⟨P, 0, none⟩), .int .i64 (one : Int)] (indexedM nx one)) : Rds P F T lo dp d 136 #[.pointer (some ⟨P, 0, none⟩)] (postedM nx) := by
 intro W s m h he hf
 have HPS := Lib.hid (And.intro h (And.intro he hf))
 have HX := Lib.hid hx
 have HIN := Lib.hid hI
 have HA := Lib.hid (hA W s m h he hf)
 obtain ⟨R, hR⟩ : ∃ R, postedM nx s = R := ⟨_, rfl⟩
 obtain ⟨R1, hR1⟩ : ∃ R1, atomM nx s = R1 := ⟨_, rfl⟩
 have HR1 := Lib.hid hR1
 have HR := Lib.hid hR
 rw [hR1] at HA
 rw [hR]
 clear h he hf hA hI hx hR hR1
 go_enter Tryz.func136, Tryz.ntmps136
 go_wp2_with fail
 go_at_call 149; refine HA.out.mono ?_
 intro e w2 hk
 cases R1 with
 | error bd =>
  obtain ⟨D, rfl, h1, h2, h3⟩ := hk
  have hR2 : R = .error bd := by rw [← HR.out]; unfold postedM bindP; rw [HR1.out]
  refine ⟨rfl, ?_⟩
  rw [hR2]
  exact ⟨D, rfl, h1, h2, h3⟩
 | ok y =>
  obtain ⟨one, s1⟩ := y
  obtain ⟨rfl, m1, hp1, ho1, hl1⟩ := hk
  have HR2 : Hid (postLoop nx (s1.toks.length + 1) one s1 = R) := Lib.hid (by rw [← HR.out]; unfold postedM bindP; rw [HR1.out])
  have hdec := atom_dec HX.out s HPS.out.2.2.snd one s1 HR1.out
  have HW2 := Lib.hid (And.intro hp1 (And.intro ho1 (And.intro hl1 (And.intro (HPS.out.2.1.outs HPS.out.1 ho1) (HPS.out.2.2.of hdec.1 hdec.2 (by omega))))))
  have hnv : natV one = .int .i64 (one : Int) := rfl
  rw [hnv]
  clear hp1 ho1 hl1 hdec hnv HR HR1 HA
  go_wp2_with fail
  go_loopg [3] (s1.toks.length + 1) (fun gf s3 wx => ∃ (l : Nat) (s' : Ps) (m' : FileM), s3 = .int .i64 (l : Int) ∧ Hid (PsAt wx P F T lo dp s' m' ∧ Outs W wx P F m ∧ Later W F m m' ∧ Env wx P F ∧ Fit d s') ∧ Hid (postLoop nx gf l s' = R) ∧ s'.toks.length < gf)
  case atStart => exact ⟨one, s1, m1, rfl, HW2, HR2, by omega⟩
  case round =>
   obtain ⟨l, s', m', rfl, HW, HRL, hlen⟩ := hrel
   clear HW2 HR2
   obtain ⟨g', rfl⟩ : ∃ g', gk = g' + 1 := ⟨gk - 1, by omega⟩
   obtain ⟨t, ht⟩ : ∃ t, next s' = t := ⟨_, rfl⟩
   have HT := Lib.hid ht
   have HIS := Lib.hid (ht ▸ is_ps HW.out.1 ⟨#[46]⟩)
   clear ht
   go_wp2_with fail
   go_at_call 102; refine HIS.out.mono ?_
   rintro e w3 ⟨rfl, hp3, ha3⟩
   have H3 := Lib.hid (And.intro hp3 ha3)
   have hi2 := is_ps hp3 ⟨#[91]⟩
   rw [next_peek, HT.out] at hi2
   have HIS2 := Lib.hid hi2
   clear hp3 ha3 hi2
   cases hi : isW ⟨#[46]⟩ t with
   | true =>
    have HI := Lib.hid hi
    have HWT : Hid (1 ≤ wt (next s')) := Lib.hid (isW_wt (w := wb [46]) (by decide) HW.out.2.2.2.2.snd (by rw [HT.out]; exact HI.out))
    have htk : (next (peekS s')).k ≠ 0 := by
     rw [next_peek]
     intro e
     have h1 := HWT.out
     unfold wt at h1
     rw [if_pos e] at h1
     omega
    have hb4 := below_new w3 (.cells #[.int .i64 (l : Int)] 3)
    have hta := take_ps (H3.out.1.below hb4) htk
    rw [next_peek, take_peek, HT.out] at hta
    have HTA := Lib.hid hta
    have hlt : (takeS s').toks.length < s'.toks.length := take_lt (by rw [next_peek] at htk; exact htk)
    have hfl : ∀ w : World, (Instr.field 75 (tkV t) 2).run Tryz.prog w = .ok (.int .i64 (t.at_ : Int)) w := fun _ => rfl
    have bg4 := Blk.new w3 #[.int .i64 (l : Int)] 3
    have H4 := Lib.hid (And.intro hb4 (And.intro hlt bg4))
    have HRL2 : Hid (bindP (kindM 1) (fun t1 => bindP (addM ⟨10, t1.x, [l], [], t.at_⟩) fun i => postLoop nx g' i) (takeS s') = R) := Lib.hid (by
     rw [← HRL.out]
     conv => rhs; unfold postLoop
     have i1 : isW (wb [46]) (next s') = true := by rw [HT.out]; exact HI.out
     rw [i1, if_pos rfl, HT.out])
    clear htk hb4 hta hlt bg4 hi HRL
    go_wp2_with fail
    go_at_call 53; refine HTA.out.mono ?_
    rintro e w5 ⟨rfl, hp5, ha5⟩
    have hbg5 : Blk w5 w3.heap.size #[.int .i64 (l : Int)] 3 := H4.out.2.2.aside ha5 (by have := H3.out.1.tok.ranks; omega)
    have hA5 : Aside P wr w5 := H3.out.2.trans ((Aside.of H4.out.1).trans ha5)
    have hbe := below_new w5 (.cells #[.int .i64 10, .string ⟨#[]⟩, .slice (some ⟨w3.heap.size, 0, none⟩) 1 1, .slice none 0 0, .int .i64 (t.at_ : Int)] 38)
    have hp6 := hp5.below hbe
    have bE : Blk (w5.alloc (.cells #[.int .i64 10, .string ⟨#[]⟩, .slice (some ⟨w3.heap.size, 0, none⟩) 1 1, .slice none 0 0, .int .i64 (t.at_ : Int)] 38)) w5.heap.size #[.int .i64 10, .string ⟨#[]⟩, .slice (some ⟨w3.heap.size, 0, none⟩) 1 1, .slice none 0 0, .int .i64 (t.at_ : Int)] 38 := Blk.new _ _ _
    have HKD := Lib.hid (kind_ps hp6 (k := 1) (by decide))
    have H6 := Lib.hid (And.intro hbg5 (And.intro hA5 (And.intro hbe (And.intro hp6 (And.intro bE hp5)))))
    clear hp5 ha5 hbg5 hA5 hbe hp6 bE
    go_wp2_with fail
    go_at_call 35; refine HKD.out.mono ?_
    intro e w7 hk
    have hsz5 := H6.out.2.2.1.size
    have hA7 : Aside P wr (w5.alloc (.cells #[.int .i64 10, .string ⟨#[]⟩, .slice (some ⟨w3.heap.size, 0, none⟩) 1 1, .slice none 0 0, .int .i64 (t.at_ : Int)] 38)) := H6.out.2.1.trans (Aside.of H6.out.2.2.1)
    cases hkm : kindM 1 (takeS s') with
    | error bd =>
     rw [hkm] at hk
     obtain ⟨D, rfl, hD, hdb, ha⟩ := hk
     have hR3 : R = .error bd := by rw [← HRL2.out]; unfold bindP; rw [hkm]
     refine ⟨rfl, ?_⟩
     rw [hR3]
     have h1 := HW.out.2.1.size
     have h2 := hA7.size
     exact ⟨D, rfl, by omega, hdb, HW.out.2.1.trans HW.out.2.2.1 (Outs.aside (hA7.trans ha))⟩
    | ok y =>
     obtain ⟨t1, s2⟩ := y
     rw [hkm] at hk
     obtain ⟨rfl, hp7, ha7⟩ := hk
     have hdec := (Dec.kind (d := d) (k := 1) (by decide)) (takeS s') (HW.out.2.2.2.2.snd.sfx (take_sfx s')) t1 s2 hkm
     have hE7 := H6.out.2.2.2.2.1.aside ha7 (by have := H6.out.2.2.2.2.2.tok.ranks; omega)
     have hg7 := (H6.out.1.below H6.out.2.2.1).aside ha7 (by have := H3.out.1.tok.ranks; omega)
     have hfl2 : ∀ w : World, (Instr.field 75 (tkV t1) 1).run Tryz.prog w = .ok (.string t1.x) w := fun _ => rfl
     have hrk := H3.out.1.tok.ranks
     have hrk5 := H6.out.2.2.2.2.2.tok.ranks
     have hlt3 : w3.heap.size < w5.heap.size := H6.out.1.lt
     have hE8 : Blk (w7.setCell ⟨w5.heap.size, 1, none⟩ (.string t1.x)) w5.heap.size #[.int .i64 10, .string t1.x, .slice (some ⟨w3.heap.size, 0, none⟩) 1 1, .slice none 0 0, .int .i64 (t.at_ : Int)] 38 := by
      have := hE7.set 1 (.string t1.x)
      simpa using this
     have hg8 := hg7.other (p := ⟨w5.heap.size, 1, none⟩) (by show w3.heap.size ≠ w5.heap.size; omega) (.string t1.x)
     have hEf : w5.heap.size ∉ m'.foot F := fun hm => by have := (H6.out.2.2.2.2.2.file.lt _ hm).1; omega
     have hp8 : PsAt (w7.setCell ⟨w5.heap.size, 1, none⟩ (.string t1.x)) P F T lo dp s2 m' := hp7.same (by simp) (fun k hk hm => Below.heap_setCell _ _ _ _ (by
      show k ≠ w5.heap.size
      rcases hm with rfl | rfl | hm
      ·omega
      ·omega
      ·rintro rfl; exact hEf hm))
     have hgf : w3.heap.size ∉ m'.foot F := fun hm => by have := (H3.out.1.file.lt _ hm).1; omega
     have hpt := pot_take s'
     have hfit : Fit d s2 := HW.out.2.2.2.2.of (c := 0) (hdec.1.trans (take_sfx s')) (by have := hdec.2; omega) (by omega)
     have HAD := Lib.hid (add_atx (k := 10) (x := t1.x) (a := t.at_) (i := l) hp8 hg8 hgf (by omega) (by omega) H3.out.1.base.2 hfit.room)
     have c1 := hE7.cell 1
     have f1 := hE7.frozen 1
     have q0 := hE8.cell 0
     have q1 := hE8.cell 1
     have q2 := hE8.cell 2
     have q3 := hE8.cell 3
     have q4 := hE8.cell 4
     have HR4 : Hid (postLoop nx g' s2.f.exprs.length { s2 with f := { s2.f with exprs := s2.f.exprs ++ [⟨10, t1.x, [l], [], t.at_⟩] } } = R) := Lib.hid (by
      rw [← HRL2.out]
      unfold bindP
      rw [hkm]
      rfl)
     have hA8 := hA7.trans ha7
     have HZ := Lib.hid (And.intro hp8 (And.intro hdec (And.intro hfit (And.intro hA8 hEf))))
     clear hp7 ha7 hdec hE7 hg7 hE8 hg8 hp8 hgf hpt hfit hkm hA7 hA8 hEf hrk hrk5
     go_wp2_with fail
     go_at_call 105; refine HAD.out.mono ?_
     rintro e w9 ⟨m9, rfl, hp9, ho9, hl9, htv9⟩
     have hs3 := H3.out.2.size
     have ho8 : Outs W (w7.setCell ⟨w5.heap.size, 1, none⟩ (.string t1.x)) P F m := by
      have h1 : Outs W w7 P F m := HW.out.2.1.trans HW.out.2.2.1 (Outs.aside HZ.out.2.2.2.1)
      have h2 := HW.out.2.1.size
      have h3 := H6.out.2.1.size
      exact ⟨h1.os, h1.tape, h1.output, by simpa using h1.size, fun k hk h4 h5 => (Below.heap_setCell _ _ _ _ (by show k ≠ w5.heap.size; omega)).trans (h1.block k hk h4 h5)⟩
     have hl8 : Later W F m m9 := by
      refine ⟨fun q hq => ?_, htv9.trans HW.out.2.2.1.tv⟩
      have h2 := HW.out.2.1.size
      have h3 := H6.out.2.1.size
      rcases hl9 q hq with h1 | h1 | h1
      ·exact HW.out.2.2.1 q h1
      ·subst h1; exact .inr (by omega)
      ·have := ho8.size; exact .inr (by omega)
     have henv : Env w9 P F := ((HW.out.2.2.2.1.aside HZ.out.2.2.2.1).keep (by simp) (fun k hk => Below.heap_setCell _ _ _ _ (by
      show k ≠ w5.heap.size
      have h1 := HW.out.2.2.2.1.ready.1
      have h2 := H6.out.2.1.size
      omega))).outs HZ.out.1 ho9
     have HW9 : Hid (PsAt w9 P F T lo dp { s2 with f := { s2.f with exprs := s2.f.exprs ++ [⟨10, t1.x, [l], [], t.at_⟩] } } m9 ∧ Outs W w9 P F m ∧ Later W F m m9 ∧ Env w9 P F ∧ Fit d { s2 with f := { s2.f with exprs := s2.f.exprs ++ [⟨10, t1.x, [l], [], t.at_⟩] } }) := Lib.hid (by
      refine ⟨hp9, ho8.trans HW.out.2.2.1 ho9, hl8, henv, HZ.out.2.2.1.snd, HZ.out.2.2.1.txt, HZ.out.2.2.1.pos, ?_⟩
      have h1 := HZ.out.2.1.2
      have h2 := pot_take s'
      have h3 := HW.out.2.2.2.2.pot
      unfold Go.Proofs.YtljgggohjigaoaaGreatDoor.pot at h1 h2 h3 ⊢
      simp only [List.length_append, List.length_cons, List.length_nil] at h1 h2 h3 ⊢
      omega)
     have hnv : natV s2.f.exprs.length = .int .i64 (s2.f.exprs.length : Int) := rfl
     rw [hnv]
     have hll := H4.out.2.1
     have hl2 := HZ.out.2.1.1.length_le
     clear hp9 ho9 hl9 ho8 hl8 henv hnv c1 f1 q0 q1 q2 q3 q4
     go_wp2_with fail
     go_roundg g'
     case measure => omega
     case rel => exact ⟨_, _, m9, rfl, HW9, HR4, by show s2.toks.length < g'; omega⟩
   | false =>
    have HI := Lib.hid hi
    clear hi
    go_wp2_with fail
    go_at_call 102; refine HIS2.out.mono ?_
    rintro e w4 ⟨rfl, hp4, ha4⟩
    rw [peek_peek] at hp4
    have ha34 := H3.out.2.trans ha4
    have H4 := Lib.hid (And.intro hp4 (And.intro ha34 (HW.out.2.2.2.1.aside ha34)))
    clear hp4 ha4 ha34
    cases hj : isW ⟨#[91]⟩ t with
    | true =>
     have HJ := Lib.hid hj
     have HRL2 : Hid (bindP (indexedM nx l) (fun i => postLoop nx g' i) (peekS s') = R) := Lib.hid (by
      rw [← HRL.out]
      conv => rhs; unfold postLoop
      have i1 : isW (wb [46]) (next s') = false := by rw [HT.out]; exact HI.out
      have i2 : isW (wb [91]) (next s') = true := by rw [HT.out]; exact HJ.out
      rw [i1, i2]
      rfl)
     obtain ⟨R2, hR2⟩ : ∃ R2, indexedM nx l (peekS s') = R2 := ⟨_, rfl⟩
     have HR2 := Lib.hid hR2
     have hfp : Fit d (peekS s') := HW.out.2.2.2.2.of (c := 0) (peek_sfx s') (by have := pot_peek s'; omega) (by omega)
     have hix := HIN.out l w4 (peekS s') m' H4.out.1 H4.out.2.2 hfp
     rw [hR2] at hix
     have HIX := Lib.hid hix
     have HFP := Lib.hid hfp
     clear hj hix hfp hR2
     go_wp2_with fail
     go_at_call 150; refine HIX.out.mono ?_
     intro e w5 hk
     have ho4 : Outs W w4 P F m := HW.out.2.1.trans HW.out.2.2.1 (Outs.aside H4.out.2.1)
     cases R2 with
     | error bd =>
      obtain ⟨D, rfl, h1, h2, h3⟩ := hk
      have hR3 : R = .error bd := by rw [← HRL2.out]; unfold bindP; rw [HR2.out]
      refine ⟨rfl, ?_⟩
      rw [hR3]
      exact ⟨D, rfl, Nat.le_trans ho4.size h1, h2, ho4.trans HW.out.2.2.1 h3⟩
     | ok y =>
      obtain ⟨i, s2⟩ := y
      obtain ⟨rfl, m2, hp6, ho6, hl6⟩ := hk
      have hdec := indexed_dec HX.out l (peekS s') HFP.out.snd i s2 HR2.out
      have hlt2 := indexed_lt HX.out HFP.out.snd HR2.out
      have hlt3 := (peek_sfx s').length_le
      have HR4 : Hid (postLoop nx g' i s2 = R) := Lib.hid (by
       rw [← HRL2.out]
       unfold bindP
       rw [HR2.out])
      have HW6 : Hid (PsAt w5 P F T lo dp s2 m2 ∧ Outs W w5 P F m ∧ Later W F m m2 ∧ Env w5 P F ∧ Fit d s2) := Lib.hid ⟨hp6, ho4.trans HW.out.2.2.1 ho6, HW.out.2.2.1.trans ho4.size hl6, H4.out.2.2.outs H4.out.1 ho6, HFP.out.of hdec.1 hdec.2 (by omega)⟩
      have hnv : natV i = .int .i64 (i : Int) := rfl
      rw [hnv]
      clear hp6 ho6 hl6 hdec hnv ho4
      go_wp2_with fail
      go_roundg g'
      case measure => omega
      case rel => exact ⟨i, s2, m2, rfl, HW6, HR4, by omega⟩
    | false =>
     have hend : R = .ok (l, peekS s') := by
      rw [← HRL.out]
      unfold postLoop
      have i1 : isW (wb [46]) (next s') = false := by rw [HT.out]; exact HI.out
      have i2 : isW (wb [91]) (next s') = false := by rw [HT.out]; exact hj
      rw [i1, i2]
      rfl
     have HEND := Lib.hid hend
     clear hend hj
     go_wp2_with fail
     go_ret
     rw [HEND.out]
     exact ⟨rfl, m', H4.out.1, HW.out.2.1.trans HW.out.2.2.1 (Outs.aside H4.out.2.1), HW.out.2.2.1⟩
end
end Go.Proofs.YtljgggohjigaoaaGreatDoor
