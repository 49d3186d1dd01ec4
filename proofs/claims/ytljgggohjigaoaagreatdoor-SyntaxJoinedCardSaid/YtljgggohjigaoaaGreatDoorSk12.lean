/- What has ended and what is ahead never grows: texts, expressions, blocks · What the scanner makes weighs no more than its bytes -/
import Derived.Test.YtljgggohjigaoaaGreatDoorSk11
namespace Go.Proofs.YtljgggohjigaoaaGreatDoor
set_option linter.unusedVariables false

section
variable {α β : Type} {c e : Int} {s : Ps} {d : Nat} {nx : Sub}
theorem Res.bind0 {m : PM α} {k : α → PM β} (hS : Snd d s.toks) (h : Res c s (m s)) (hk : ∀ a, Dec d e (k a)) : Res (c + e) s (bindP m k s) := Res.bind hS h fun a s' _ hS' => hk a s' hS'
/-- A text's parts weigh no more than its bytes. -/
theorem parts_res (hx : SubOk d nx) : ∀ (n : Nat) (R : List UInt8) (at_ : Nat) (args : List Nat) (keys : List ByteArray) (s : Ps), Snd d s.toks →
  (∀ R', R' <:+ R → ∀ b q, insL R' = some (b, q) → b < q → ∀ d', d = d' + 1 → ∀ (l : List Tk) (at_ : Nat), scanL (bA ((((R'.take q).drop b).drop 2).take (((R'.take q).drop b).length - 3))) = .ok l → wts l ≤ q - b - 1 ∧ Snd d' ((l ++ [endT (bA ((((R'.take q).drop b).drop 2).take (((R'.take q).drop b).length - 3))).size]).map (shiftT (at_ + 2)))) →
  Res (-(R.length : Int)) s (partsM nx n R at_ args keys s) := by
 intro n
 induction n with
 | zero => intro R at_ args keys s hS hR; exact Res.none
 | succ n ih =>
  intro R at_ args keys s hS hR
  unfold partsM
  by_cases h0 : R = []
  ·subst h0
   rw [if_pos rfl]
   exact Res.ok (List.suffix_refl _) (by simp)
  ·rw [if_neg h0]
   cases hi : insL R with
   | none => exact Res.none
   | some y =>
    obtain ⟨b, q⟩ := y
    obtain ⟨hq1, hq2⟩ := insL_le hi h0
    simp only
    have h1 : Res (if 0 < b then -1 else 0 : Int) s (if 0 < b then match saidL (R.take b) with
     | none => noneE
     | some t => bindP (addM ⟨5, bA t, [], [], at_⟩) (fun i s' => .ok ((args ++ [i], keys ++ [bA [116]]), s')) s
    else .ok ((args, keys), s) : PR (List Nat × List ByteArray)) := by
     by_cases hb : 0 < b
     ·rw [if_pos hb, if_pos hb]
      cases saidL (R.take b) with
      | none => exact Res.none
      | some t => exact (Res.bind0 (e := 0) hS (Dec.add _ s hS) (fun i => Dec.pure)).mono (by omega)
     ·rw [if_neg hb, if_neg hb]
      exact Res.ok (List.suffix_refl _) (by omega)
    cases hm : (if 0 < b then match saidL (R.take b) with
     | none => noneE
     | some t => bindP (addM ⟨5, bA t, [], [], at_⟩) (fun i s' => .ok ((args ++ [i], keys ++ [bA [116]]), s')) s
    else .ok ((args, keys), s) : PR (List Nat × List ByteArray)) with
    | error x => exact Res.err _
    | ok y =>
     obtain ⟨⟨args1, keys1⟩, s1⟩ := y
     obtain ⟨h2, h3⟩ := h1 _ _ hm
     have hS1 := hS.sfx h2
     simp only
     have h4 : Res (if b < q then -((q - b - 1 : Nat) : Int) else 0 : Int) s1 (if b < q then bindP (insertedM nx ((R.take q).drop b) (at_ + b)) (fun i s' => .ok ((args1 ++ [i], keys1 ++ [bA [101]]), s')) s1
     else .ok ((args1, keys1), s1) : PR (List Nat × List ByteArray)) := by
      by_cases hb : b < q
      ·rw [if_pos hb, if_pos hb]
       refine (Res.bind0 (e := 0) hS1 (inserted_res (K := q - b - 1) fun p hp => ?_) (fun i => Dec.pure)).mono (by omega)
       obtain ⟨d', rfl, hD⟩ := hx.ins p hp
       exact ⟨d', hD, fun l hl => hR R (List.suffix_refl _) b q hi hb d' rfl l (at_ + b) hl⟩
      ·rw [if_neg hb, if_neg hb]
       exact Res.ok (List.suffix_refl _) (by omega)
     cases hm2 : (if b < q then bindP (insertedM nx ((R.take q).drop b) (at_ + b)) (fun i s' => .ok ((args1 ++ [i], keys1 ++ [bA [101]]), s')) s1
     else .ok ((args1, keys1), s1) : PR (List Nat × List ByteArray)) with
     | error x => exact Res.err _
     | ok y =>
      obtain ⟨⟨args2, keys2⟩, s2⟩ := y
      obtain ⟨h5, h6⟩ := h4 _ _ hm2
      have hS2 := hS1.sfx h5
      simp only
      intro a s' hr
      obtain ⟨h7, h8⟩ := ih (R.drop q) (at_ + q) args2 keys2 s2 hS2 (fun R' hR' => hR R' (hR'.trans (List.drop_suffix _ _))) a s' hr
      refine ⟨(h7.trans h5).trans h2, ?_⟩
      rw [List.length_drop] at h8
      have h9 : (pot s1 : Int) ≤ pot s + 1 ∧ (¬ 0 < b → (pot s1 : Int) ≤ pot s) := by
       by_cases hb : 0 < b
       ·rw [if_pos hb] at h3; exact ⟨by omega, fun h => absurd hb h⟩
       ·rw [if_neg hb] at h3; exact ⟨by omega, fun _ => by omega⟩
      have h10 : (pot s2 : Int) ≤ pot s1 + (q - b - 1 : Nat) := by
       by_cases hb : b < q
       ·rw [if_pos hb] at h6; omega
       ·rw [if_neg hb] at h6; omega
      have h11 : ¬ 0 < b ∨ 0 < b := by omega
      rcases h11 with h11 | h11
      ·have := h9.2 h11; omega
      ·omega
theorem insL_no {R : List UInt8} {b q : Nat} (h : insL R = some (b, q)) (hb : b ≠ R.length) : aheadL R < R.length := by
 unfold insL at h
 split at h
 ·assumption
 ·cases h
  exact absurd rfl hb
theorem text_res (hx : SubOk d nx) (hS : Snd d s.toks) (hk : (next s).k = 3) : Res 0 s (textM nx s) := by
 have hw1 : 1 ≤ wt (next s) := wt_pos (by omega)
 have hsz : (next s).x.data.toList.length = (next s).x.size := Array.length_toList
 have hT : Snd d (takeS s).toks := hS.sfx (take_sfx s)
 unfold textM
 simp only
 cases hi0 : insL (next s).x.data.toList with
 | none => exact Res.none
 | some y =>
  obtain ⟨b, q⟩ := y
  simp only
  split
  ·cases saidL (next s).x.data.toList with
   | none => exact Res.none
   | some t => exact (Res.take (n := 1) (by omega) (Dec.add _ (takeS s) hT)).mono (by omega)
  ·rename_i hb0
   have hw : wt (next s) = (next s).x.size + 2 := by
    unfold wt; rw [if_neg (by omega), if_pos ⟨hk, insL_no hi0 hb0⟩]
   refine (Res.take (n := (next s).x.size + 2) (by omega) (Res.bind0 hT (parts_res hx _ _ _ _ _ _ hT ?_) (fun r => Dec.add _))).mono (by omega)
   intro R' hR' b' q' hi hb d' hd l at_ hl
   subst hd
   rcases next_mem s with h1 | h1
   ·exact hS.2 _ h1 hk R' hR' b' q' hi hb l at_ hl
   ·rw [h1] at hk; cases hk
theorem args_dec {ex : PM Nat} {en : ByteArray} (hex : Dec d 0 ex) : ∀ (n : Nat) (args : List Nat), Dec d 0 (argsM en ex n args) := by
 intro n
 induction n with
 | zero => intro args s hS; exact Res.none
 | succ n ih =>
  intro args s hS
  unfold argsM
  split
  ·exact Res.ok (peek_sfx s) (by have := pot_peek s; omega)
  ·refine Res.peek ((Res.bind0 (e := 0) (hS.sfx (peek_sfx s)) (hex _ (hS.sfx (peek_sfx s))) fun i => ?_).mono (by omega))
   refine (Dec.bind (e := 0) Dec.skip fun c s' hS' => ?_).mono (by omega)
   cases c with
   | true => exact ih _ s' hS'
   | false => exact Dec.pure s' hS'
theorem key_dec {ahead : List ByteArray} : Dec d 0 (keyM ahead) := fun s hS => by
 unfold keyM
 have h1 : Res 0 s (if (next s).k = 3 then plainM (peekS s) else bindP (kindM 1) (fun t s' => .ok (t.x, s')) (peekS s) : PR ByteArray) := by
  split
  ·exact Res.peek (Dec.plain _ (hS.sfx (peek_sfx s)))
  ·exact Res.peek ((Res.bind0 (e := 0) (hS.sfx (peek_sfx s)) (Dec.kind0 (k := 1) _ (hS.sfx (peek_sfx s))) fun t => Dec.pure).mono (by omega))
 intro a s' hr
 cases hm : (if (next s).k = 3 then plainM (peekS s) else bindP (kindM 1) (fun t s' => .ok (t.x, s')) (peekS s) : PR ByteArray) with
 | error x => rw [hm] at hr; cases hr
 | ok y =>
  obtain ⟨k, s1⟩ := y
  rw [hm] at hr
  simp only at hr
  split at hr
  ·cases hr
  ·cases hr
   exact h1 _ _ hm
theorem obj_dec {ex : PM Nat} (hex : Dec d 0 ex) : ∀ (n : Nat) (keys : List ByteArray) (args : List Nat), Dec d 0 (objM ex n keys args) := by
 intro n
 induction n with
 | zero => intro keys args s hS; exact Res.none
 | succ n ih =>
  intro keys args s hS
  unfold objM
  split
  ·exact Res.ok (peek_sfx s) (by have := pot_peek s; omega)
  ·refine Res.peek ?_
   have hS1 := hS.sfx (peek_sfx s)
   refine (Dec.bind (d := d) (e := 0) key_dec fun k => (Dec.bind (e := 0) (Dec.want (by decide)) fun _ => (Dec.bind (e := 0) hex fun i => (Dec.bind (e := 0) Dec.skip fun cm => (Dec.bind (e := 0) Dec.lines fun l s' hS' => ?_).mono (by omega)).mono (by omega)).mono (by omega)).mono (by omega)).mono (by omega) _ hS1
   split
   ·exact Res.ok (List.suffix_refl _) (by omega)
   ·exact ih _ _ s' hS'
theorem list_dec (hx : SubOk d nx) : Dec d 0 (listM nx) := by
 unfold listM
 refine (Dec.bind (c := 1) (e := -1) (Dec.between (by decide) fun p hp => ?_) fun r => Dec.add _).mono (by omega)
 refine (Dec.bind (e := 0) Dec.skip fun fr => ?_).mono (by omega)
 cases fr with
 | true =>
  simp only [if_true]
  exact (Dec.bind (e := 0) (Dec.kind0) fun t => (Dec.bind (e := 0) (Dec.want (by decide)) fun _ => (Dec.bind (e := 0) (hx.expr p hp) fun i => (Dec.bind (e := 0) (Dec.want (by decide)) fun _ => (Dec.bind (e := 0) (hx.expr p hp) fun j => Dec.pure).mono (by omega)).mono (by omega)).mono (by omega)).mono (by omega)).mono (by omega)
 | false =>
  simp only [Bool.false_eq_true, if_false]
  intro s hS
  exact (Res.bind0 (e := 0) hS (args_dec (hx.expr p hp) _ _ s hS) fun l => Dec.pure).mono (by omega)
theorem object_dec (hx : SubOk d nx) : Dec d 0 (objectM nx) := by
 unfold objectM
 refine (Dec.bind (c := 1) (e := -1) (Dec.between (by decide) fun p hp => ?_) fun r => Dec.add _).mono (by omega)
 exact (Dec.bind (e := 0) Dec.lines fun _ s hS => obj_dec (hx.expr p hp) _ _ _ s hS).mono (by omega)
theorem named_res (hx : SubOk d nx) (hS : Snd d s.toks) (hk : (next s).k = 1) : Res 0 s (namedM nx s) := by
 have hw : 1 ≤ wt (next s) := wt_pos (by omega)
 have hT : Snd d (takeS s).toks := hS.sfx (take_sfx s)
 have hP : Snd d (peekS (takeS s)).toks := hT.sfx (peek_sfx _)
 unfold namedM
 simp only
 have hadd : ∀ x, Res 0 s (addM x (peekS (takeS s))) := fun x => (Res.take (n := 1) (by omega) (Res.peek (Dec.add (d := d) x _ hP))).mono (by omega)
 split
 ·refine (Res.take (n := 1) (by omega) (Res.peek (Dec.bind (d := d) (c := 1) (e := -1) (Dec.between (by decide) fun p hp s hS => ?_) (fun r => Dec.add _) _ hP))).mono (by omega)
  exact args_dec (hx.expr p hp) _ _ s hS
 ·split
  ·exact hadd _
  ·split
   ·exact hadd _
   ·split
    ·exact hadd _
    ·exact hadd _
theorem atom_dec (hx : SubOk d nx) : Dec d 0 (atomM nx) := fun s hS => by
 have hT : Snd d (takeS s).toks := hS.sfx (take_sfx s)
 unfold atomM
 simp only
 split
 ·rename_i h
  exact (Res.take (n := 1) (wt_pos (by rw [h]; decide)) (Dec.add (d := d) _ _ hT)).mono (by omega)
 ·split
  ·rename_i h
   exact text_res hx hS h
  ·split
   ·rename_i h
    exact named_res hx hS h.1
   ·split
    ·exact (Dec.bind (d := d) (c := 1) (e := 0) (Dec.between (by decide) fun p hp => hx.expr p hp) (fun r => Dec.pure)).mono (by omega) s hS
    ·split
     ·exact list_dec hx s hS
     ·split
      ·exact object_dec hx s hS
      ·exact Res.err _
theorem indexed_dec (hx : SubOk d nx) (one : Nat) : Dec d 0 (indexedM nx one) := by
 unfold indexedM
 refine (Dec.bind (c := 1) (e := -1) (Dec.between (by decide) fun p hp => ?_) fun r => ?_).mono (by omega)
 ·refine (Dec.bind (e := 0) Dec.skip fun st => ?_).mono (by omega)
  cases st with
  | true => exact Dec.pure
  | false => exact (Dec.bind (e := 0) (hx.expr p hp) fun i => Dec.pure).mono (by omega)
 ·split
  ·exact (Dec.bind (e := -1) (Dec.want (by decide)) fun _ => (Dec.bind (e := -1) Dec.kind0 fun t => Dec.add _).mono (by omega)).mono (by omega)
  ·exact Dec.add _
theorem post_dec (hx : SubOk d nx) : ∀ (n one : Nat), Dec d 0 (postLoop nx n one) := by
 intro n
 induction n with
 | zero => intro one s hS; exact Res.none
 | succ n ih =>
  intro one s hS
  have hT : Snd d (takeS s).toks := hS.sfx (take_sfx s)
  have hP : Snd d (peekS s).toks := hS.sfx (peek_sfx s)
  unfold postLoop
  split
  ·rename_i h
   refine (Res.take (n := 1) (isW_wt (by decide) hS h) (Dec.bind (d := d) (e := -1) Dec.kind0 (fun t => (Dec.bind (e := 0) (Dec.add _) fun i => ih i).mono (by omega)) _ hT)).mono (by omega)
  ·split
   ·exact Res.peek ((Dec.bind (d := d) (e := 0) (indexed_dec hx one) (fun i => ih i)).mono (by omega) _ hP)
   ·exact Res.ok (peek_sfx s) (by have := pot_peek s; omega)
theorem posted_dec (hx : SubOk d nx) : Dec d 0 (postedM nx) := (Dec.bind (e := 0) (atom_dec hx) fun one s hS => post_dec hx _ one s hS).mono (by omega)
theorem signed_dec (hx : SubOk d nx) : Dec d 0 (signedM nx) := fun s hS => by
 have hT : Snd d (takeS s).toks := hS.sfx (take_sfx s)
 have hP : Snd d (peekS s).toks := hS.sfx (peek_sfx s)
 unfold signedM
 simp only
 split
 ·rename_i h
  exact (Res.take (n := 1) (isW_wt (by decide) hS h) (Dec.bind (d := d) (c := 0) (e := -1) (Dec.deeper fun p hp => hx.sign p hp) (fun i => Dec.add _) _ hT)).mono (by omega)
 ·split
  ·rename_i h
   exact (Res.take (n := 1) (isW_wt (by decide) hS h) (Dec.bind (d := d) (c := 0) (e := -1) (Dec.deeper fun p hp => hx.sign p hp) (fun i => Dec.add _) _ hT)).mono (by omega)
  ·exact Res.peek (posted_dec hx _ hP)
theorem joins_wt {t : Tk} {lv : Nat} (h : lowK lv ≤ joinsT t) : 1 ≤ wt t := by
 refine wt_pos fun hk => ?_
 have h0 : joinsT t = 0 := by unfold joinsT; rw [if_pos (by omega)]
 rw [h0] at h
 unfold lowK at h
 split at h <;> omega
theorem joinLoop_dec {sub : PM Nat} {lv : Nat} (hs : Dec d 0 sub) : ∀ (n left : Nat), Dec d 0 (joinLoop sub lv n left) := by
 intro n
 induction n with
 | zero => intro left s hS; exact Res.none
 | succ n ih =>
  intro left s hS
  have hT : Snd d (takeS s).toks := hS.sfx (take_sfx s)
  unfold joinLoop
  split
  ·rename_i h
   exact (Res.take (n := 1) (joins_wt h.1) (Dec.bind (d := d) (e := -1) hs (fun right => (Dec.bind (e := 0) (Dec.add _) fun i => ih i).mono (by omega)) _ hT)).mono (by omega)
  ·exact Res.ok (peek_sfx s) (by have := pot_peek s; omega)
theorem joined_dec (hx : SubOk d nx) : ∀ n, Dec d 0 (joinedM nx n) := by
 intro n
 induction n with
 | zero => exact signed_dec hx
 | succ n ih => exact (Dec.bind (e := 0) ih fun left s hS => joinLoop_dec ih _ left s hS).mono (by omega)
theorem expr_dec (hx : SubOk d nx) : Dec d 0 (exprM nx) := by
 unfold exprM
 refine (Dec.bind (e := 0) (joined_dec hx 6) fun first s hS => ?_).mono (by omega)
 have hT : Snd d (takeS s).toks := hS.sfx (take_sfx s)
 split
 ·rename_i h
  refine (Res.take (n := 1) (isW_wt (by decide) hS h) (Dec.bind (d := d) (c := 0) (e := -1) (Dec.deeper fun p hp => ?_) (fun l => Dec.add _) _ hT)).mono (by omega)
  exact (Dec.bind (e := 0) (hx.expr p hp) fun i => (Dec.bind (e := 0) (Dec.want (by decide)) fun _ => (Dec.bind (e := 0) (hx.expr p hp) fun j => Dec.pure).mono (by omega)).mono (by omega)).mono (by omega)
 ·exact Res.ok (peek_sfx s) (by have := pot_peek s; omega)
theorem sub_ok : ∀ d, SubOk d (subP d) := by
 intro d
 induction d with
 | zero => exact ⟨fun p h => by simp [subP] at h, fun p h => by simp [subP] at h, fun p h => by simp [subP] at h⟩
 | succ d ih =>
  have h1 := expr_dec ih
  have h2 := signed_dec ih
  refine ⟨fun p h => ?_, fun p h => ?_, fun p h => ?_⟩ <;> (simp only [subP, Option.some.injEq] at h; subst h)
  ·exact fun s hS => h1 s hS.down
  ·exact fun s hS => h2 s hS.down
  ·exact ⟨d, rfl, h1⟩
theorem exprs_dec (d : Nat) : Dec d 0 (exprM (subP d)) := expr_dec (sub_ok d)
theorem itemsLoop_dec {σ : Type} {rd : Tk → σ → PM σ} (hr : ∀ t x, Dec d (-1) (rd t x)) : ∀ (n : Nat) (x : σ), Dec d 0 (itemsLoop rd n x) := by
 intro n
 induction n with
 | zero => intro x s hS; exact Res.none
 | succ n ih =>
  intro x s hS
  have hT : Snd d (takeS s).toks := hS.sfx (take_sfx s)
  unfold itemsLoop
  split
  ·rename_i h
   refine (Res.take (n := 1) (wt_pos (by rw [h]; decide)) (Dec.bind (d := d) (e := 0) (hr _ x) (fun x' => (Dec.bind (e := 0) Dec.lines fun l s' hS' => ?_).mono (by omega)) _ hT)).mono (by omega)
   cases l with
   | true => exact ih x' s' hS'
   | false => exact Res.ok (List.suffix_refl _) (by omega)
  ·exact Res.ok (peek_sfx s) (by have := pot_peek s; omega)
theorem items_dec {σ : Type} {rd : Tk → σ → PM σ} (hr : ∀ t x, Dec d (-1) (rd t x)) (x : σ) : Dec d 0 (itemsM rd x) := (Dec.bind (e := 0) Dec.lines fun _ s hS => itemsLoop_dec hr _ x s hS).mono (by omega)
theorem labels_dec : ∀ (n : Nat) (l : List ByteArray), Dec d 0 (labelsM n l) := by
 intro n
 induction n with
 | zero => intro l s hS; exact Res.none
 | succ n ih =>
  intro l s hS
  unfold labelsM
  split
  ·exact Res.peek ((Dec.bind (d := d) (e := 0) Dec.plain fun t => ih _).mono (by omega) _ (hS.sfx (peek_sfx s)))
  ·exact Res.ok (peek_sfx s) (by have := pot_peek s; omega)
theorem block_dec : ∀ (d : Nat) (t : Tk), Dec d 0 (blockM d t) := by
 intro d
 induction d with
 | zero =>
  intro t s hS
  unfold blockM
  refine (Res.bind0 (e := 0) hS (labels_dec _ _ s hS) fun ls => ?_).mono (by omega)
  exact (Dec.bind (e := 0) (Dec.want (by decide)) fun o s1 hS1 => Res.err _).mono (by omega)
 | succ d ih =>
  intro t s hS
  unfold blockM
  refine (Res.bind0 (e := 0) hS (labels_dec _ _ s hS) fun ls => ?_).mono (by omega)
  refine (Dec.bind (e := -1) (Dec.want (by decide)) fun o s1 hS1 => ?_).mono (by omega)
  simp only
  refine Res.over (o := false) ?_
  refine Res.mono (c := 0 + -1) (e := -1) (Res.bind (d := d + 1) (c := 0) (e := -1) hS1 (items_dec (fun n b => ?_) _ _ hS1) fun b s2 _ hS2 => ?_) (by omega)
  ·refine (Dec.bind (e := 0) Dec.skip fun eq => ?_).mono (by omega)
   cases eq with
   | true => exact fun s3 hS3 => (Res.bind0 (c := 0) (e := 0) hS3.down (exprs_dec d s3 hS3.down) fun i => Dec.pure).mono (by omega)
   | false => exact fun s3 hS3 => (Res.bind0 (c := 0) (e := 0) hS3.down (ih n s3 hS3.down) fun i => Dec.pure).mono (by omega)
  ·exact (Res.bind0 (e := -1) hS2 (Dec.want (by decide) s2 hS2) fun _ s3 hS3 => Dec.addBl (d := d + 1) b { s3 with over := s1.over } hS3).mono (by omega)
theorem whole_dec : Dec 24 0 wholeM := by
 unfold wholeM
 refine (Dec.bind (e := 0) (items_dec (fun n x => ?_) ()) fun _ => (Dec.bind (e := 0) Dec.kind0 fun _ => Dec.pure).mono (by omega)).mono (by omega)
 exact Dec.mono (c := 0 + 0) (e := -1) (Dec.bind (c := 0) (e := 0) (block_dec 24 n) fun i s hS => Res.ok (List.suffix_refl _) (by show (pot s : Int) + 0 ≤ pot s; omega)) (by omega)
end
end Go.Proofs.YtljgggohjigaoaaGreatDoor
namespace Go.Proofs.YtljgggohjigaoaaGreatDoor
set_option linter.unusedVariables false

theorem ahead_plain : ∀ (b L : List UInt8), (∀ c ∈ b, c ≠ 92 ∧ c ≠ 36) → aheadL (b ++ L) = b.length + aheadL L
 | [], L, _ => by simp
 | c :: b, L, h => by
  have h0 := h c List.mem_cons_self
  rw [List.cons_append, aheadL.eq_def]
  simp only
  rw [if_neg h0.1, if_neg (fun e => h0.2 e.1), ahead_plain b L (fun c hc => h c (List.mem_cons_of_mem _ hc))]
  simp only [List.length_cons]
  omega
theorem ahead_esc (e : UInt8) (L : List UInt8) : aheadL (92 :: e :: L) = 2 + aheadL L := by
 rw [aheadL, if_pos rfl]
set_option maxRecDepth 100000 in
theorem enc_low0 : ∀ n : Fin 128, ePlace n.val < 0 → ∀ c ∈ Lib.encodeRune ((n.val : Nat) : Int), c ≠ 92 ∧ c ≠ 36 := by decide +kernel
theorem enc_high0 {r : Int} (h : 128 ≤ r) : ∀ c ∈ Lib.encodeRune r, c ≠ 92 ∧ c ≠ 36 := by
 intro c hc
 have hb := Lib.encodeRuneZ_byte r
 unfold Lib.encodeRune at hc
 obtain ⟨z, hz, rfl⟩ := List.mem_map.1 hc
 have hz2 := hb z hz
 have h1 : 128 ≤ z := by
  unfold Lib.encodeRuneZ at hz
  split at hz
  ·simp at hz; omega
  ·split at hz
   ·simp at hz; omega
   ·split at hz
    ·simp at hz; omega
    ·split at hz
     ·simp at hz; omega
     ·simp at hz; omega
 have h2 : z.toNat < 256 := by omega
 have h3 : (z.toNat.toUInt8).toNat = z.toNat := by simp [Nat.toUInt8]; omega
 refine ⟨fun e => ?_, fun e => ?_⟩
 ·rw [e] at h3
  have : (92 : UInt8).toNat = 92 := rfl
  omega
 ·rw [e] at h3
  have : (36 : UInt8).toNat = 36 := rfl
  omega
theorem ahead_rune (r : Nat) (L : List UInt8) : aheadL (escRune r ++ L) = (escRune r).length + aheadL L := by
 unfold escRune
 by_cases h : 0 ≤ ePlace r
 ·rw [if_pos h]
  show aheadL (92 :: _ :: L) = _
  rw [ahead_esc]
  rfl
 ·rw [if_neg h]
  refine ahead_plain _ _ ?_
  by_cases h2 : r < 128
  ·exact enc_low0 ⟨r, h2⟩ (by show ePlace r < 0; omega)
  ·exact enc_high0 (by omega)
theorem ahead_from (s : ByteArray) : ∀ n pos, aheadL (escFrom s n pos) = (escFrom s n pos).length
 | 0, pos => by unfold escFrom; rfl
 | n + 1, pos => by
  unfold escFrom
  split
  ·rw [ahead_rune, ahead_from s n, List.length_append]
  ·rfl
theorem here_ahead {nm B : List UInt8} : ∀ {n : Nat} {R x R' : List UInt8}, hereL n nm B R = .ok (x, R') → aheadL x = x.length
 | 0, R, x, R', h => by cases h
 | n + 1, R, x, R', h => by
  unfold hereL at h
  split at h
  ·split at h
   ·cases h
    exact ahead_from _ _ _
   ·exact here_ahead h
  ·cases h
theorem next_wt {R x R' : List UInt8} {k : Int} (hR : R ≠ []) (h : nextL R = (k, .ok (x, R'))) (p : Nat) : k ≠ 0 ∧ wt ⟨k, ⟨x.toArray⟩, p⟩ + R'.length ≤ R.length := by
 have hg := (nextL_goes hR).1 x R' (by rw [h])
 have hone : k ≠ 0 → (k = 3 → aheadL x = x.length) → wt ⟨k, ⟨x.toArray⟩, p⟩ + R'.length ≤ R.length := by
  intro h0 h3
  unfold wt
  rw [if_neg h0]
  split
  ·rename_i h4
   have := h3 h4.1
   simp at h4
   omega
  ·omega
 unfold nextL at h
 match R, hR with
 | c :: r, _ =>
  simp only at h
  split at h
  ·cases h; exact ⟨by decide, hone (by decide) (fun e => by cases e)⟩
  ·split at h
   ·have h1 := congrArg Prod.fst h
    have h2 := congrArg Prod.snd h
    simp only at h1 h2
    subst h1
    refine ⟨by decide, ?_⟩
    unfold quotedL at h2
    split at h2
    ·rename_i q hq
     simp only [Except.ok.injEq, Prod.mk.injEq] at h2
     obtain ⟨h2, rfl⟩ := h2
     have hx : x.length ≤ (c :: r).length - q.length - 2 := by rw [← h2, List.length_take]; omega
     unfold wt
     rw [if_neg (by show ¬ ((3 : Int) = 0); decide)]
     split
     ·rename_i h4
      have hs : (⟨x.toArray⟩ : ByteArray).size = x.length := by simp [ByteArray.size]
      simp only at h4
      have h5 := h4.2
      simp only [hs]
      have h6 : 0 < x.length := by
       cases x with
       | nil => simp [aheadL] at h5
       | cons a b => simp
      omega
     ·omega
    ·cases h2
   ·split at h
    ·have h1 := congrArg Prod.fst h
     have h2 := congrArg Prod.snd h
     simp only at h1 h2
     subst h1
     refine ⟨by decide, hone (by decide) fun _ => ?_⟩
     unfold heredocL at h2
     split at h2
     ·exact here_ahead h2
     ·cases h2
    ·split at h
     ·have h1 := congrArg Prod.fst h
      simp only at h1
      subst h1
      exact ⟨by decide, hone (by decide) (fun e => by cases e)⟩
     ·split at h
      ·have h1 := congrArg Prod.fst h
       simp only at h1
       subst h1
       exact ⟨by decide, hone (by decide) (fun e => by cases e)⟩
      ·have h1 := congrArg Prod.fst h
       simp only at h1
       subst h1
       exact ⟨by decide, hone (by decide) (fun e => by cases e)⟩
theorem tokL_wt {sz : Nat} : ∀ {n : Nat} {R : List UInt8} {acc l : List Tk}, tokL sz n R acc = .ok l → wts l ≤ wts acc + R.length ∧ ∀ t ∈ l, t ∈ acc ∨ t.k ≠ 0
 | 0, R, acc, l, h => by cases h
 | n + 1, R, acc, l, h => by
  unfold tokL at h
  split at h
  ·cases h
   exact ⟨by omega, fun t ht => .inl ht⟩
  ·rename_i hR
   have hne : R ≠ [] := by intro e; subst e; simp at hR
   cases hr : (nextL R).2 with
   | error c => rw [hr] at h; cases h
   | ok y =>
    obtain ⟨x, R'⟩ := y
    rw [hr] at h
    simp only at h
    obtain ⟨h0, h1⟩ := next_wt (k := (nextL R).1) (x := x) (R' := R') hne (by rw [← hr]) (sz - R.length)
    split at h
    ·cases h
    ·obtain ⟨h2, h3⟩ := tokL_wt h
     have h4 := betweenA_le (Nat.le_refl R'.length)
     rw [wts_append] at h2
     have h5 : wts [(⟨(nextL R).1, ⟨x.toArray⟩, sz - R.length⟩ : Tk)] = wt ⟨(nextL R).1, ⟨x.toArray⟩, sz - R.length⟩ := by unfold wts; simp
     refine ⟨by omega, fun t ht => ?_⟩
     rcases h3 t ht with h6 | h6
     ·rcases List.mem_append.1 h6 with h7 | h7
      ·exact .inl h7
      ·have := List.mem_singleton.1 h7
       subst this
       exact .inr h0
     ·exact .inr h6
theorem scan_wt {t : ByteArray} {l : List Tk} (h : scanL t = .ok l) : wts l ≤ t.size ∧ ∀ x ∈ l, x.k ≠ 0 := by
 unfold scanL at h
 split at h
 ·cases h
 ·split at h
  ·cases h
  ·obtain ⟨h1, h2⟩ := tokL_wt h
   have h3 := betweenA_le (Nat.le_refl (rest t 0).length)
   have h4 : (rest t 0).length = t.size := by rw [rest_length]; omega
   refine ⟨by simp [wts] at h1 ⊢; omega, fun x hx => ?_⟩
   rcases h2 x hx with h5 | h5
   ·cases h5
   ·exact h5
theorem scan_snd : ∀ (d : Nat) {t : ByteArray} {l : List Tk} (n s : Nat), scanL t = .ok l → Snd d ((l ++ [endT n]).map (shiftT s)) := by
 intro d
 induction d with
 | zero =>
  intro t l n s h x hx hk
  obtain ⟨y, hy, rfl⟩ := List.mem_map.1 hx
  rcases List.mem_append.1 hy with h1 | h1
  ·exact absurd hk ((scan_wt h).2 y h1)
  ·have := List.mem_singleton.1 h1
   subst this
   rfl
 | succ d ih =>
  intro t l n s h
  refine ⟨(ih n s h).ends, fun x hx hk R hR b e hi hb q at_ hq => ⟨?_, ih _ _ hq⟩⟩
  have h1 := (scan_wt hq).1
  have h2 : (bA ((((R.take e).drop b).drop 2).take (((R.take e).drop b).length - 3))).size = ((((R.take e).drop b).drop 2).take (((R.take e).drop b).length - 3)).length := by simp [bA, ByteArray.size]
  rw [h2, List.length_take, List.length_drop, List.length_drop, List.length_take] at h1
  omega
end Go.Proofs.YtljgggohjigaoaaGreatDoor
