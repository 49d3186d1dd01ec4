/- . -/
import Derived.Test.YtljgggohjigaoaaGreatDoorSk35
namespace Go.Proofs.YtljgggohjigaoaaGreatDoor
set_option linter.unusedVariables false

structure Ext (e : Tk) (R : List Tk) (s s' : Ps) : Prop where
 toks : ∃ l, s.toks = l ++ [e] ∧ s'.toks = l ++ R ∧ ∀ t ∈ l, t.k ≠ 0
 over : s'.over = s.over
 f : s'.f = s.f
def Dd (s : Ps) : Prop := (next s).k = 0 ∧ (next s).x = ⟨#[]⟩
section
variable {e : Tk} {R : List Tk} {α β : Type} {s s' : Ps} {w : ByteArray}
theorem drop_app (l X : List Tk) (h : l.dropWhile isLine ≠ []) : (l ++ X).dropWhile isLine = l.dropWhile isLine ++ X := by
 induction l with
 | nil => exact absurd rfl h
 | cons t r ih =>
  rw [List.cons_append, List.dropWhile_cons, List.dropWhile_cons]
  rw [List.dropWhile_cons] at h
  split
  ·rename_i hl
   rw [if_pos hl] at h
   exact ih h
  ·rfl
theorem drop_all (l : List Tk) (e : Tk) (he : e.k = 0) (h : l.dropWhile isLine = []) : (l ++ [e]).dropWhile isLine = [e] := by
 induction l with
 | nil =>
  rw [List.nil_append, List.dropWhile_cons, if_neg (by simp [isLine, he])]
 | cons t r ih =>
  rw [List.cons_append, List.dropWhile_cons]
  rw [List.dropWhile_cons] at h
  split
  ·rename_i hl
   rw [if_pos hl] at h
   exact ih h
  ·rename_i hl
   rw [if_neg hl] at h
   cases h
theorem Ext.live (h : Ext e R s s') (he : e.k = 0 ∧ e.x = ⟨#[]⟩) (hd : ¬ Dd s) : ∃ t r, peekL s.over s.toks = (t :: r) ++ [e] ∧ peekL s'.over s'.toks = (t :: r) ++ R ∧ ∀ x ∈ t :: r, x.k ≠ 0 := by
 obtain ⟨l, h1, h2, h3⟩ := h.toks
 rw [h.over, h1, h2]
 unfold Dd next headT at hd
 rw [h1] at hd
 unfold peekL at hd ⊢
 cases ho : s.over with
 | false =>
  rw [ho] at hd
  simp only [Bool.false_eq_true, if_false] at hd ⊢
  cases l with
  | nil => exact absurd he hd
  | cons t r => exact ⟨t, r, rfl, rfl, h3⟩
 | true =>
  rw [ho] at hd
  simp only [if_true] at hd ⊢
  by_cases hl : l.dropWhile isLine = []
  ·rw [drop_all l e he.1 hl] at hd
   exact absurd he hd
  ·rw [drop_app l [e] hl, drop_app l R hl]
   cases hq : l.dropWhile isLine with
   | nil => exact absurd hq hl
   | cons t r => exact ⟨t, r, rfl, rfl, fun x hx => h3 x ((List.dropWhile_suffix isLine).subset (by rw [hq]; exact hx))⟩
theorem Ext.next (h : Ext e R s s') (he : e.k = 0 ∧ e.x = ⟨#[]⟩) (hd : ¬ Dd s) : next s' = next s := by
 obtain ⟨t, r, h1, h2, -⟩ := h.live he hd
 unfold Go.Proofs.YtljgggohjigaoaaGreatDoor.next headT
 rw [h1, h2]
 rfl
theorem Ext.peek (h : Ext e R s s') (he : e.k = 0 ∧ e.x = ⟨#[]⟩) (hd : ¬ Dd s) : Ext e R (peekS s) (peekS s') := by
 obtain ⟨t, r, h1, h2, h3⟩ := h.live he hd
 exact ⟨⟨t :: r, h1, h2, h3⟩, h.over, h.f⟩
theorem Ext.take (h : Ext e R s s') (he : e.k = 0 ∧ e.x = ⟨#[]⟩) (hd : ¬ Dd s) : Ext e R (takeS s) (takeS s') := by
 obtain ⟨t, r, h1, h2, h3⟩ := h.live he hd
 refine ⟨⟨r, ?_, ?_, fun x hx => h3 x (List.mem_cons_of_mem _ hx)⟩, h.over, h.f⟩
 ·unfold takeS; simp only; rw [h1]; rfl
 ·unfold takeS; simp only; rw [h2]; rfl
theorem Dd.peek : Dd (peekS s) ↔ Dd s := by unfold Dd; rw [next_peek]
theorem Dd.isW (h : Dd s) (hw : w ≠ ⟨#[]⟩) : isW w (Go.Proofs.YtljgggohjigaoaaGreatDoor.next s) = false := by
 unfold Go.Proofs.YtljgggohjigaoaaGreatDoor.isW
 rw [h.2]
 simp [Ne.symm hw]
theorem Dd.f {f : Fi} (h : Dd s) : Dd { s with f := f } := h
def X0 (e : Tk) (R : List Tk) (M : PM α) : Prop := ∀ s s' a t, Ext e R s s' → M s = .ok (a, t) → ∃ t', M s' = .ok (a, t') ∧ Ext e R t t'
def X1 (e : Tk) (R : List Tk) (M : PM α) : Prop := ∀ s s' a t, Ext e R s s' → M s = .ok (a, t) → ¬ Dd t → ∃ t', M s' = .ok (a, t') ∧ Ext e R t t'
def DP (M : PM α) : Prop := ∀ s a t, Dd s → M s = .ok (a, t) → Dd t
def FP (M : PM α) : Prop := ∀ s a t, Dd s → M s ≠ .ok (a, t)
theorem X0.x1 {M : PM α} (h : X0 e R M) : X1 e R M := fun s s' a t hx hr _ => h s s' a t hx hr
theorem FP.dp {M : PM α} (h : FP M) : DP M := fun s a t hd hr => absurd hr (h s a t hd)
theorem X1.bind {m : PM β} {k : β → PM α} (hm : X1 e R m) (hd : ∀ b, DP (k b)) (hk : ∀ b, X1 e R (k b)) : X1 e R (bindP m k) := fun s s' a t hx hr hl => by
 unfold bindP at hr ⊢
 cases hq : m s with
 | error x => rw [hq] at hr; cases hr
 | ok y =>
  obtain ⟨b, s1⟩ := y
  rw [hq] at hr
  obtain ⟨s1', h1, h2⟩ := hm s s' b s1 hx hq (fun hD => hl (hd b s1 a t hD hr))
  rw [h1]
  exact hk b s1 s1' a t h2 hr hl
theorem X0.bind1 {m : PM β} {k : β → PM α} (hm : X0 e R m) (hk : ∀ b, X1 e R (k b)) : X1 e R (bindP m k) := fun s s' a t hx hr hl => by
 unfold bindP at hr ⊢
 cases hq : m s with
 | error x => rw [hq] at hr; cases hr
 | ok y =>
  obtain ⟨b, s1⟩ := y
  rw [hq] at hr
  obtain ⟨s1', h1, h2⟩ := hm s s' b s1 hx hq
  rw [h1]
  exact hk b s1 s1' a t h2 hr hl
theorem X0.bind {m : PM β} {k : β → PM α} (hm : X0 e R m) (hk : ∀ b, X0 e R (k b)) : X0 e R (bindP m k) := fun s s' a t hx hr => by
 unfold bindP at hr ⊢
 cases hq : m s with
 | error x => rw [hq] at hr; cases hr
 | ok y =>
  obtain ⟨b, s1⟩ := y
  rw [hq] at hr
  obtain ⟨s1', h1, h2⟩ := hm s s' b s1 hx hq
  rw [h1]
  exact hk b s1 s1' a t h2 hr
theorem X1.bind0 {m : PM β} {k : β → PM α} (hm : X1 e R m) (hf : ∀ b, FP (k b)) (hk : ∀ b, X0 e R (k b)) : X0 e R (bindP m k) := fun s s' a t hx hr => by
 unfold bindP at hr ⊢
 cases hq : m s with
 | error x => rw [hq] at hr; cases hr
 | ok y =>
  obtain ⟨b, s1⟩ := y
  rw [hq] at hr
  obtain ⟨s1', h1, h2⟩ := hm s s' b s1 hx hq (fun hD => hf b s1 a t hD hr)
  rw [h1]
  exact hk b s1 s1' a t h2 hr
theorem DP.bind {m : PM β} {k : β → PM α} (hm : DP m) (hk : ∀ b, DP (k b)) : DP (bindP m k) := fun s a t hd hr => by
 unfold bindP at hr
 cases hq : m s with
 | error x => rw [hq] at hr; cases hr
 | ok y =>
  obtain ⟨b, s1⟩ := y
  rw [hq] at hr
  exact hk b s1 a t (hm s b s1 hd hq) hr
theorem FP.bind {m : PM β} {k : β → PM α} (hm : FP m) : FP (bindP m k) := fun s a t hd hr => by
 unfold bindP at hr
 cases hq : m s with
 | error x => rw [hq] at hr; cases hr
 | ok y => exact hm s y.1 y.2 hd hq
theorem X0.pure {a : α} : X0 e R (fun s => .ok (a, s)) := fun s s' b t hx hr => by
 cases hr
 exact ⟨s', rfl, hx⟩
theorem DP.pure {a : α} : DP (fun s => .ok (a, s)) := fun s b t hd hr => by
 cases hr
 exact hd
theorem FP.want (hw : w ≠ ⟨#[]⟩) : FP (wantM w) := fun s a t hd hr => by
 unfold wantM at hr
 rw [hd.isW hw] at hr
 cases hr
theorem X0.want (he : e.k = 0 ∧ e.x = ⟨#[]⟩) (hw : w ≠ ⟨#[]⟩) : X0 e R (wantM w) := fun s s' a t hx hr => by
 have hd : ¬ Dd s := fun hd => FP.want hw s a t hd hr
 unfold wantM at hr ⊢
 rw [hx.next he hd]
 split at hr
 ·rename_i hi
  rw [if_pos hi]
  cases hr
  exact ⟨_, rfl, hx.take he hd⟩
 ·cases hr
theorem FP.kind {k : Int} (hk : k ≠ 0) : FP (kindM k) := fun s a t hd hr => by
 unfold kindM at hr
 rw [if_neg (by rw [hd.1]; exact Ne.symm hk)] at hr
 cases hr
theorem X0.kind {k : Int} (he : e.k = 0 ∧ e.x = ⟨#[]⟩) (hk : k ≠ 0) : X0 e R (kindM k) := fun s s' a t hx hr => by
 have hd : ¬ Dd s := fun hd => FP.kind hk s a t hd hr
 unfold kindM at hr ⊢
 rw [hx.next he hd]
 split at hr
 ·rename_i hi
  rw [if_pos hi]
  cases hr
  exact ⟨_, rfl, hx.take he hd⟩
 ·cases hr
theorem DP.skip (hw : w ≠ ⟨#[]⟩) : DP (skipM w) := fun s a t hd hr => by
 unfold skipM at hr
 rw [hd.isW hw] at hr
 cases hr
 exact Dd.peek.2 hd
theorem X1.skip (he : e.k = 0 ∧ e.x = ⟨#[]⟩) (hw : w ≠ ⟨#[]⟩) : X1 e R (skipM w) := fun s s' a t hx hr hl => by
 have hd : ¬ Dd s := fun hd => hl (DP.skip hw s a t hd hr)
 unfold skipM at hr ⊢
 rw [hx.next he hd]
 split at hr
 ·rename_i hi
  rw [if_pos hi]
  cases hr
  exact ⟨_, rfl, hx.take he hd⟩
 ·rename_i hi
  rw [if_neg hi]
  cases hr
  exact ⟨_, rfl, hx.peek he hd⟩
theorem X0.add {x : Ex} : X0 e R (addM x) := fun s s' a t hx hr => by
 unfold addM at hr ⊢
 cases hr
 rw [hx.f]
 exact ⟨_, rfl, hx.toks, hx.over, rfl⟩
theorem DP.add {x : Ex} : DP (addM x) := fun s a t hd hr => by
 unfold addM at hr
 cases hr
 exact hd
end
end Go.Proofs.YtljgggohjigaoaaGreatDoor
namespace Go.Proofs.YtljgggohjigaoaaGreatDoor
set_option linter.unusedVariables false

section
variable {e : Tk} {R : List Tk} {α β : Type} {s s' : Ps} {w : ByteArray} {nx : Sub}
theorem lines_dead (hd : Dd s) : (linesL s.over s.toks).2 = peekL s.over s.toks := by
 unfold linesL
 simp only
 have h1 : isLine (headT (peekL s.over s.toks)) = false := by
  unfold isLine
  have : (headT (peekL s.over s.toks)).k = 0 := hd.1
  rw [this]
  rfl
 rw [h1]
 rfl
theorem DP.lines : DP linesM := fun s a t hd hr => by
 unfold linesM at hr
 cases hr
 rw [lines_dead hd]
 exact Dd.peek.2 hd
theorem X1.lines (he : e.k = 0 ∧ e.x = ⟨#[]⟩) : X1 e R linesM := fun s s' a t hx hr hl => by
 have hd : ¬ Dd s := fun hd => hl (DP.lines s a t hd hr)
 obtain ⟨t0, r, h1, h2, h3⟩ := hx.live he hd
 unfold linesM linesL at hr ⊢
 simp only [h1] at hr
 simp only [h2]
 have hh1 : headT ((t0 :: r) ++ [e]) = t0 := rfl
 have hh2 : headT ((t0 :: r) ++ R) = t0 := rfl
 rw [hh1] at hr
 rw [hh2]
 have he1 : ((t0 :: r) ++ [e]).isEmpty = false := rfl
 have he2 : ((t0 :: r) ++ R).isEmpty = false := rfl
 rw [he1] at hr
 rw [he2]
 by_cases hc : (isLine t0 && !false) = true
 ·rw [if_pos hc] at hr ⊢
  cases hr
  by_cases hq : (t0 :: r).dropWhile isLine = []
  ·rw [drop_all _ e he.1 hq] at hl
   refine absurd ?_ hl
   unfold Dd Go.Proofs.YtljgggohjigaoaaGreatDoor.next headT peekL
   simp only
   split
   ·rw [List.dropWhile_cons, if_neg (by simp [isLine, he.1])]; exact he
   ·exact he
  ·refine ⟨_, rfl, ⟨(t0 :: r).dropWhile isLine, drop_app _ _ hq, drop_app _ _ hq, fun x hx => h3 x ((List.dropWhile_suffix isLine).subset hx)⟩, hx.over, hx.f⟩
 ·rw [if_neg hc] at hr ⊢
  cases hr
  exact ⟨_, rfl, ⟨t0 :: r, rfl, rfl, h3⟩, hx.over, hx.f⟩
theorem plain_ext (he : e.k = 0 ∧ e.x = ⟨#[]⟩) (hx : Ext e R s s') (hk : (next s).k = 3) {a : ByteArray} {t : Ps} (hr : plainM s = .ok (a, t)) : ∃ t', plainM s' = .ok (a, t') ∧ Ext e R t t' := by
 have hd : ¬ Dd s := fun hd => by rw [hd.1] at hk; cases hk
 unfold plainM at hr ⊢
 rw [hx.next he hd]
 simp only at hr ⊢
 cases hi : insL (next s).x.data.toList with
 | none => rw [hi] at hr; cases hr
 | some be =>
  obtain ⟨b, q⟩ := be
  rw [hi] at hr
  simp only at hr ⊢
  by_cases hb : b < (next s).x.data.toList.length
  ·rw [if_pos hb] at hr; cases hr
  ·rw [if_neg hb] at hr ⊢
   cases hs : saidL (next s).x.data.toList with
   | none => rw [hs] at hr; cases hr
   | some y =>
    rw [hs] at hr
    cases hr
    exact ⟨_, rfl, hx.take he hd⟩
theorem FP.between {b q : ByteArray} {over : Bool} {f : PM Nat × PM Nat → PM α} (hb : b ≠ ⟨#[]⟩) : FP (betweenM b q over nx f) := FP.bind (FP.want hb)
theorem X0.between (he : e.k = 0 ∧ e.x = ⟨#[]⟩) {b q : ByteArray} {over : Bool} {f : PM Nat × PM Nat → PM α} (hb : b ≠ ⟨#[]⟩) (hq : q ≠ ⟨#[]⟩) (h : ∀ z, nx = some z → X1 e R (f z)) : X0 e R (betweenM b q over nx f) := by
 unfold betweenM
 refine X0.bind (X0.want he hb) fun tk s s' a t hx hr => ?_
 unfold deeperM at hr ⊢
 cases nx with
 | none => cases hr
 | some z =>
  simp only at hr ⊢
  cases hz : f z { s with over := over } with
  | error x => rw [hz] at hr; cases hr
  | ok y =>
   obtain ⟨x, s2⟩ := y
   rw [hz] at hr
   simp only at hr
   cases hw : wantM q s2 with
   | error x => rw [hw] at hr; cases hr
   | ok v =>
    obtain ⟨t3, s3⟩ := v
    rw [hw] at hr
    cases hr
    obtain ⟨s2', h1, h2⟩ := h z rfl { s with over := over } { s' with over := over } x s2 ⟨hx.toks, rfl, hx.f⟩ hz (fun hD => FP.want hq s2 t3 s3 hD hw)
    obtain ⟨s3', h3, h4⟩ := X0.want he hq s2 s2' t3 s3 h2 hw
    rw [h1]
    simp only
    rw [h3]
    exact ⟨_, rfl, h4.toks, hx.over, h4.f⟩
def FO (M : PM α) : Prop := ∀ s s' a t, s'.f = s.f → M s = .ok (a, t) → t.toks = s.toks ∧ t.over = s.over ∧ M s' = .ok (a, { s' with f := t.f })
theorem FO.x0 {M : PM α} (h : FO M) : X0 e R M := fun s s' a t hx hr => by
 obtain ⟨h1, h2, h3⟩ := h s s' a t hx.f hr
 exact ⟨_, h3, by rw [h1]; exact hx.toks, by rw [h2]; exact hx.over, rfl⟩
theorem FO.dp {M : PM α} (h : FO M) : DP M := fun s a t hd hr => by
 obtain ⟨h1, h2, -⟩ := h s s a t rfl hr
 unfold Dd Go.Proofs.YtljgggohjigaoaaGreatDoor.next at hd ⊢
 rw [h1, h2]
 exact hd
theorem FO.bind {m : PM β} {k : β → PM α} (hm : FO m) (hk : ∀ b, FO (k b)) : FO (bindP m k) := fun s s' a t hf hr => by
 unfold bindP at hr ⊢
 cases hq : m s with
 | error x => rw [hq] at hr; cases hr
 | ok y =>
  obtain ⟨b, s1⟩ := y
  rw [hq] at hr
  obtain ⟨h1, h2, h3⟩ := hm s s' b s1 hf hq
  obtain ⟨h4, h5, h6⟩ := hk b s1 { s' with f := s1.f } a t rfl hr
  rw [h3]
  exact ⟨h4.trans h1, h5.trans h2, h6⟩
theorem FO.pure {a : α} : FO (fun s => .ok (a, s)) := fun s s' b t hf hr => by
 cases hr
 exact ⟨rfl, rfl, by rw [← hf]⟩
theorem FO.add {x : Ex} : FO (addM x) := fun s s' a t hf hr => by
 unfold addM at hr ⊢
 cases hr
 rw [hf]
 exact ⟨rfl, rfl, rfl⟩
theorem inserted_fo {Q : List UInt8} {a : Nat} : FO (insertedM nx Q a) := fun s s' b t hf hr => by
 unfold insertedM deeperM at hr ⊢
 cases nx with
 | none => cases hr
 | some q =>
  simp only at hr ⊢
  cases hsc : scanL (bA ((Q.drop 2).take (Q.length - 3))) with
  | error x => rw [hsc] at hr; cases hr
  | ok l =>
   rw [hsc] at hr
   simp only at hr ⊢
   rw [hf]
   cases hm : bindP q.1 (fun i => bindP (kindM 0) fun _ s' => .ok (i, s')) (⟨(l ++ [endT (bA ((Q.drop 2).take (Q.length - 3))).size]).map (shiftT (a + 2)), false, s.f⟩ : Ps) with
   | error x => rw [hm] at hr; cases hr
   | ok y =>
    obtain ⟨i, s2⟩ := y
    rw [hm] at hr
    cases hr
    exact ⟨rfl, rfl, rfl⟩
theorem parts_fo : ∀ (n : Nat) (Q : List UInt8) (a : Nat) (args : List Nat) (keys : List ByteArray), FO (partsM nx n Q a args keys) := by
 intro n
 induction n with
 | zero => intro Q a args keys s s' b t hf hr; cases hr
 | succ n ih =>
  intro Q a args keys s s' y t hf hr
  unfold partsM at hr ⊢
  by_cases hR : Q = []
  ·rw [if_pos hR] at hr ⊢
   cases hr
   exact ⟨rfl, rfl, by rw [← hf]⟩
  ·rw [if_neg hR] at hr ⊢
   cases hi : insL Q with
   | none => rw [hi] at hr; cases hr
   | some be =>
    obtain ⟨b, q⟩ := be
    rw [hi] at hr
    simp only at hr ⊢
    have hA : FO (fun s => (if 0 < b then match saidL (Q.take b) with
      | none => noneE
      | some t => bindP (addM ⟨5, bA t, [], [], a⟩) (fun i s' => .ok ((args ++ [i], keys ++ [bA [116]]), s')) s
     else .ok ((args, keys), s) : PR (List Nat × List ByteArray))) := by
     by_cases hb : 0 < b
     ·simp only [if_pos hb]
      cases saidL (Q.take b) with
      | none => intro s s' b t hf hr; cases hr
      | some t => exact FO.bind FO.add fun i => FO.pure
     ·simp only [if_neg hb]
      exact FO.pure
    split at hr
    ·cases hr
    ·rename_i args1 keys1 s1 h1
     obtain ⟨k1, k2, k3⟩ := hA s s' _ s1 hf h1
     have hA2 : FO (fun s => (if b < q then bindP (insertedM nx ((Q.take q).drop b) (a + b)) (fun i s' => .ok ((args1 ++ [i], keys1 ++ [bA [101]]), s')) s else .ok ((args1, keys1), s) : PR (List Nat × List ByteArray))) := by
      by_cases hb : b < q
      ·simp only [if_pos hb]
       exact FO.bind inserted_fo fun i => FO.pure
      ·simp only [if_neg hb]
       exact FO.pure
     simp only at k3
     erw [k3]
     simp only
     split at hr
     ·cases hr
     ·rename_i args2 keys2 s2 h2
      obtain ⟨j1, j2, j3⟩ := hA2 s1 { s' with f := s1.f } _ s2 rfl h2
      simp only at j3
      erw [j3]
      simp only
      obtain ⟨i1, i2, i3⟩ := ih (Q.drop q) (a + q) args2 keys2 s2 { s' with f := s2.f } y t rfl hr
      exact ⟨i1.trans (j1.trans k1), i2.trans (j2.trans k2), i3⟩
theorem text_ext (he : e.k = 0 ∧ e.x = ⟨#[]⟩) (hx : Ext e R s s') (hk : (next s).k = 3) {i : Nat} {t : Ps} (hr : textM nx s = .ok (i, t)) : ∃ t', textM nx s' = .ok (i, t') ∧ Ext e R t t' := by
 have hd : ¬ Dd s := fun hd => by rw [hd.1] at hk; cases hk
 unfold textM at hr ⊢
 rw [hx.next he hd]
 simp only at hr ⊢
 cases hi : insL (next s).x.data.toList with
 | none => rw [hi] at hr; cases hr
 | some be =>
  obtain ⟨b, q⟩ := be
  rw [hi] at hr
  simp only at hr ⊢
  by_cases hb : b = (next s).x.data.toList.length
  ·rw [if_pos hb] at hr ⊢
   cases hs : saidL (next s).x.data.toList with
   | none => rw [hs] at hr; cases hr
   | some y =>
    rw [hs] at hr
    exact X0.add _ _ _ _ (hx.take he hd) hr
  ·rw [if_neg hb] at hr ⊢
   exact (FO.bind (parts_fo _ _ _ _ _) fun r => FO.add).x0 _ _ _ _ (hx.take he hd) hr
end
end Go.Proofs.YtljgggohjigaoaaGreatDoor
namespace Go.Proofs.YtljgggohjigaoaaGreatDoor
set_option linter.unusedVariables false

section
variable {e : Tk} {R : List Tk} {α β : Type} {s s' : Ps} {w : ByteArray} {nx : Sub}
theorem Ext.len (h : Ext e R s s') (hR : 1 ≤ R.length) : s.toks.length ≤ s'.toks.length := by
 obtain ⟨l, h1, h2, -⟩ := h.toks
 rw [h1, h2]
 simp
 exact hR
theorem FP.bind2 {m : PM β} {k : β → PM α} (hm : DP m) (hk : ∀ b, FP (k b)) : FP (bindP m k) := fun s a t hd hr => by
 unfold bindP at hr
 cases hq : m s with
 | error x => rw [hq] at hr; cases hr
 | ok y =>
  obtain ⟨b, s1⟩ := y
  rw [hq] at hr
  exact hk b s1 a t (hm s b s1 hd hq) hr
def SubX (e : Tk) (R : List Tk) (nx : Sub) : Prop := ∀ q, nx = some q → (X1 e R q.1 ∧ FP q.1) ∧ (X1 e R q.2 ∧ FP q.2)
theorem args_fp {en : ByteArray} {ex : PM Nat} (hen : en ≠ ⟨#[]⟩) (hx : FP ex) : ∀ (n : Nat) (args : List Nat), FP (argsM en ex n args)
 | 0, args => fun s a t hd hr => by cases hr
 | n + 1, args => fun s a t hd hr => by
  unfold argsM at hr
  rw [hd.isW hen] at hr
  exact FP.bind hx _ a t (Dd.peek.2 hd) hr
theorem args_ext (he : e.k = 0 ∧ e.x = ⟨#[]⟩) {en : ByteArray} {ex : PM Nat} (hen : en ≠ ⟨#[]⟩) (hx : X1 e R ex) (hf : FP ex) : ∀ (n n' : Nat) (args : List Nat), n ≤ n' → ∀ s s' a t, Ext e R s s' → argsM en ex n args s = .ok (a, t) → ¬ Dd t → ∃ t', argsM en ex n' args s' = .ok (a, t') ∧ Ext e R t t' := by
 intro n
 induction n with
 | zero => intro n' args _ s s' a t _ hr; cases hr
 | succ n ih =>
  intro n' args hn s s' a t hE hr hl
  obtain ⟨n', rfl⟩ : ∃ k, n' = k + 1 := ⟨n' - 1, by omega⟩
  have hd : ¬ Dd s := fun hd => args_fp hen hf (n + 1) args s a t hd hr
  unfold argsM at hr ⊢
  rw [hE.next he hd]
  by_cases h1 : isW en (next s) = true
  ·rw [if_pos h1] at hr ⊢
   cases hr
   exact ⟨_, rfl, hE.peek he hd⟩
  ·rw [if_neg h1] at hr ⊢
   unfold bindP at hr ⊢
   cases hq : ex (peekS s) with
   | error x => rw [hq] at hr; cases hr
   | ok y =>
    obtain ⟨i, s1⟩ := y
    rw [hq] at hr
    simp only at hr
    cases hk : skipM (wb [44]) s1 with
    | error x => rw [hk] at hr; cases hr
    | ok z =>
     obtain ⟨c, s2⟩ := z
     rw [hk] at hr
     simp only at hr
     have hd2 : ¬ Dd s2 := fun hd2 => by
      cases c with
      | true => exact args_fp hen hf n _ s2 a t hd2 hr
      | false => cases hr; exact hl hd2
     obtain ⟨s1', h3, h4⟩ := hx _ _ i s1 (hE.peek he hd) hq (fun hD => hd2 (DP.skip (by decide) s1 c s2 hD hk))
     obtain ⟨s2', h5, h6⟩ := X1.skip he (by decide) s1 s1' c s2 h4 hk hd2
     rw [h3]
     simp only
     rw [h5]
     simp only
     cases c with
     | true => exact ih n' _ (by omega) s2 s2' a t h6 hr hl
     | false =>
      cases hr
      exact ⟨_, rfl, h6⟩
theorem key_fp {ahead : List ByteArray} : FP (keyM ahead) := fun s a t hd hr => by
 unfold keyM at hr
 rw [if_neg (by rw [hd.1]; decide)] at hr
 split at hr
 ·cases hr
 ·rename_i k s1 h1
  exact FP.bind (FP.kind (by decide)) _ _ _ (Dd.peek.2 hd) h1
theorem key_ext (he : e.k = 0 ∧ e.x = ⟨#[]⟩) {ahead : List ByteArray} : X0 e R (keyM ahead) := fun s s' a t hE hr => by
 have hd : ¬ Dd s := fun hd => key_fp s a t hd hr
 unfold keyM at hr ⊢
 rw [hE.next he hd]
 have hA : ∀ k s1, (if (next s).k = 3 then plainM (peekS s) else bindP (kindM 1) (fun t s' => .ok (t.x, s')) (peekS s) : PR ByteArray) = .ok (k, s1) → ∃ s1', (if (next s).k = 3 then plainM (peekS s') else bindP (kindM 1) (fun t s' => .ok (t.x, s')) (peekS s') : PR ByteArray) = .ok (k, s1') ∧ Ext e R s1 s1' := by
  intro k s1 h1
  by_cases hk : (next s).k = 3
  ·rw [if_pos hk] at h1 ⊢
   exact plain_ext he (hE.peek he hd) (by rw [next_peek]; exact hk) h1
  ·rw [if_neg hk] at h1 ⊢
   exact (X0.bind (X0.kind he (by decide)) fun t => X0.pure) _ _ _ _ (hE.peek he hd) h1
 split at hr
 ·cases hr
 ·rename_i k s1 h1
  obtain ⟨s1', h2, h3⟩ := hA _ _ h1
  rw [h2]
  simp only
  split at hr
  ·cases hr
  ·rename_i hk
   rw [if_neg hk]
   cases hr
   exact ⟨_, rfl, h3⟩
theorem obj_fp {ex : PM Nat} : ∀ (n : Nat) (keys : List ByteArray) (args : List Nat), FP (objM ex n keys args)
 | 0, keys, args => fun s a t hd hr => by cases hr
 | n + 1, keys, args => fun s a t hd hr => by
  unfold objM at hr
  rw [hd.isW (by decide)] at hr
  exact FP.bind key_fp _ a t (Dd.peek.2 hd) hr
theorem obj_ext (he : e.k = 0 ∧ e.x = ⟨#[]⟩) {ex : PM Nat} (hx : X1 e R ex) (hf : FP ex) : ∀ (n n' : Nat) (keys : List ByteArray) (args : List Nat), n ≤ n' → ∀ s s' a t, Ext e R s s' → objM ex n keys args s = .ok (a, t) → ¬ Dd t → ∃ t', objM ex n' keys args s' = .ok (a, t') ∧ Ext e R t t' := by
 intro n
 induction n with
 | zero => intro n' keys args _ s s' a t _ hr; cases hr
 | succ n ih =>
  intro n' keys args hn s s' a t hE hr hl
  obtain ⟨n', rfl⟩ : ∃ k, n' = k + 1 := ⟨n' - 1, by omega⟩
  have hd : ¬ Dd s := fun hd => obj_fp (n + 1) keys args s a t hd hr
  unfold objM at hr ⊢
  rw [hE.next he hd]
  by_cases h1 : isW (wb [125]) (next s) = true
  ·rw [if_pos h1] at hr ⊢
   cases hr
   exact ⟨_, rfl, hE.peek he hd⟩
  ·rw [if_neg h1] at hr ⊢
   refine (?_ : ∃ t', bindP (keyM keys) (fun k => bindP (wantM (wb [61])) fun _ => bindP ex fun i => bindP (skipM (wb [44])) fun c => bindP linesM fun l s' => if !l && !c then .ok ((keys ++ [k], args ++ [i]), s') else objM ex n' (keys ++ [k]) (args ++ [i]) s') (peekS s') = .ok (a, t') ∧ Ext e R t t')
   unfold bindP at hr ⊢
   cases hq1 : keyM keys (peekS s) with
   | error x => rw [hq1] at hr; cases hr
   | ok y1 =>
    obtain ⟨k, s1⟩ := y1
    rw [hq1] at hr
    simp only at hr
    cases hq2 : wantM (wb [61]) s1 with
    | error x => rw [hq2] at hr; cases hr
    | ok y2 =>
     obtain ⟨t2, s2⟩ := y2
     rw [hq2] at hr
     simp only at hr
     cases hq3 : ex s2 with
     | error x => rw [hq3] at hr; cases hr
     | ok y3 =>
      obtain ⟨i, s3⟩ := y3
      rw [hq3] at hr
      simp only at hr
      cases hq4 : skipM (wb [44]) s3 with
      | error x => rw [hq4] at hr; cases hr
      | ok y4 =>
       obtain ⟨c, s4⟩ := y4
       rw [hq4] at hr
       simp only at hr
       cases hq5 : linesM s4 with
       | error x => rw [hq5] at hr; cases hr
       | ok y5 =>
        obtain ⟨l, s5⟩ := y5
        rw [hq5] at hr
        simp only at hr
        have hd5 : ¬ Dd s5 := fun hD => by
         split at hr
         ·cases hr; exact hl hD
         ·exact obj_fp n _ _ s5 a t hD hr
        have hd4 : ¬ Dd s4 := fun hD => hd5 (DP.lines s4 l s5 hD hq5)
        have hd3 : ¬ Dd s3 := fun hD => hd4 (DP.skip (by decide) s3 c s4 hD hq4)
        obtain ⟨s1', k1, j1⟩ := key_ext he _ _ k s1 (hE.peek he hd) hq1
        obtain ⟨s2', k2, j2⟩ := X0.want he (by decide) s1 s1' t2 s2 j1 hq2
        obtain ⟨s3', k3, j3⟩ := hx s2 s2' i s3 j2 hq3 hd3
        obtain ⟨s4', k4, j4⟩ := X1.skip he (by decide) s3 s3' c s4 j3 hq4 hd4
        obtain ⟨s5', k5, j5⟩ := X1.lines he s4 s4' l s5 j4 hq5 hd5
        rw [k1]
        simp only
        rw [k2]
        simp only
        rw [k3]
        simp only
        rw [k4]
        simp only
        rw [k5]
        simp only
        by_cases hc : (!l && !c) = true
        ·rw [if_pos hc] at hr ⊢
         cases hr
         exact ⟨_, rfl, j5⟩
        ·rw [if_neg hc] at hr ⊢
         exact ih n' _ _ (by omega) s5 s5' a t j5 hr hl
theorem list_ext (he : e.k = 0 ∧ e.x = ⟨#[]⟩) (hR : 1 ≤ R.length) (hx : SubX e R nx) : X0 e R (listM nx) := by
 unfold listM
 refine X0.bind (X0.between he (by decide) (by decide) fun q hq => ?_) fun r => X0.add
 obtain ⟨⟨h1, h2⟩, -⟩ := hx q hq
 have hFP : ∀ fr : Bool, FP (if fr then bindP (kindM 1) fun t => bindP (wantM (wb [105, 110])) fun _ => bindP q.1 fun i => bindP (wantM (wb [58])) fun _ => bindP q.1 fun j s => .ok (((29 : Int), t.x, [i, j]), s)
   else fun s => bindP (argsM (wb [93]) q.1 (s.toks.length + 1) []) (fun l s' => .ok (((7 : Int), (⟨#[]⟩ : ByteArray), l), s')) s) := fun fr => by
  cases fr with
  | true => exact FP.bind (FP.kind (by decide))
  | false => exact fun s a t hd hr => FP.bind (args_fp (by decide) h2 _ _) s a t hd hr
 refine X1.bind (X1.skip he (by decide)) (fun fr => (hFP fr).dp) fun fr => ?_
 cases fr with
 | true => exact X0.bind1 (X0.kind he (by decide)) fun t => X0.bind1 (X0.want he (by decide)) fun _ => X1.bind h1 (fun i => (FP.bind (FP.want (by decide))).dp) fun i => X0.bind1 (X0.want he (by decide)) fun _ => X1.bind h1 (fun j => DP.pure) fun j => X0.pure.x1
 | false =>
  intro s s' a t hE hr hl
  have hr2 : bindP (argsM (wb [93]) q.1 (s.toks.length + 1) []) (fun l s' => .ok (((7 : Int), (⟨#[]⟩ : ByteArray), l), s')) s = .ok (a, t) := hr
  show ∃ t', bindP (argsM (wb [93]) q.1 (s'.toks.length + 1) []) (fun l s' => .ok (((7 : Int), (⟨#[]⟩ : ByteArray), l), s')) s' = .ok (a, t') ∧ Ext e R t t'
  unfold bindP at hr2 ⊢
  cases hq1 : argsM (wb [93]) q.1 (s.toks.length + 1) [] s with
  | error x => rw [hq1] at hr2; cases hr2
  | ok y =>
   obtain ⟨l, s1⟩ := y
   rw [hq1] at hr2
   cases hr2
   obtain ⟨s1', k1, j1⟩ := args_ext he (by decide) h1 h2 _ (s'.toks.length + 1) [] (by have := hE.len hR; omega) s s' l t hE hq1 hl
   rw [k1]
   exact ⟨_, rfl, j1⟩
theorem object_ext (he : e.k = 0 ∧ e.x = ⟨#[]⟩) (hR : 1 ≤ R.length) (hx : SubX e R nx) : X0 e R (objectM nx) := by
 unfold objectM
 refine X0.bind (X0.between he (by decide) (by decide) fun q hq => ?_) fun r => X0.add
 obtain ⟨⟨h1, h2⟩, -⟩ := hx q hq
 refine X1.bind (X1.lines he) (fun _ => ?_) fun _ s s' a t hE hr hl => ?_
 ·exact fun s a t hd hr => absurd hr (obj_fp _ _ _ s a t hd)
 ·exact obj_ext he h1 h2 _ _ [] [] (by have := hE.len hR; omega) s s' a t hE hr hl
end
end Go.Proofs.YtljgggohjigaoaaGreatDoor
