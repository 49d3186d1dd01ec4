/- . -/
import Derived.Test.YtljgggohjigaoaaGreatDoorSk30
import Derived.Test.YtljgggohjigaoaaGreatDoorSk34
namespace Go.Proofs.YtljgggohjigaoaaGreatDoor
set_option linter.unusedVariables false

section
variable (p : Nat) (f0 : Fi)
def shE (e : Ex) : Ex := ⟨e.k, e.x, e.args.map (· + f0.exprs.length), e.keys, e.at_ + p⟩
def shA (a : AtS) : AtS := ⟨a.n, a.e + f0.exprs.length, a.at_ + p⟩
def shB (b : Bl) : Bl := ⟨b.t, b.labels, b.attrs.map (shA p f0), b.blocks.map (· + f0.blocks.length), b.at_ + p⟩
def shF (f : Fi) : Fi := ⟨f0.exprs ++ f.exprs.map (shE p f0), f0.blocks ++ f.blocks.map (shB p f0), f0.top ++ f.top.map (· + f0.blocks.length)⟩
def shS (s : Ps) : Ps := ⟨s.toks.map (shiftT p), s.over, shF p f0 s.f⟩
def Shf {α : Type} (o : α → α) (M M' : PM α) : Prop := ∀ s a t, M s = .ok (a, t) → M' (shS p f0 s) = .ok (o a, shS p f0 t)
end
section
variable {p : Nat} {f0 : Fi} {α β : Type} {s : Ps} {w : ByteArray}
theorem Shf.bind {m m' : PM β} {k k' : β → PM α} {o1 : β → β} {o : α → α} (hm : Shf p f0 o1 m m') (hk : ∀ b, Shf p f0 o (k b) (k' (o1 b))) : Shf p f0 o (bindP m k) (bindP m' k') := fun s a t h => by
 unfold bindP at h ⊢
 cases hq : m s with
 | error x => rw [hq] at h; cases h
 | ok y =>
  obtain ⟨b, s1⟩ := y
  rw [hq] at h
  rw [hm s b s1 hq]
  exact hk b s1 a t h
theorem Shf.pure {o : α → α} {a a' : α} (h : a' = o a) : Shf p f0 o (fun s => .ok (a, s)) (fun s => .ok (a', s)) := fun s b t hr => by
 cases hr
 rw [h]
theorem sh_isLine (t : Tk) : isLine (shiftT p t) = isLine t := rfl
theorem sh_drop (l : List Tk) : (l.map (shiftT p)).dropWhile isLine = (l.dropWhile isLine).map (shiftT p) := by
 induction l with
 | nil => rfl
 | cons t r ih =>
  rw [List.map_cons, List.dropWhile_cons, List.dropWhile_cons, sh_isLine]
  split
  ·exact ih
  ·rfl
theorem sh_peekL (o : Bool) (l : List Tk) : peekL o (l.map (shiftT p)) = (peekL o l).map (shiftT p) := by
 unfold peekL
 split
 ·exact sh_drop l
 ·rfl
theorem sh_peek (s : Ps) : peekS (shS p f0 s) = shS p f0 (peekS s) := by
 unfold peekS shS
 simp only [sh_peekL]
theorem sh_take (s : Ps) : takeS (shS p f0 s) = shS p f0 (takeS s) := by
 unfold takeS shS
 simp only [sh_peekL, List.map_drop]
theorem sh_next_kx (s : Ps) : (next (shS p f0 s)).k = (next s).k ∧ (next (shS p f0 s)).x = (next s).x := by
 unfold next shS headT
 simp only [sh_peekL]
 cases peekL s.over s.toks with
 | nil => exact ⟨rfl, rfl⟩
 | cons t r => exact ⟨rfl, rfl⟩
theorem sh_next (h : (next s).k ≠ 0 ∨ (next s).x ≠ ⟨#[]⟩) : next (shS p f0 s) = shiftT p (next s) := by
 unfold next headT at h ⊢
 unfold shS
 simp only [sh_peekL] at h ⊢
 cases hp : peekL s.over s.toks with
 | nil => rw [hp] at h; rcases h with h | h <;> exact absurd rfl h
 | cons t r => rfl
theorem sh_isW (s : Ps) : isW w (next (shS p f0 s)) = isW w (next s) := by
 unfold isW
 rw [(sh_next_kx s).1, (sh_next_kx s).2]
theorem isW_x (hw : w ≠ ⟨#[]⟩) (h : isW w (next s) = true) : (next s).x ≠ ⟨#[]⟩ := fun e => by
 unfold isW at h
 simp only [Bool.and_eq_true, decide_eq_true_eq] at h
 exact hw (h.2.symm.trans e)
theorem Shf.want (hw : w ≠ ⟨#[]⟩) : Shf p f0 (shiftT p) (wantM w) (wantM w) := fun s a t h => by
 unfold wantM at h ⊢
 rw [sh_isW]
 split at h
 ·rename_i hi
  cases h
  rw [if_pos hi, sh_next (.inr (isW_x hw hi)), sh_take]
 ·cases h
theorem Shf.kind {k : Int} (hk : k ≠ 0) : Shf p f0 (shiftT p) (kindM k) (kindM k) := fun s a t h => by
 unfold kindM at h ⊢
 rw [(sh_next_kx s).1]
 split at h
 ·rename_i hi
  cases h
  rw [if_pos hi, sh_next (.inl (by rw [hi]; exact hk)), sh_take]
 ·cases h
theorem Shf.kindThen {k : Int} {K K' : PM α} {o : α → α} (hK : Shf p f0 o K K') : Shf p f0 o (bindP (kindM k) fun _ => K) (bindP (kindM k) fun _ => K') := fun s a t h => by
 unfold bindP kindM at h ⊢
 rw [(sh_next_kx s).1]
 by_cases hi : (next s).k = k
 ·rw [if_pos hi] at h ⊢
  rw [sh_take]
  exact hK _ a t h
 ·rw [if_neg hi] at h
  cases h
theorem Shf.skip : Shf p f0 id (skipM w) (skipM w) := fun s a t h => by
 unfold skipM at h ⊢
 rw [sh_isW]
 split at h
 ·rename_i hi
  cases h
  rw [if_pos hi, sh_take]; rfl
 ·rename_i hi
  cases h
  rw [if_neg hi, sh_peek]; rfl
theorem sh_linesM (m : List Tk) : (if isLine (headT (m.map (shiftT p))) && !(m.map (shiftT p)).isEmpty then (true, (m.map (shiftT p)).dropWhile isLine) else (false, m.map (shiftT p))) = ((if isLine (headT m) && !m.isEmpty then (true, m.dropWhile isLine) else (false, m)).1, (if isLine (headT m) && !m.isEmpty then (true, m.dropWhile isLine) else (false, m)).2.map (shiftT p)) := by
 have hc : (isLine (headT (m.map (shiftT p))) && !(m.map (shiftT p)).isEmpty) = (isLine (headT m) && !m.isEmpty) := by
  cases m with
  | nil => rfl
  | cons t r => rfl
 rw [sh_drop, hc]
 split <;> rfl
theorem sh_lines (o : Bool) (l : List Tk) : linesL o (l.map (shiftT p)) = ((linesL o l).1, (linesL o l).2.map (shiftT p)) := by
 have h1 : linesL o (l.map (shiftT p)) = (if isLine (headT ((peekL o l).map (shiftT p))) && !((peekL o l).map (shiftT p)).isEmpty then (true, ((peekL o l).map (shiftT p)).dropWhile isLine) else (false, (peekL o l).map (shiftT p))) := by
  rw [← sh_peekL]; rfl
 rw [h1, sh_linesM]
 rfl
theorem Shf.lines : Shf p f0 id linesM linesM := fun s a t h => by
 unfold linesM at h ⊢
 cases h
 unfold shS
 simp only [sh_lines]
 rfl
theorem Shf.plain : Shf p f0 id plainM plainM := fun s a t h => by
 unfold plainM at h ⊢
 rw [(sh_next_kx s).2]
 simp only at h ⊢
 cases hi : insL (next s).x.data.toList with
 | none => rw [hi] at h; cases h
 | some be =>
  obtain ⟨b, e⟩ := be
  rw [hi] at h
  simp only at h ⊢
  split at h
  ·cases h
  ·rename_i hb
   rw [if_neg hb]
   cases hs : saidL (next s).x.data.toList with
   | none => rw [hs] at h; cases h
   | some y =>
    rw [hs] at h
    cases h
    simp only
    rw [sh_take]; rfl
abbrev up (f0 : Fi) : Nat → Nat := fun i => i + f0.exprs.length
theorem Shf.add {e e' : Ex} (h : e' = shE p f0 e) : Shf p f0 (up f0) (addM e) (addM e') := fun s a t hr => by
 unfold addM at hr ⊢
 cases hr
 subst h
 unfold shS shF
 simp only [List.length_append, List.length_map, List.map_append, List.map_cons, List.map_nil, List.append_assoc]
 rw [Nat.add_comm]
theorem Shf.deeper {nx : Sub} {a a' : Nat} {f f' : PM Nat × PM Nat → PM α} {o : α → α} (h : ∀ q, nx = some q → Shf p f0 o (f q) (f' q)) : Shf p f0 o (deeperM nx a f) (deeperM nx a' f') := fun s b t hr => by
 unfold deeperM at hr ⊢
 cases nx with
 | none => cases hr
 | some q => exact h q rfl s b t hr
theorem sh_over (s : Ps) (o : Bool) : { shS p f0 s with over := o } = shS p f0 { s with over := o } := rfl
theorem Shf.between {nx : Sub} {b e : ByteArray} {over : Bool} {f f' : PM Nat × PM Nat → PM α} {o : α → α} (hb : b ≠ ⟨#[]⟩) (he : e ≠ ⟨#[]⟩) (h : ∀ q, nx = some q → Shf p f0 o (f q) (f' q)) :
  Shf p f0 (fun r => (o r.1, r.2 + p)) (betweenM b e over nx f) (betweenM b e over nx f') := by
 unfold betweenM
 refine Shf.bind (Shf.want hb) fun t s a r hr => ?_
 unfold deeperM at hr ⊢
 cases nx with
 | none => cases hr
 | some q =>
  simp only at hr ⊢
  cases hq : f q { s with over := over } with
  | error x => rw [hq] at hr; cases hr
  | ok y =>
   obtain ⟨x, s2⟩ := y
   rw [hq] at hr
   have h1 := h q rfl _ _ _ hq
   rw [sh_over, h1]
   simp only at hr ⊢
   cases hw : wantM e s2 with
   | error x => rw [hw] at hr; cases hr
   | ok z =>
    obtain ⟨t3, s3⟩ := z
    rw [hw] at hr
    cases hr
    rw [Shf.want he _ _ _ hw]
    rfl
end
end Go.Proofs.YtljgggohjigaoaaGreatDoor
namespace Go.Proofs.YtljgggohjigaoaaGreatDoor
set_option linter.unusedVariables false

def SubSh (p : Nat) (f0 : Fi) (nx : Sub) : Prop := ∀ q, nx = some q → Shf p f0 (up f0) q.1 q.1 ∧ Shf p f0 (up f0) q.2 q.2
section
variable {p : Nat} {f0 : Fi} {nx : Sub} {s : Ps}
abbrev ups (f0 : Fi) : List Nat → List Nat := fun l => l.map (up f0)
theorem ups_snoc (l : List Nat) (i : Nat) : ups f0 (l ++ [i]) = ups f0 l ++ [up f0 i] := by simp [ups]
theorem inserted_sh (hx : SubSh p f0 nx) {R : List UInt8} {a : Nat} : Shf p f0 (up f0) (insertedM nx R a) (insertedM nx R (a + p)) := fun s i t hr => by
 unfold insertedM deeperM at hr ⊢
 cases nx with
 | none => cases hr
 | some q =>
  simp only at hr ⊢
  cases hsc : scanL (bA ((R.drop 2).take (R.length - 3))) with
  | error x => rw [hsc] at hr; cases hr
  | ok l =>
   rw [hsc] at hr
   simp only at hr ⊢
   have hB : Shf p f0 (up f0) (bindP q.1 fun i => bindP (kindM 0) fun _ s' => .ok (i, s')) (bindP q.1 fun i => bindP (kindM 0) fun _ s' => .ok (i, s')) := Shf.bind (hx q rfl).1 fun i => Shf.kindThen (Shf.pure rfl)
   cases hm : bindP q.1 (fun i => bindP (kindM 0) fun _ s' => .ok (i, s')) (⟨(l ++ [endT (bA ((R.drop 2).take (R.length - 3))).size]).map (shiftT (a + 2)), false, s.f⟩ : Ps) with
   | error x => rw [hm] at hr; cases hr
   | ok y =>
    obtain ⟨j, s2⟩ := y
    rw [hm] at hr
    cases hr
    have h1 := hB _ _ _ hm
    have h2 : shS p f0 (⟨(l ++ [endT (bA ((R.drop 2).take (R.length - 3))).size]).map (shiftT (a + 2)), false, s.f⟩ : Ps) = ⟨(l ++ [endT (bA ((R.drop 2).take (R.length - 3))).size]).map (shiftT (a + p + 2)), false, (shS p f0 s).f⟩ := by
     unfold shS
     simp only [List.map_map]
     have h3 : (shiftT p ∘ shiftT (a + 2)) = shiftT (a + p + 2) := funext fun t => by
      show (⟨t.k, t.x, t.at_ + (a + 2) + p⟩ : Tk) = ⟨t.k, t.x, t.at_ + (a + p + 2)⟩
      congr 1
      omega
     rw [h3]
    rw [h2] at h1
    rw [h1]
    rfl
theorem parts_sh (hx : SubSh p f0 nx) : ∀ (n : Nat) (R : List UInt8) (a : Nat) (args : List Nat) (keys : List ByteArray), Shf p f0 (fun r => (ups f0 r.1, r.2)) (partsM nx n R a args keys) (partsM nx n R (a + p) (ups f0 args) keys) := by
 intro n
 induction n with
 | zero => intro R a args keys s b t hr; cases hr
 | succ n ih =>
  intro R a args keys s y t hr
  unfold partsM at hr ⊢
  by_cases hR : R = []
  ·rw [if_pos hR] at hr ⊢
   cases hr
   rfl
  ·rw [if_neg hR] at hr ⊢
   cases hi : insL R with
   | none => rw [hi] at hr; cases hr
   | some be =>
    obtain ⟨b, e⟩ := be
    rw [hi] at hr
    simp only at hr ⊢
    have hA : ∀ x1 s1, (if 0 < b then match saidL (R.take b) with
      | none => noneE
      | some t => bindP (addM ⟨5, bA t, [], [], a⟩) (fun i s' => .ok ((args ++ [i], keys ++ [bA [116]]), s')) s
     else .ok ((args, keys), s) : PR (List Nat × List ByteArray)) = .ok (x1, s1) → (if 0 < b then match saidL (R.take b) with
      | none => noneE
      | some t => bindP (addM ⟨5, bA t, [], [], a + p⟩) (fun i s' => .ok ((ups f0 args ++ [i], keys ++ [bA [116]]), s')) (shS p f0 s)
     else .ok ((ups f0 args, keys), shS p f0 s) : PR (List Nat × List ByteArray)) = .ok ((ups f0 x1.1, x1.2), shS p f0 s1) := by
     intro x1 s1 h1
     split at h1
     ·rename_i hb
      rw [if_pos hb]
      cases hs2 : saidL (R.take b) with
      | none => rw [hs2] at h1; cases h1
      | some t =>
       rw [hs2] at h1
       exact (Shf.bind (o := fun r : List Nat × List ByteArray => (ups f0 r.1, r.2)) (Shf.add (e := ⟨5, bA t, [], [], a⟩) rfl) fun i => Shf.pure (by rw [ups_snoc])) s x1 s1 h1
     ·rename_i hb
      rw [if_neg hb]
      cases h1
      rfl
    split at hr
    ·cases hr
    ·rename_i args1 keys1 s1 h1
     have hA2 : ∀ x2 s2, (if b < e then bindP (insertedM nx ((R.take e).drop b) (a + b)) (fun i s' => .ok ((args1 ++ [i], keys1 ++ [bA [101]]), s')) s1 else .ok ((args1, keys1), s1) : PR (List Nat × List ByteArray)) = .ok (x2, s2) → (if b < e then bindP (insertedM nx ((R.take e).drop b) (a + p + b)) (fun i s' => .ok ((ups f0 args1 ++ [i], keys1 ++ [bA [101]]), s')) (shS p f0 s1) else .ok ((ups f0 args1, keys1), shS p f0 s1) : PR (List Nat × List ByteArray)) = .ok ((ups f0 x2.1, x2.2), shS p f0 s2) := by
      intro x2 s2 h2
      split at h2
      ·rename_i hb
       rw [if_pos hb, show a + p + b = a + b + p by omega]
       exact (Shf.bind (o := fun r : List Nat × List ByteArray => (ups f0 r.1, r.2)) (inserted_sh hx) fun i => Shf.pure (by rw [ups_snoc])) s1 x2 s2 h2
      ·rename_i hb
       rw [if_neg hb]
       cases h2
       rfl
     erw [hA _ _ h1]
     simp only
     split at hr
     ·cases hr
     ·rename_i args2 keys2 s2 h2
      erw [hA2 _ _ h2]
      simp only
      have h3 := ih (R.drop e) (a + e) args2 keys2 s2 y t hr
      rw [show a + e + p = a + p + e by omega] at h3
      exact h3
theorem text_sh (hx : SubSh p f0 nx) (hk : (next s).k = 3) {i : Nat} {t : Ps} (h : textM nx s = .ok (i, t)) : textM nx (shS p f0 s) = .ok (up f0 i, shS p f0 t) := by
 unfold textM at h ⊢
 rw [sh_next (.inl (by rw [hk]; decide)), sh_take]
 simp only at h ⊢
 cases hi : insL (next s).x.data.toList with
 | none => rw [hi] at h; cases h
 | some be =>
  obtain ⟨b, e⟩ := be
  rw [hi] at h
  have hi2 : insL (shiftT p (next s)).x.data.toList = some (b, e) := hi
  rw [hi2]
  simp only at h ⊢
  split at h
  ·rename_i hb
   rw [if_pos (show b = (shiftT p (next s)).x.data.toList.length from hb)]
   cases hs : saidL (next s).x.data.toList with
   | none => rw [hs] at h; cases h
   | some y =>
    rw [hs] at h
    have hs2 : saidL (shiftT p (next s)).x.data.toList = some y := hs
    rw [hs2]
    exact Shf.add (e := ⟨5, bA y, [], [], (next s).at_⟩) rfl _ _ _ h
  ·rename_i hb
   rw [if_neg (show ¬ b = (shiftT p (next s)).x.data.toList.length from hb)]
   have h2 := (Shf.bind (o := up f0) (k' := fun r => addM ⟨6, ⟨#[]⟩, r.1, r.2, (next s).at_ + p⟩) (parts_sh hx _ (next s).x.data.toList ((next s).at_ + 1) [] []) (fun r => Shf.add (p := p) (f0 := f0) (e := ⟨6, ⟨#[]⟩, r.1, r.2, (next s).at_⟩) rfl)) _ _ _ h
   rw [show (next s).at_ + 1 + p = (shiftT p (next s)).at_ + 1 by show _ = (next s).at_ + p + 1; omega] at h2
   exact h2
theorem args_sh {en : ByteArray} {ex : PM Nat} (hx : Shf p f0 (up f0) ex ex) : ∀ (n : Nat) (args : List Nat), Shf p f0 (ups f0) (argsM en ex n args) (argsM en ex n (ups f0 args)) := by
 intro n
 induction n with
 | zero => intro args s b t hr; cases hr
 | succ n ih =>
  intro args s b t hr
  unfold argsM at hr ⊢
  rw [sh_isW, sh_peek]
  split at hr
  ·rename_i hi
   rw [if_pos hi]
   cases hr
   rfl
  ·rename_i hi
   rw [if_neg hi]
   refine (Shf.bind hx fun i => Shf.bind Shf.skip fun c => ?_) _ b t hr
   rw [← ups_snoc]
   cases c with
   | true => exact ih (args ++ [i])
   | false => exact Shf.pure rfl
theorem key_sh {ahead : List ByteArray} : Shf p f0 id (keyM ahead) (keyM ahead) := fun s a t hr => by
 unfold keyM at hr ⊢
 rw [(sh_next_kx s).1, sh_peek]
 have hA : ∀ k s1, (if (next s).k = 3 then plainM (peekS s) else bindP (kindM 1) (fun t s' => .ok (t.x, s')) (peekS s) : PR ByteArray) = .ok (k, s1) → (if (next s).k = 3 then plainM (shS p f0 (peekS s)) else bindP (kindM 1) (fun t s' => .ok (t.x, s')) (shS p f0 (peekS s)) : PR ByteArray) = .ok (k, shS p f0 s1) := by
  intro k s1 h1
  split at h1
  ·rename_i hi
   rw [if_pos hi]
   exact Shf.plain _ _ _ h1
  ·rename_i hi
   rw [if_neg hi]
   exact (Shf.bind (o := id) (Shf.kind (by decide)) fun t => Shf.pure rfl) _ _ _ h1
 split at hr
 ·cases hr
 ·rename_i k s1 h1
  rw [hA _ _ h1]
  simp only
  split at hr
  ·cases hr
  ·rename_i hi
   rw [if_neg hi]
   cases hr
   rfl
theorem obj_sh {ex : PM Nat} (hx : Shf p f0 (up f0) ex ex) : ∀ (n : Nat) (keys : List ByteArray) (args : List Nat), Shf p f0 (fun r => (r.1, ups f0 r.2)) (objM ex n keys args) (objM ex n keys (ups f0 args)) := by
 intro n
 induction n with
 | zero => intro keys args s b t hr; cases hr
 | succ n ih =>
  intro keys args s b t hr
  unfold objM at hr ⊢
  rw [sh_isW, sh_peek]
  split at hr
  ·rename_i hi
   rw [if_pos hi]
   cases hr
   rfl
  ·rename_i hi
   rw [if_neg hi]
   have hB : Shf p f0 (fun r : List ByteArray × List Nat => (r.1, ups f0 r.2)) (bindP (keyM keys) (fun k => bindP (wantM (wb [61])) fun _ => bindP ex fun i => bindP (skipM (wb [44])) fun c => bindP linesM fun l s' => if !l && !c then .ok ((keys ++ [k], args ++ [i]), s') else objM ex n (keys ++ [k]) (args ++ [i]) s'))
     (bindP (keyM keys) (fun k => bindP (wantM (wb [61])) fun _ => bindP ex fun i => bindP (skipM (wb [44])) fun c => bindP linesM fun l s' => if !l && !c then .ok ((keys ++ [k], ups f0 args ++ [i]), s') else objM ex n (keys ++ [k]) (ups f0 args ++ [i]) s')) := by
    refine Shf.bind key_sh fun k => Shf.bind (Shf.want (by decide)) fun _ => Shf.bind hx fun i => Shf.bind Shf.skip fun c => Shf.bind Shf.lines fun l => ?_
    rw [← ups_snoc]
    intro s2 b2 t2 h2
    simp only [id] at h2 ⊢
    split at h2
    ·rename_i hc
     rw [if_pos hc]
     cases h2
     rfl
    ·rename_i hc
     rw [if_neg hc]
     exact ih _ _ s2 b2 t2 h2
   exact hB _ b t hr
theorem len_sh (s : Ps) : (shS p f0 s).toks.length = s.toks.length := List.length_map _
theorem list_sh (hx : SubSh p f0 nx) : Shf p f0 (up f0) (listM nx) (listM nx) := by
 unfold listM
 refine Shf.bind (Shf.between (o := fun r : Int × ByteArray × List Nat => (r.1, r.2.1, ups f0 r.2.2)) (by decide) (by decide) fun q hq => ?_) fun r => Shf.add rfl
 have hE := (hx q hq).1
 refine Shf.bind Shf.skip fun fr => ?_
 cases fr with
 | true => exact Shf.bind (Shf.kind (by decide)) fun t => Shf.bind (Shf.want (by decide)) fun _ => Shf.bind hE fun i => Shf.bind (Shf.want (by decide)) fun _ => Shf.bind hE fun j => Shf.pure rfl
 | false =>
  intro s b t hr
  have h1 := Shf.bind (p := p) (f0 := f0) (o := fun r : Int × ByteArray × List Nat => (r.1, r.2.1, ups f0 r.2.2)) (k := fun l s' => .ok (((7 : Int), (⟨#[]⟩ : ByteArray), l), s')) (k' := fun l s' => .ok (((7 : Int), (⟨#[]⟩ : ByteArray), l), s')) (args_sh hE (s.toks.length + 1) []) (fun l => Shf.pure rfl) s b t hr
  rw [← len_sh (p := p) (f0 := f0) s] at h1
  exact h1
theorem object_sh (hx : SubSh p f0 nx) : Shf p f0 (up f0) (objectM nx) (objectM nx) := by
 unfold objectM
 refine Shf.bind (Shf.between (o := fun r : List ByteArray × List Nat => (r.1, ups f0 r.2)) (by decide) (by decide) fun q hq => ?_) fun r => Shf.add rfl
 refine Shf.bind Shf.lines fun _ s b t hr => ?_
 have h1 := obj_sh (hx q hq).1 (s.toks.length + 1) [] [] s b t hr
 rw [← len_sh (p := p) (f0 := f0) s] at h1
 exact h1
end
end Go.Proofs.YtljgggohjigaoaaGreatDoor
namespace Go.Proofs.YtljgggohjigaoaaGreatDoor
set_option linter.unusedVariables false

section
variable {p : Nat} {f0 : Fi} {nx : Sub} {s : Ps}
theorem named_sh (hx : SubSh p f0 nx) (hk : (next s).k = 1) {i : Nat} {t : Ps} (h : namedM nx s = .ok (i, t)) : namedM nx (shS p f0 s) = .ok (up f0 i, shS p f0 t) := by
 unfold namedM at h ⊢
 rw [sh_next (.inl (by rw [hk]; decide)), sh_take]
 simp only at h ⊢
 rw [sh_isW, sh_peek]
 have hxx : (shiftT p (next s)).x = (next s).x := rfl
 have hat : (shiftT p (next s)).at_ = (next s).at_ + p := rfl
 rw [hxx, hat]
 by_cases h1 : isW (wb [40]) (next (takeS s)) = true
 ·rw [if_pos h1] at h ⊢
  have hB : Shf p f0 (up f0) (bindP (betweenM (wb [40]) (wb [41]) true nx fun p s => argsM (wb [41]) p.1 (s.toks.length + 1) [] s) (fun r => addM ⟨12, (next s).x, r.1, [], (next s).at_⟩)) (bindP (betweenM (wb [40]) (wb [41]) true nx fun p s => argsM (wb [41]) p.1 (s.toks.length + 1) [] s) (fun r => addM ⟨12, (next s).x, r.1, [], (next s).at_ + p⟩)) := by
   refine Shf.bind (Shf.between (o := ups f0) (by decide) (by decide) fun q hq => ?_) fun r => Shf.add rfl
   intro s2 b2 t2 h2
   have h3 := args_sh (hx q hq).1 (s2.toks.length + 1) [] s2 b2 t2 h2
   rw [← len_sh (p := p) (f0 := f0) s2] at h3
   exact h3
  exact hB _ _ _ h
 ·rw [if_neg h1] at h ⊢
  by_cases h2 : (next s).x = wb [110, 117, 108, 108]
  ·rw [if_pos h2] at h ⊢
   exact Shf.add (e := ⟨1, ⟨#[]⟩, [], [], (next s).at_⟩) rfl _ _ _ h
  ·rw [if_neg h2] at h ⊢
   by_cases h3 : (next s).x = wb [116, 114, 117, 101]
   ·rw [if_pos h3] at h ⊢
    exact Shf.add (e := ⟨2, ⟨#[]⟩, [], [], (next s).at_⟩) rfl _ _ _ h
   ·rw [if_neg h3] at h ⊢
    by_cases h4 : (next s).x = wb [102, 97, 108, 115, 101]
    ·rw [if_pos h4] at h ⊢
     exact Shf.add (e := ⟨3, ⟨#[]⟩, [], [], (next s).at_⟩) rfl _ _ _ h
    ·rw [if_neg h4] at h ⊢
     exact Shf.add (e := ⟨9, (next s).x, [], [], (next s).at_⟩) rfl _ _ _ h
theorem atom_sh (hx : SubSh p f0 nx) : Shf p f0 (up f0) (atomM nx) (atomM nx) := fun s i t h => by
 unfold atomM at h ⊢
 simp only at h ⊢
 have hk := (sh_next_kx (p := p) (f0 := f0) s).1
 have hxx := (sh_next_kx (p := p) (f0 := f0) s).2
 rw [hk, hxx, sh_isW, sh_isW, sh_isW, sh_take]
 by_cases h1 : (next s).k = 2
 ·rw [if_pos h1] at h ⊢
  rw [sh_next (.inl (by rw [h1]; decide))]
  exact Shf.add (e := ⟨4, (next s).x, [], [], (next s).at_⟩) rfl _ _ _ h
 ·rw [if_neg h1] at h ⊢
  by_cases h2 : (next s).k = 3
  ·rw [if_pos h2] at h ⊢
   exact text_sh hx h2 h
  ·rw [if_neg h2] at h ⊢
   by_cases h3 : (next s).k = 1 ∧ (next s).x ≠ wb [102, 111, 114]
   ·rw [if_pos h3] at h ⊢
    exact named_sh hx h3.1 h
   ·rw [if_neg h3] at h ⊢
    by_cases h4 : isW (wb [40]) (next s) = true
    ·rw [if_pos h4] at h ⊢
     have hB : Shf p f0 (up f0) (bindP (betweenM (wb [40]) (wb [41]) true nx fun p => p.1) (fun r s' => .ok (r.1, s'))) (bindP (betweenM (wb [40]) (wb [41]) true nx fun p => p.1) (fun r s' => .ok (r.1, s'))) := Shf.bind (Shf.between (by decide) (by decide) fun q hq => (hx q hq).1) fun r => Shf.pure rfl
     exact hB _ _ _ h
    ·rw [if_neg h4] at h ⊢
     by_cases h5 : isW (wb [91]) (next s) = true
     ·rw [if_pos h5] at h ⊢
      exact list_sh hx _ _ _ h
     ·rw [if_neg h5] at h ⊢
      by_cases h6 : isW (wb [123]) (next s) = true
      ·rw [if_pos h6] at h ⊢
       exact object_sh hx _ _ _ h
      ·rw [if_neg h6] at h
       cases h
theorem indexed_sh (hx : SubSh p f0 nx) (one : Nat) : Shf p f0 (up f0) (indexedM nx one) (indexedM nx (up f0 one)) := by
 unfold indexedM
 refine Shf.bind (Shf.between (o := fun r : Bool × List Nat => (r.1, ups f0 r.2)) (by decide) (by decide) fun q hq => ?_) fun r => ?_
 ·refine Shf.bind Shf.skip fun st => ?_
  cases st with
  | true => exact Shf.pure rfl
  | false => exact Shf.bind (hx q hq).1 fun i => Shf.pure rfl
 ·obtain ⟨⟨b, l⟩, a⟩ := r
  cases b with
  | true => exact Shf.bind (Shf.want (w := wb [46]) (by decide)) fun _ => Shf.bind (Shf.kind (k := 1) (by decide)) fun t => Shf.add (e := ⟨30, t.x, l, [], a⟩) rfl
  | false => exact Shf.add (e := ⟨11, ⟨#[]⟩, l, [], a⟩) rfl
theorem post_sh (hx : SubSh p f0 nx) : ∀ (n one : Nat), Shf p f0 (up f0) (postLoop nx n one) (postLoop nx n (up f0 one)) := by
 intro n
 induction n with
 | zero => intro one s b t hr; cases hr
 | succ n ih =>
  intro one s b t hr
  unfold postLoop at hr ⊢
  rw [sh_isW, sh_isW, sh_peek, sh_take]
  by_cases h1 : isW (wb [46]) (next s) = true
  ·rw [if_pos h1] at hr ⊢
   rw [sh_next (.inr (isW_x (by decide) h1))]
   have hB : Shf p f0 (up f0) (bindP (kindM 1) (fun t => bindP (addM ⟨10, t.x, [one], [], (next s).at_⟩) fun i => postLoop nx n i)) (bindP (kindM 1) (fun t => bindP (addM ⟨10, t.x, [up f0 one], [], (next s).at_ + p⟩) fun i => postLoop nx n i)) :=
    Shf.bind (Shf.kind (by decide)) fun t => Shf.bind (Shf.add (e := ⟨10, t.x, [one], [], (next s).at_⟩) rfl) fun i => ih i
   exact hB _ _ _ hr
  ·rw [if_neg h1] at hr ⊢
   by_cases h2 : isW (wb [91]) (next s) = true
   ·rw [if_pos h2] at hr ⊢
    have hB : Shf p f0 (up f0) (bindP (indexedM nx one) (fun i => postLoop nx n i)) (bindP (indexedM nx (up f0 one)) (fun i => postLoop nx n i)) := Shf.bind (indexed_sh hx one) fun i => ih i
    exact hB _ _ _ hr
   ·rw [if_neg h2] at hr ⊢
    cases hr
    rfl
theorem posted_sh (hx : SubSh p f0 nx) : Shf p f0 (up f0) (postedM nx) (postedM nx) := by
 unfold postedM
 refine Shf.bind (atom_sh hx) fun one s b t hr => ?_
 rw [len_sh]
 exact post_sh hx _ one s b t hr
theorem signed_sh (hx : SubSh p f0 nx) : Shf p f0 (up f0) (signedM nx) (signedM nx) := fun s b t hr => by
 unfold signedM at hr ⊢
 simp only at hr ⊢
 rw [sh_isW, sh_isW, sh_peek, sh_take]
 by_cases h1 : isW (wb [33]) (next s) = true
 ·rw [if_pos h1] at hr ⊢
  rw [sh_next (.inr (isW_x (by decide) h1))]
  have hB : Shf p f0 (up f0) (bindP (deeperM nx (next s).at_ fun p => p.2) (fun i => addM ⟨14, ⟨#[]⟩, [i], [], (next s).at_⟩)) (bindP (deeperM nx ((next s).at_ + p) fun p => p.2) (fun i => addM ⟨14, ⟨#[]⟩, [i], [], (next s).at_ + p⟩)) :=
   Shf.bind (Shf.deeper fun q hq => (hx q hq).2) fun i => Shf.add (e := ⟨14, ⟨#[]⟩, [i], [], (next s).at_⟩) rfl
  exact hB _ _ _ hr
 ·rw [if_neg h1] at hr ⊢
  by_cases h2 : isW (wb [45]) (next s) = true
  ·rw [if_pos h2] at hr ⊢
   rw [sh_next (.inr (isW_x (by decide) h2))]
   have hB : Shf p f0 (up f0) (bindP (deeperM nx (next s).at_ fun p => p.2) (fun i => addM ⟨13, ⟨#[]⟩, [i], [], (next s).at_⟩)) (bindP (deeperM nx ((next s).at_ + p) fun p => p.2) (fun i => addM ⟨13, ⟨#[]⟩, [i], [], (next s).at_ + p⟩)) :=
    Shf.bind (Shf.deeper fun q hq => (hx q hq).2) fun i => Shf.add (e := ⟨13, ⟨#[]⟩, [i], [], (next s).at_⟩) rfl
   exact hB _ _ _ hr
  ·rw [if_neg h2] at hr ⊢
   exact posted_sh hx _ _ _ hr
theorem sh_joins (s : Ps) : joinsT (next (shS p f0 s)) = joinsT (next s) := by
 unfold joinsT
 rw [(sh_next_kx s).1, (sh_next_kx s).2]
theorem joins_k4 {t : Tk} {lv : Nat} (h : lowK lv ≤ joinsT t) : t.k ≠ 0 := fun e => by
 have h1 : joinsT t = 0 := by
  unfold joinsT
  rw [if_pos (by rw [e]; decide)]
 rw [h1] at h
 unfold lowK at h
 split at h <;> omega
theorem joinLoop_sh {sub : PM Nat} {lv : Nat} (hx : Shf p f0 (up f0) sub sub) : ∀ (n left : Nat), Shf p f0 (up f0) (joinLoop sub lv n left) (joinLoop sub lv n (up f0 left)) := by
 intro n
 induction n with
 | zero => intro left s b t hr; cases hr
 | succ n ih =>
  intro left s b t hr
  unfold joinLoop at hr ⊢
  rw [sh_joins, sh_peek, sh_take]
  by_cases h1 : lowK lv ≤ joinsT (next s) ∧ joinsT (next s) ≤ topK lv
  ·rw [if_pos h1] at hr ⊢
   rw [sh_next (.inl (joins_k4 h1.1))]
   have hB : Shf p f0 (up f0) (bindP sub (fun right => bindP (addM ⟨joinsT (next s), ⟨#[]⟩, [left, right], [], (next s).at_⟩) fun i => joinLoop sub lv n i)) (bindP sub (fun right => bindP (addM ⟨joinsT (next s), ⟨#[]⟩, [up f0 left, right], [], (next s).at_ + p⟩) fun i => joinLoop sub lv n i)) :=
    Shf.bind hx fun right => Shf.bind (Shf.add (e := ⟨joinsT (next s), ⟨#[]⟩, [left, right], [], (next s).at_⟩) rfl) fun i => ih i
   exact hB _ _ _ hr
  ·rw [if_neg h1] at hr ⊢
   cases hr
   rfl
theorem joined_sh (hx : SubSh p f0 nx) : ∀ n, Shf p f0 (up f0) (joinedM nx n) (joinedM nx n)
 | 0 => signed_sh hx
 | n + 1 => by
  unfold joinedM
  refine Shf.bind (joined_sh hx n) fun left s b t hr => ?_
  rw [len_sh]
  exact joinLoop_sh (joined_sh hx n) _ left s b t hr
theorem expr_sh (hx : SubSh p f0 nx) : Shf p f0 (up f0) (exprM nx) (exprM nx) := by
 unfold exprM
 refine Shf.bind (joined_sh hx 6) fun first s b t hr => ?_
 rw [sh_isW, sh_peek, sh_take]
 by_cases h1 : isW (wb [63]) (next s) = true
 ·rw [if_pos h1] at hr ⊢
  rw [sh_next (.inr (isW_x (by decide) h1))]
  have hB : Shf p f0 (up f0) (bindP (deeperM nx (next s).at_ fun p => bindP p.1 fun i => bindP (wantM (wb [58])) fun _ => bindP p.1 fun j s => .ok ([first, i, j], s)) (fun l => addM ⟨28, ⟨#[]⟩, l, [], (next s).at_⟩))
    (bindP (deeperM nx ((next s).at_ + p) fun p => bindP p.1 fun i => bindP (wantM (wb [58])) fun _ => bindP p.1 fun j s => .ok ([up f0 first, i, j], s)) (fun l => addM ⟨28, ⟨#[]⟩, l, [], (next s).at_ + p⟩)) :=
   Shf.bind (o1 := ups f0) (Shf.deeper fun q hq => Shf.bind (hx q hq).1 fun i => Shf.bind (Shf.want (by decide)) fun _ => Shf.bind (hx q hq).1 fun j => Shf.pure rfl) fun l => Shf.add (e := ⟨28, ⟨#[]⟩, l, [], (next s).at_⟩) rfl
  exact hB _ _ _ hr
 ·rw [if_neg h1] at hr ⊢
  cases hr
  rfl
end
theorem sub_sh (p : Nat) (f0 : Fi) : ∀ d, SubSh p f0 (subP d) := by
 intro d
 induction d with
 | zero => intro q hq; cases hq
 | succ d ih =>
  intro q hq
  simp only [subP, Option.some.injEq] at hq
  subst hq
  exact ⟨expr_sh ih, signed_sh ih⟩
section
variable {p : Nat} {f0 : Fi} {s : Ps}
theorem itemsLoop_sh {σ : Type} {rd : Tk → σ → PM σ} {o : σ → σ} (hr : ∀ t x, t.k = 1 → Shf p f0 o (rd t x) (rd (shiftT p t) (o x))) : ∀ (n : Nat) (x : σ), Shf p f0 o (itemsLoop rd n x) (itemsLoop rd n (o x)) := by
 intro n
 induction n with
 | zero => intro x s b t h; cases h
 | succ n ih =>
  intro x s b t h
  unfold itemsLoop at h ⊢
  rw [(sh_next_kx s).1, sh_peek, sh_take]
  by_cases hk : (next s).k = 1
  ·rw [if_pos hk] at h ⊢
   rw [sh_next (.inl (by rw [hk]; decide))]
   have hB : Shf p f0 o (bindP (rd (next s) x) (fun x' => bindP linesM fun l s' => if l then itemsLoop rd n x' s' else .ok (x', s'))) (bindP (rd (shiftT p (next s)) (o x)) (fun x' => bindP linesM fun l s' => if l then itemsLoop rd n x' s' else .ok (x', s'))) := by
    refine Shf.bind (hr _ x hk) fun x' => Shf.bind Shf.lines fun l => ?_
    cases l with
    | true => exact ih x'
    | false => exact Shf.pure rfl
   exact hB _ _ _ h
  ·rw [if_neg hk] at h ⊢
   cases h
   rfl
theorem items_sh {σ : Type} {rd : Tk → σ → PM σ} {o : σ → σ} (hr : ∀ t x, t.k = 1 → Shf p f0 o (rd t x) (rd (shiftT p t) (o x))) (x : σ) : Shf p f0 o (itemsM rd x) (itemsM rd (o x)) := by
 unfold itemsM
 refine Shf.bind Shf.lines fun _ s b t h => ?_
 rw [len_sh]
 exact itemsLoop_sh hr _ x s b t h
theorem labels_sh : ∀ (n : Nat) (l : List ByteArray), Shf p f0 id (labelsM n l) (labelsM n l) := by
 intro n
 induction n with
 | zero => intro l s b t h; cases h
 | succ n ih =>
  intro l s b t h
  unfold labelsM at h ⊢
  rw [(sh_next_kx s).1, sh_peek]
  by_cases hk : (next s).k = 3
  ·rw [if_pos hk] at h ⊢
   have hB : Shf p f0 id (bindP plainM (fun t => labelsM n (l ++ [t]))) (bindP plainM (fun t => labelsM n (l ++ [t]))) := Shf.bind Shf.plain fun t => ih _
   exact hB _ _ _ h
  ·rw [if_neg hk] at h ⊢
   cases h
   rfl
abbrev upB (f0 : Fi) : Nat → Nat := fun i => i + f0.blocks.length
theorem addB_sh {b b' : Bl} (h : b' = shB p f0 b) : Shf p f0 (upB f0) (addB b) (addB b') := fun s a t hr => by
 unfold addB at hr ⊢
 cases hr
 subst h
 unfold shS shF
 simp only [List.length_append, List.length_map, List.map_append, List.map_cons, List.map_nil, List.append_assoc]
 rw [Nat.add_comm]
theorem itemE_sh {ex : PM Nat} {bk : Tk → PM Nat} (hx : Shf p f0 (up f0) ex ex) (hb : ∀ t, t.k = 1 → Shf p f0 (upB f0) (bk t) (bk (shiftT p t))) (t : Tk) (b : Bl) (hk : t.k = 1) : Shf p f0 (shB p f0) (itemE ex bk t b) (itemE ex bk (shiftT p t) (shB p f0 b)) := by
 unfold itemE
 refine Shf.bind Shf.skip fun eq => ?_
 cases eq with
 | true => exact Shf.bind hx fun i => Shf.pure (by simp [shB, shA, shiftT])
 | false => exact Shf.bind (hb t hk) fun i => Shf.pure (by simp [shB])
theorem block_sh : ∀ (d : Nat) (t : Tk), t.k = 1 → Shf p f0 (upB f0) (blockM d t) (blockM d (shiftT p t)) := by
 intro d
 induction d with
 | zero =>
  intro t hk s b r h
  rw [block_eq] at h ⊢
  rw [len_sh]
  have hB : Shf p f0 (upB f0) (bindP (labelsM (s.toks.length + 1) []) (restB 0 t)) (bindP (labelsM (s.toks.length + 1) []) (restB 0 (shiftT p t))) := by
   refine Shf.bind (labels_sh _ _) fun ls => ?_
   unfold restB
   refine Shf.bind (Shf.between (o := shB p f0) (by decide) (by decide) fun q hq => ?_) fun r => addB_sh rfl
   cases hq
  exact hB _ _ _ h
 | succ d ih =>
  intro t hk s b r h
  rw [block_eq] at h ⊢
  rw [len_sh]
  have hB : Shf p f0 (upB f0) (bindP (labelsM (s.toks.length + 1) []) (restB (d + 1) t)) (bindP (labelsM (s.toks.length + 1) []) (restB (d + 1) (shiftT p t))) := by
   refine Shf.bind (labels_sh _ _) fun ls => ?_
   unfold restB
   refine Shf.bind (Shf.between (o := shB p f0) (by decide) (by decide) fun q hq => ?_) fun r => addB_sh rfl
   unfold bodyE
   exact items_sh (fun t b hk => itemE_sh (expr_sh (sub_sh p f0 d)) ih t b hk) ⟨t.x, ls, [], [], t.at_⟩
  exact hB _ _ _ h
theorem tops_sh (x : Unit) : Shf p f0 id (itemsM (fun (n : Tk) (_ : Unit) => bindP (blockM 24 n) fun i s => .ok ((), { s with f := { s.f with top := s.f.top ++ [i] } })) x) (itemsM (fun (n : Tk) (_ : Unit) => bindP (blockM 24 n) fun i s => .ok ((), { s with f := { s.f with top := s.f.top ++ [i] } })) x) := by
 refine items_sh (o := id) (fun t x hk => ?_) x
 refine Shf.bind (block_sh 24 t hk) fun i s b r h => ?_
 cases h
 unfold shS shF
 simp only [List.map_append, List.map_cons, List.map_nil, List.append_assoc]
end
end Go.Proofs.YtljgggohjigaoaaGreatDoor
