/- . -/
import Derived.Test.YtljgggohjigaoaaGreatDoorSk07
import Derived.Test.YtljgggohjigaoaaGreatDoorSk33
import Derived.Test.YtljgggohjigaoaaGreatDoorSk39
namespace Go.Proofs.YtljgggohjigaoaaGreatDoor
set_option linter.unusedVariables false

section
variable {e : Tk} {R : List Tk} {α β : Type} {s s' : Ps} {w : ByteArray} {nx : Sub}
theorem named_ext (he : e.k = 0 ∧ e.x = ⟨#[]⟩) (hR : 1 ≤ R.length) (hx : SubX e R nx) (hE : Ext e R s s') (hk : (next s).k = 1) {i : Nat} {t : Ps} (hr : namedM nx s = .ok (i, t)) (hl : ¬ Dd t) : ∃ t', namedM nx s' = .ok (i, t') ∧ Ext e R t t' := by
 have hd : ¬ Dd s := fun hd => by rw [hd.1] at hk; cases hk
 have hT := hE.take he hd
 unfold namedM at hr ⊢
 rw [hE.next he hd]
 simp only at hr ⊢
 have hd1 : ¬ Dd (takeS s) := fun hD => by
  rw [hD.isW (by decide)] at hr
  simp only [Bool.false_eq_true, if_false] at hr
  refine hl ?_
  split at hr
  ·exact FO.add.dp _ _ _ (Dd.peek.2 hD) hr
  ·split at hr
   ·exact FO.add.dp _ _ _ (Dd.peek.2 hD) hr
   ·split at hr
    ·exact FO.add.dp _ _ _ (Dd.peek.2 hD) hr
    ·exact FO.add.dp _ _ _ (Dd.peek.2 hD) hr
 have hP := hT.peek he hd1
 rw [hT.next he hd1]
 by_cases h1 : isW (wb [40]) (next (takeS s)) = true
 ·rw [if_pos h1] at hr ⊢
  have hB : X0 e R (bindP (betweenM (wb [40]) (wb [41]) true nx fun p s => argsM (wb [41]) p.1 (s.toks.length + 1) [] s) (fun r => addM ⟨12, (next s).x, r.1, [], (next s).at_⟩)) := by
   refine X0.bind (X0.between he (by decide) (by decide) fun q hq => ?_) fun r => X0.add
   obtain ⟨⟨k1, k2⟩, -⟩ := hx q hq
   exact fun s s' a t hE hr hl => args_ext he (by decide) k1 k2 _ _ [] (by have := hE.len hR; omega) s s' a t hE hr hl
  exact hB _ _ _ _ hP hr
 ·rw [if_neg h1] at hr ⊢
  by_cases h2 : (next s).x = wb [110, 117, 108, 108]
  ·rw [if_pos h2] at hr ⊢
   exact X0.add _ _ _ _ hP hr
  ·rw [if_neg h2] at hr ⊢
   by_cases h3 : (next s).x = wb [116, 114, 117, 101]
   ·rw [if_pos h3] at hr ⊢
    exact X0.add _ _ _ _ hP hr
   ·rw [if_neg h3] at hr ⊢
    by_cases h4 : (next s).x = wb [102, 97, 108, 115, 101]
    ·rw [if_pos h4] at hr ⊢
     exact X0.add _ _ _ _ hP hr
    ·rw [if_neg h4] at hr ⊢
     exact X0.add _ _ _ _ hP hr
theorem atom_fp : FP (atomM nx) := fun s a t hd hr => by
 unfold atomM at hr
 simp only at hr
 rw [if_neg (by rw [hd.1]; decide), if_neg (by rw [hd.1]; decide), if_neg (by rw [hd.1]; exact fun h => absurd h.1 (by decide)), hd.isW (by decide), hd.isW (by decide), hd.isW (by decide)] at hr
 cases hr
theorem atom_ext (he : e.k = 0 ∧ e.x = ⟨#[]⟩) (hR : 1 ≤ R.length) (hx : SubX e R nx) : X1 e R (atomM nx) := fun s s' i t hE h hl => by
 have hd : ¬ Dd s := fun hd => atom_fp s i t hd h
 unfold atomM at h ⊢
 simp only at h ⊢
 rw [hE.next he hd]
 by_cases h1 : (next s).k = 2
 ·rw [if_pos h1] at h ⊢
  exact X0.add _ _ _ _ (hE.take he hd) h
 ·rw [if_neg h1] at h ⊢
  by_cases h2 : (next s).k = 3
  ·rw [if_pos h2] at h ⊢
   exact text_ext he hE h2 h
  ·rw [if_neg h2] at h ⊢
   by_cases h3 : (next s).k = 1 ∧ (next s).x ≠ wb [102, 111, 114]
   ·rw [if_pos h3] at h ⊢
    exact named_ext he hR hx hE h3.1 h hl
   ·rw [if_neg h3] at h ⊢
    by_cases h4 : isW (wb [40]) (next s) = true
    ·rw [if_pos h4] at h ⊢
     have hB : X0 e R (bindP (betweenM (wb [40]) (wb [41]) true nx fun p => p.1) (fun r s' => .ok (r.1, s'))) := X0.bind (X0.between he (by decide) (by decide) fun q hq => (hx q hq).1.1) fun r => X0.pure
     exact hB _ _ _ _ hE h
    ·rw [if_neg h4] at h ⊢
     by_cases h5 : isW (wb [91]) (next s) = true
     ·rw [if_pos h5] at h ⊢
      exact list_ext he hR hx _ _ _ _ hE h
     ·rw [if_neg h5] at h ⊢
      by_cases h6 : isW (wb [123]) (next s) = true
      ·rw [if_pos h6] at h ⊢
       exact object_ext he hR hx _ _ _ _ hE h
      ·rw [if_neg h6] at h
       cases h
theorem indexed_ext (he : e.k = 0 ∧ e.x = ⟨#[]⟩) (hx : SubX e R nx) (one : Nat) : X0 e R (indexedM nx one) := by
 unfold indexedM
 refine X0.bind (X0.between he (by decide) (by decide) fun q hq => ?_) fun r => ?_
 ·obtain ⟨⟨h1, h2⟩, -⟩ := hx q hq
  refine X1.bind (X1.skip he (by decide)) (fun st => ?_) fun st => ?_
  ·cases st with
   | true => exact DP.pure
   | false => exact (FP.bind h2).dp
  ·cases st with
   | true => exact X0.pure.x1
   | false => exact X1.bind h1 (fun i => DP.pure) fun i => X0.pure.x1
 ·split
  ·exact X0.bind (X0.want he (by decide)) fun _ => X0.bind (X0.kind he (by decide)) fun t => X0.add
  ·exact X0.add
theorem post_dp : ∀ (n one : Nat), DP (postLoop nx n one)
 | 0, one => fun s a t hd hr => by cases hr
 | n + 1, one => fun s a t hd hr => by
  unfold postLoop at hr
  rw [hd.isW (by decide), hd.isW (by decide)] at hr
  cases hr
  exact Dd.peek.2 hd
theorem bindP_go {α β : Type} {M : PM α} {K : α → PM β} {s s2 : Ps} {i : α} (h : M s = .ok (i, s2)) : bindP M K s = K i s2 := by
 unfold bindP
 rw [h]
theorem bindP_inv {α β : Type} {M : PM α} {K : α → PM β} {s : Ps} {y : β × Ps} (h : bindP M K s = .ok y) : ∃ i s1, M s = .ok (i, s1) ∧ K i s1 = .ok y := by
 unfold bindP at h
 cases hm : M s with
 | error x => rw [hm] at h; cases h
 | ok z =>
  rw [hm] at h
  exact ⟨z.1, z.2, rfl, h⟩
theorem bindP_three {α β γ : Type} {M : PM α} {K : α → PM β} {L : β → PM γ} {s : Ps} : bindP M (fun r => bindP (K r) L) s = bindP (bindP M K) L s := by
 unfold bindP
 cases M s with
 | error x => rfl
 | ok y => rfl
theorem post_ext (he : e.k = 0 ∧ e.x = ⟨#[]⟩) (hx : SubX e R nx) : ∀ (n n' one : Nat), n ≤ n' → ∀ s s' a t, Ext e R s s' → postLoop nx n one s = .ok (a, t) → ¬ Dd t → ∃ t', postLoop nx n' one s' = .ok (a, t') ∧ Ext e R t t' := by
 intro n
 induction n with
 | zero => intro n' one _ s s' a t _ hr; cases hr
 | succ n ih =>
  intro n' one hn s s' a t hE hr hl
  obtain ⟨n', rfl⟩ : ∃ k, n' = k + 1 := ⟨n' - 1, by omega⟩
  have hd : ¬ Dd s := fun hd => hl (post_dp (n + 1) one s a t hd hr)
  unfold postLoop at hr ⊢
  rw [hE.next he hd]
  by_cases h1 : isW (wb [46]) (next s) = true
  ·rw [if_pos h1] at hr ⊢
   have h2 : bindP (bindP (kindM 1) fun t => addM ⟨10, t.x, [one], [], (next s).at_⟩) (fun i => postLoop nx n i) (takeS s) = .ok (a, t) := by
    rw [← bindP_three]
    exact hr
   show ∃ t', bindP (kindM 1) (fun t => bindP (addM ⟨10, t.x, [one], [], (next s).at_⟩) fun i => postLoop nx n' i) (takeS s') = .ok (a, t') ∧ Ext e R t t'
   obtain ⟨i, s1, hq, h3⟩ := bindP_inv h2
   obtain ⟨s1', k1, j1⟩ := (X0.bind (X0.kind he (by decide)) fun t => X0.add (x := ⟨10, t.x, [one], [], (next s).at_⟩)) _ _ i s1 (hE.take he hd) hq
   obtain ⟨t', k2, j2⟩ := ih n' i (by omega) s1 s1' a t j1 h3 hl
   refine ⟨t', ?_, j2⟩
   rw [bindP_three, bindP_go k1]
   exact k2
  ·rw [if_neg h1] at hr ⊢
   by_cases h2 : isW (wb [91]) (next s) = true
   ·rw [if_pos h2] at hr ⊢
    unfold bindP at hr ⊢
    cases hq : indexedM nx one (peekS s) with
    | error x => rw [hq] at hr; cases hr
    | ok y =>
     obtain ⟨i, s1⟩ := y
     rw [hq] at hr
     simp only at hr
     obtain ⟨s1', k1, j1⟩ := indexed_ext he hx one _ _ i s1 (hE.peek he hd) hq
     rw [k1]
     exact ih n' i (by omega) s1 s1' a t j1 hr hl
   ·rw [if_neg h2] at hr ⊢
    cases hr
    exact ⟨_, rfl, hE.peek he hd⟩
theorem posted_fp : FP (postedM nx) := FP.bind atom_fp
theorem posted_ext (he : e.k = 0 ∧ e.x = ⟨#[]⟩) (hR : 1 ≤ R.length) (hx : SubX e R nx) : X1 e R (postedM nx) := by
 unfold postedM
 exact X1.bind (atom_ext he hR hx) (fun one s a t hd hr => post_dp _ one s a t hd hr) fun one s s' a t hE hr hl => post_ext he hx _ _ one (by have := hE.len hR; omega) s s' a t hE hr hl
theorem signed_fp : FP (signedM nx) := fun s a t hd hr => by
 unfold signedM at hr
 simp only at hr
 rw [hd.isW (by decide), hd.isW (by decide)] at hr
 exact posted_fp _ a t (Dd.peek.2 hd) hr
theorem X1.deeper {a : Nat} {f : PM Nat × PM Nat → PM α} (h : ∀ q, nx = some q → X1 e R (f q)) : X1 e R (deeperM nx a f) := fun s s' b t hE hr hl => by
 unfold deeperM at hr ⊢
 cases nx with
 | none => cases hr
 | some q => exact h q rfl s s' b t hE hr hl
theorem FP.deeper {a : Nat} {f : PM Nat × PM Nat → PM α} (h : ∀ q, nx = some q → FP (f q)) : FP (deeperM nx a f) := fun s b t hd hr => by
 unfold deeperM at hr
 cases nx with
 | none => cases hr
 | some q => exact h q rfl s b t hd hr
theorem signed_ext (he : e.k = 0 ∧ e.x = ⟨#[]⟩) (hR : 1 ≤ R.length) (hx : SubX e R nx) : X1 e R (signedM nx) := fun s s' a t hE hr hl => by
 have hd : ¬ Dd s := fun hd => signed_fp s a t hd hr
 unfold signedM at hr ⊢
 simp only at hr ⊢
 rw [hE.next he hd]
 by_cases h1 : isW (wb [33]) (next s) = true
 ·rw [if_pos h1] at hr ⊢
  exact (X1.bind (X1.deeper fun q hq => (hx q hq).2.1) (fun i => DP.add) fun i => X0.add.x1) _ _ _ _ (hE.take he hd) hr hl
 ·rw [if_neg h1] at hr ⊢
  by_cases h2 : isW (wb [45]) (next s) = true
  ·rw [if_pos h2] at hr ⊢
   exact (X1.bind (X1.deeper fun q hq => (hx q hq).2.1) (fun i => DP.add) fun i => X0.add.x1) _ _ _ _ (hE.take he hd) hr hl
  ·rw [if_neg h2] at hr ⊢
   exact posted_ext he hR hx _ _ _ _ (hE.peek he hd) hr hl
theorem joinLoop_dp {sub : PM Nat} {lv : Nat} : ∀ (n left : Nat), DP (joinLoop sub lv n left)
 | 0, left => fun s a t hd hr => by cases hr
 | n + 1, left => fun s a t hd hr => by
  unfold joinLoop at hr
  rw [if_neg (fun h => joins_k4 h.1 hd.1)] at hr
  cases hr
  exact Dd.peek.2 hd
theorem joinLoop_ext (he : e.k = 0 ∧ e.x = ⟨#[]⟩) {sub : PM Nat} {lv : Nat} (hx : X1 e R sub) : ∀ (n n' left : Nat), n ≤ n' → ∀ s s' a t, Ext e R s s' → joinLoop sub lv n left s = .ok (a, t) → ¬ Dd t → ∃ t', joinLoop sub lv n' left s' = .ok (a, t') ∧ Ext e R t t' := by
 intro n
 induction n with
 | zero => intro n' left _ s s' a t _ hr; cases hr
 | succ n ih =>
  intro n' left hn s s' a t hE hr hl
  obtain ⟨n', rfl⟩ : ∃ k, n' = k + 1 := ⟨n' - 1, by omega⟩
  have hd : ¬ Dd s := fun hd => hl (joinLoop_dp (n + 1) left s a t hd hr)
  unfold joinLoop at hr ⊢
  rw [hE.next he hd]
  by_cases h1 : lowK lv ≤ joinsT (next s) ∧ joinsT (next s) ≤ topK lv
  ·rw [if_pos h1] at hr ⊢
   rw [bindP_three] at hr ⊢
   obtain ⟨i, s1, hq, h3⟩ := bindP_inv hr
   obtain ⟨s1', k1, j1⟩ := (X1.bind hx (fun right => DP.add) fun right => (X0.add (x := ⟨joinsT (next s), ⟨#[]⟩, [left, right], [], (next s).at_⟩)).x1) _ _ i s1 (hE.take he hd) hq (fun hD => hl (joinLoop_dp n i s1 a t hD h3))
   obtain ⟨t', k2, j2⟩ := ih n' i (by omega) s1 s1' a t j1 h3 hl
   refine ⟨t', ?_, j2⟩
   rw [bindP_go k1]
   exact k2
  ·rw [if_neg h1] at hr ⊢
   cases hr
   exact ⟨_, rfl, hE.peek he hd⟩
theorem joined_fp : ∀ n, FP (joinedM nx n)
 | 0 => signed_fp
 | n + 1 => FP.bind (joined_fp n)
theorem joined_ext (he : e.k = 0 ∧ e.x = ⟨#[]⟩) (hR : 1 ≤ R.length) (hx : SubX e R nx) : ∀ n, X1 e R (joinedM nx n)
 | 0 => signed_ext he hR hx
 | n + 1 => by
  unfold joinedM
  exact X1.bind (joined_ext he hR hx n) (fun left s a t hd hr => joinLoop_dp _ left s a t hd hr) fun left s s' a t hE hr hl => joinLoop_ext he (joined_ext he hR hx n) _ _ left (by have := hE.len hR; omega) s s' a t hE hr hl
theorem expr_fp : FP (exprM nx) := FP.bind (joined_fp 6)
theorem expr_ext (he : e.k = 0 ∧ e.x = ⟨#[]⟩) (hR : 1 ≤ R.length) (hx : SubX e R nx) : X1 e R (exprM nx) := by
 unfold exprM
 have hD : ∀ first : Nat, DP (fun s => if isW (wb [63]) (next s) then bindP (deeperM nx (next s).at_ fun p => bindP p.1 fun i => bindP (wantM (wb [58])) fun _ => bindP p.1 fun j s => .ok ([first, i, j], s))
   (fun l => addM ⟨28, ⟨#[]⟩, l, [], (next s).at_⟩) (takeS s)
  else .ok (first, peekS s)) := fun first s a t hd hr => by
  simp only at hr
  rw [hd.isW (by decide)] at hr
  cases hr
  exact Dd.peek.2 hd
 refine X1.bind (joined_ext he hR hx 6) hD fun first s s' a t hE hr hl => ?_
 have hd : ¬ Dd s := fun hd => hl (hD first s a t hd hr)
 rw [hE.next he hd]
 by_cases h1 : isW (wb [63]) (next s) = true
 ·rw [if_pos h1] at hr ⊢
  exact (X1.bind (X1.deeper fun q hq => X1.bind (hx q hq).1.1 (fun i => (FP.bind (FP.want (by decide))).dp) fun i => X0.bind1 (X0.want he (by decide)) fun _ => X1.bind (hx q hq).1.1 (fun j => DP.pure) fun j => X0.pure.x1) (fun l => DP.add) fun l => X0.add.x1) _ _ _ _ (hE.take he hd) hr hl
 ·rw [if_neg h1] at hr ⊢
  cases hr
  exact ⟨_, rfl, hE.peek he hd⟩
end
theorem sub_ext {e : Tk} {R : List Tk} (he : e.k = 0 ∧ e.x = ⟨#[]⟩) (hR : 1 ≤ R.length) : ∀ d, SubX e R (subP d) := by
 intro d
 induction d with
 | zero => intro q hq; cases hq
 | succ d ih =>
  intro q hq
  simp only [subP, Option.some.injEq] at hq
  subst hq
  exact ⟨⟨expr_ext he hR ih, expr_fp⟩, ⟨signed_ext he hR ih, signed_fp⟩⟩
end Go.Proofs.YtljgggohjigaoaaGreatDoor
namespace Go.Proofs.YtljgggohjigaoaaGreatDoor
set_option linter.unusedVariables false

section
variable {e : Tk} {R : List Tk} {α β σ : Type} {s s' : Ps} {nx : Sub}
theorem labels_dp : ∀ (n : Nat) (l : List ByteArray), DP (labelsM n l)
 | 0, l => fun s a t hd hr => by cases hr
 | n + 1, l => fun s a t hd hr => by
  unfold labelsM at hr
  rw [if_neg (by rw [hd.1]; decide)] at hr
  cases hr
  exact Dd.peek.2 hd
theorem labels_ext (he : e.k = 0 ∧ e.x = ⟨#[]⟩) : ∀ (n n' : Nat) (l : List ByteArray), n ≤ n' → ∀ s s' a t, Ext e R s s' → labelsM n l s = .ok (a, t) → ¬ Dd t → ∃ t', labelsM n' l s' = .ok (a, t') ∧ Ext e R t t' := by
 intro n
 induction n with
 | zero => intro n' l _ s s' a t _ hr; cases hr
 | succ n ih =>
  intro n' l hn s s' a t hE hr hl
  obtain ⟨n', rfl⟩ : ∃ k, n' = k + 1 := ⟨n' - 1, by omega⟩
  have hd : ¬ Dd s := fun hd => hl (labels_dp (n + 1) l s a t hd hr)
  unfold labelsM at hr ⊢
  rw [hE.next he hd]
  by_cases h1 : (next s).k = 3
  ·rw [if_pos h1] at hr ⊢
   obtain ⟨b, s1, hq, h3⟩ := bindP_inv hr
   obtain ⟨s1', k1, j1⟩ := plain_ext he (hE.peek he hd) (by rw [next_peek]; exact h1) hq
   obtain ⟨t', k2, j2⟩ := ih n' _ (by omega) s1 s1' a t j1 h3 hl
   refine ⟨t', ?_, j2⟩
   rw [bindP_go k1]
   exact k2
  ·rw [if_neg h1] at hr ⊢
   cases hr
   exact ⟨_, rfl, hE.peek he hd⟩
theorem items_dp {rd : Tk → σ → PM σ} : ∀ (n : Nat) (x : σ), DP (itemsLoop rd n x)
 | 0, x => fun s a t hd hr => by cases hr
 | n + 1, x => fun s a t hd hr => by
  unfold itemsLoop at hr
  rw [if_neg (by rw [hd.1]; decide)] at hr
  cases hr
  exact Dd.peek.2 hd
theorem itemsLoop_ext (he : e.k = 0 ∧ e.x = ⟨#[]⟩) {rd : Tk → σ → PM σ} (hx : ∀ t x, X1 e R (rd t x)) : ∀ (n n' : Nat) (x : σ), n ≤ n' → ∀ s s' a t, Ext e R s s' → itemsLoop rd n x s = .ok (a, t) → ¬ Dd t → ∃ t', itemsLoop rd n' x s' = .ok (a, t') ∧ Ext e R t t' := by
 intro n
 induction n with
 | zero => intro n' x _ s s' a t _ hr; cases hr
 | succ n ih =>
  intro n' x hn s s' a t hE hr hl
  obtain ⟨n', rfl⟩ : ∃ k, n' = k + 1 := ⟨n' - 1, by omega⟩
  have hd : ¬ Dd s := fun hd => hl (items_dp (n + 1) x s a t hd hr)
  unfold itemsLoop at hr ⊢
  rw [hE.next he hd]
  by_cases h1 : (next s).k = 1
  ·rw [if_pos h1] at hr ⊢
   obtain ⟨b, s1, hq, h3⟩ := bindP_inv hr
   obtain ⟨c, s2, hq2, h4⟩ := bindP_inv h3
   have hd2 : ¬ Dd s2 := fun hD => by
    cases c with
    | true => exact hl (items_dp n b s2 a t hD h4)
    | false => cases h4; exact hl hD
   obtain ⟨s1', k1, j1⟩ := hx _ _ _ _ b s1 (hE.take he hd) hq (fun hD => hd2 (DP.lines s1 c s2 hD hq2))
   obtain ⟨s2', k2, j2⟩ := X1.lines he s1 s1' c s2 j1 hq2 hd2
   rw [bindP_go k1, bindP_go k2]
   cases c with
   | true => exact ih n' b (by omega) s2 s2' a t j2 h4 hl
   | false =>
    cases h4
    exact ⟨_, rfl, j2⟩
  ·rw [if_neg h1] at hr ⊢
   cases hr
   exact ⟨_, rfl, hE.peek he hd⟩
theorem items_ext (he : e.k = 0 ∧ e.x = ⟨#[]⟩) (hR : 1 ≤ R.length) {rd : Tk → σ → PM σ} (hx : ∀ t x, X1 e R (rd t x)) (x : σ) : X1 e R (itemsM rd x) := by
 unfold itemsM
 exact X1.bind (X1.lines he) (fun _ s a t hd hr => items_dp _ x s a t hd hr) fun _ s s' a t hE hr hl => itemsLoop_ext he hx _ _ x (by have := hE.len hR; omega) s s' a t hE hr hl
theorem X0.addB {b : Bl} : X0 e R (addB b) := fun s s' a t hx hr => by
 unfold Go.Proofs.YtljgggohjigaoaaGreatDoor.addB at hr ⊢
 cases hr
 rw [hx.f]
 exact ⟨_, rfl, hx.toks, hx.over, rfl⟩
theorem itemE_ext (he : e.k = 0 ∧ e.x = ⟨#[]⟩) {ex : PM Nat} {bk : Tk → PM Nat} (hx : X1 e R ex) (hf : FP ex) (hb : ∀ t, X0 e R (bk t)) (hbf : ∀ t, FP (bk t)) (n : Tk) (b : Bl) : X1 e R (itemE ex bk n b) := by
 unfold itemE
 refine X1.bind (X1.skip he (by decide)) (fun eq => ?_) fun eq => ?_
 ·cases eq with
  | true => exact (FP.bind hf).dp
  | false => exact (FP.bind (hbf n)).dp
 ·cases eq with
  | true => exact X1.bind hx (fun i => DP.pure) fun i => X0.pure.x1
  | false => exact (X0.bind (hb n) fun i => X0.pure).x1
theorem rest_fp {d : Nat} {t : Tk} {ls : List ByteArray} : FP (restB d t ls) := FP.bind (FP.between (by decide))
theorem block_fp (d : Nat) (t : Tk) : FP (blockM d t) := fun s a r hd hr => by
 rw [block_eq] at hr
 exact FP.bind2 (labels_dp _ _) (fun ls => rest_fp) s a r hd hr
theorem block_ext (he : e.k = 0 ∧ e.x = ⟨#[]⟩) (hR : 1 ≤ R.length) : ∀ (d : Nat) (t : Tk), X0 e R (blockM d t) := by
 intro d
 induction d with
 | zero =>
  intro t s s' a r hE hr
  rw [block_eq] at hr ⊢
  obtain ⟨ls, s1, hq, h3⟩ := bindP_inv hr
  obtain ⟨s1', k1, j1⟩ := labels_ext he _ (s'.toks.length + 1) [] (by have := hE.len hR; omega) s s' ls s1 hE hq (fun hD => rest_fp s1 a r hD h3)
  rw [bindP_go k1]
  have hB : X0 e R (restB 0 t ls) := by
   unfold restB
   refine X0.bind (X0.between he (by decide) (by decide) fun q hq => ?_) fun r => X0.addB
   cases hq
  exact hB _ _ _ _ j1 h3
 | succ d ih =>
  intro t s s' a r hE hr
  rw [block_eq] at hr ⊢
  obtain ⟨ls, s1, hq, h3⟩ := bindP_inv hr
  obtain ⟨s1', k1, j1⟩ := labels_ext he _ (s'.toks.length + 1) [] (by have := hE.len hR; omega) s s' ls s1 hE hq (fun hD => rest_fp s1 a r hD h3)
  rw [bindP_go k1]
  have hB : X0 e R (restB (d + 1) t ls) := by
   unfold restB
   refine X0.bind (X0.between he (by decide) (by decide) fun q hq => ?_) fun r => X0.addB
   unfold bodyE
   exact items_ext he hR (fun n b => itemE_ext he (expr_ext he hR (sub_ext he hR d)) expr_fp ih (block_fp d) n b) _
  exact hB _ _ _ _ j1 h3
end
end Go.Proofs.YtljgggohjigaoaaGreatDoor
namespace Go.Proofs.YtljgggohjigaoaaGreatDoor
set_option linter.unusedVariables false

section
variable {e ln : Tk} {X : List Tk} {α β σ : Type} {s s' : Ps}
theorem dropLines (l Y : List Tk) (h : l.dropWhile isLine = []) : (l ++ Y).dropWhile isLine = Y.dropWhile isLine := by
 induction l with
 | nil => rfl
 | cons t r ih =>
  rw [List.dropWhile_cons] at h
  rw [List.cons_append, List.dropWhile_cons]
  split
  ·rename_i hl
   rw [if_pos hl] at h
   exact ih h
  ·rename_i hl
   rw [if_neg hl] at h
   cases h
theorem lines_keep {c : Bool} {t : Ps} (h : linesM s = .ok (c, t)) : t.over = s.over ∧ t.f = s.f := by
 unfold linesM at h
 cases h
 exact ⟨rfl, rfl⟩
theorem Dd.head (h : Dd s) (ho : s.over = false) : (headT s.toks).k = 0 := by
 have h1 := h.1
 unfold next peekL at h1
 rw [ho] at h1
 exact h1
theorem ext_k0 {R : List Tk} (h : Ext e R s s') (he : e.k = 0 ∧ e.x = ⟨#[]⟩) (hd : ¬ Dd s) : (next s).k ≠ 0 := by
 obtain ⟨t, r, h1, -, h3⟩ := h.live he hd
 have : next s = t := by unfold next headT; rw [h1]; rfl
 rw [this]
 exact h3 t List.mem_cons_self
theorem lines_join (hln : isLine ln = true) (hE : Ext e (ln :: X) s s') (ho : s.over = false) {c : Bool} {t : Ps} (h : linesM s = .ok (c, t)) (hD : Dd t) : linesM s' = .ok (true, ⟨X.dropWhile isLine, false, s.f⟩) := by
 obtain ⟨l, h1, h2, h3⟩ := hE.toks
 have hh := hD.head ((lines_keep h).1.trans ho)
 have hl : l.dropWhile isLine = [] := by
  unfold linesM linesL at h
  rw [h1, ho] at h
  simp only [peekL, Bool.false_eq_true, if_false] at h
  cases l with
  | nil => rfl
  | cons a r =>
   have hn : ((a :: r) ++ [e]).isEmpty = false := rfl
   have hd : headT ((a :: r) ++ [e]) = a := rfl
   rw [hn, hd] at h
   by_cases ha : isLine a = true
   ·rw [ha] at h
    cases h
    simp only [Bool.not_false, Bool.and_self, if_true] at hh
    cases hz : (a :: r).dropWhile isLine with
    | nil => rfl
    | cons b q =>
     rw [drop_app _ [e] (by rw [hz]; exact List.cons_ne_nil _ _), hz] at hh
     exact absurd hh (h3 b ((List.dropWhile_suffix isLine).subset (by rw [hz]; exact List.mem_cons_self)))
   ·rw [Bool.not_eq_true] at ha
    rw [ha] at h
    cases h
    simp only [Bool.false_and, Bool.false_eq_true, if_false] at hh
    exact absurd hh (h3 a List.mem_cons_self)
 unfold linesM linesL
 rw [h2, hE.over, ho]
 simp only [peekL, Bool.false_eq_true, if_false]
 have hc : (isLine (headT (l ++ ln :: X)) && !(l ++ ln :: X).isEmpty) = true := by
  cases l with
  | nil =>
   show (isLine ln && true) = true
   rw [hln]; rfl
  | cons a r =>
   show (isLine a && true) = true
   rw [List.dropWhile_cons] at hl
   split at hl
   ·rename_i ha
    rw [ha]; rfl
   ·cases hl
 rw [if_pos hc, dropLines _ _ hl, List.dropWhile_cons, if_pos hln, hE.f]
theorem itemsLoop_succ (rd : Tk → σ → PM σ) (n : Nat) (x : σ) (s : Ps) : itemsLoop rd (n + 1) x s = if (next s).k = 1 then
   bindP (rd (next s) x) (fun x' => bindP linesM fun l s' => if l then itemsLoop rd n x' s' else .ok (x', s')) (takeS s)
  else .ok (x, peekS s) := rfl
theorem loop_join (he : e.k = 0 ∧ e.x = ⟨#[]⟩) (hln : isLine ln = true) {rd : Tk → σ → PM σ} (hx : ∀ t x, X0 e (ln :: X) (rd t x)) (hov : ∀ t x s a s1, rd t x s = .ok (a, s1) → s1.over = s.over) (hs : ∀ t x, Dec 24 0 (rd t x)) :
  ∀ (n m : Nat) (x : σ) (s s' : Ps) (a : σ) (z : Ps), Ext e (ln :: X) s s' → s.over = false → Snd 24 s.toks → s.toks.length + 1 ≤ n → ¬ Dd s → itemsLoop rd n x s = .ok (a, z) → (next z).k = 0 →
  ∃ j, 1 ≤ j ∧ itemsLoop rd (m + n) x s' = itemsLoop rd (m + j) a ⟨X.dropWhile isLine, false, z.f⟩ := by
 intro n
 induction n with
 | zero => intro m x s s' a z _ _ _ _ _ hr; cases hr
 | succ n ih =>
  intro m x s s' a z hE ho hS hn hd hr hz
  have e0 : m + (n + 1) = (m + n) + 1 := rfl
  rw [itemsLoop_succ] at hr
  rw [e0, itemsLoop_succ, hE.next he hd]
  by_cases h1 : (next s).k = 1
  ·rw [if_pos h1] at hr ⊢
   obtain ⟨b, s1, hq, h3⟩ := bindP_inv hr
   obtain ⟨c, s2, hq2, h4⟩ := bindP_inv h3
   obtain ⟨s1', k1, j1⟩ := hx _ _ _ _ b s1 (hE.take he hd) hq
   have hS0 := hS.sfx (take_sfx s)
   have f1 := (hs _ _ (takeS s) hS0 b s1 hq).1
   have hS1 := hS0.sfx f1
   have ho1 : s1.over = false := (hov _ _ _ _ _ hq).trans ho
   have f2 := (Dec.lines s1 hS1 c s2 hq2).1
   have hS2 := hS1.sfx f2
   have kp := lines_keep hq2
   obtain ⟨t0, r0, e1, -, -⟩ := hE.live he hd
   have e2 : (takeS s).toks = r0 ++ [e] := by unfold takeS; simp only; rw [e1]; rfl
   have e3 := (peekL_sfx s.over s.toks).length_le
   have e4 := f1.length_le
   have e5 := f2.length_le
   rw [e1] at e3
   rw [e2] at e4
   simp only [List.length_append, List.length_cons, List.length_nil] at e3 e4
   rw [bindP_go k1]
   by_cases hd2 : Dd s2
   ·have hJ := lines_join hln j1 ho1 hq2 hd2
    rw [bindP_go hJ]
    have hab : a = b ∧ z.f = s1.f := by
     cases c with
     | true =>
      rw [if_pos rfl] at h4
      cases n with
      | zero => cases h4
      | succ n =>
       rw [itemsLoop_succ, if_neg (by rw [hd2.1]; decide)] at h4
       cases h4
       exact ⟨rfl, kp.2⟩
     | false =>
      rw [if_neg (by decide)] at h4
      cases h4
      exact ⟨rfl, kp.2⟩
    refine ⟨n, by omega, ?_⟩
    rw [if_pos rfl, hab.1, hab.2]
   ·obtain ⟨s2', k2, j2⟩ := X1.lines he s1 s1' c s2 j1 hq2 hd2
    rw [bindP_go k2]
    cases c with
    | true => exact ih m b s2 s2' a z j2 (kp.1.trans ho1) hS2 (by omega) hd2 h4 hz
    | false =>
     rw [if_neg (by decide)] at h4
     cases h4
     exact absurd hz (ext_k0 j2 he hd2)
  ·rw [if_neg h1] at hr
   cases hr
   rw [next_peek] at hz
   exact absurd hz (ext_k0 hE he hd)
theorem loop_fuel {rd : Tk → σ → PM σ} : ∀ (n m : Nat) (x : σ) (s : Ps) (r : σ × Ps), n ≤ m → itemsLoop rd n x s = .ok r → itemsLoop rd m x s = .ok r := by
 intro n
 induction n with
 | zero => intro m x s r _ hr; cases hr
 | succ n ih =>
  intro m x s r hm hr
  obtain ⟨m, rfl⟩ : ∃ k, m = k + 1 := ⟨m - 1, by omega⟩
  rw [itemsLoop_succ] at hr ⊢
  by_cases h1 : (next s).k = 1
  ·rw [if_pos h1] at hr ⊢
   obtain ⟨b, s1, hq, h3⟩ := bindP_inv hr
   obtain ⟨c, s2, hq2, h4⟩ := bindP_inv h3
   rw [bindP_go hq, bindP_go hq2]
   cases c with
   | true => exact ih m b s2 r (by omega) h4
   | false => exact h4
  ·rw [if_neg h1] at hr ⊢
   exact hr
end
end Go.Proofs.YtljgggohjigaoaaGreatDoor
namespace Go.Proofs.YtljgggohjigaoaaGreatDoor
set_option linter.unusedVariables false

def Ov {α : Type} (M : PM α) : Prop := ∀ s a t, M s = .ok (a, t) → t.over = s.over
section
variable {e ln : Tk} {X : List Tk} {α β σ : Type} {s s' : Ps}
theorem Ov.bind {m : PM β} {k : β → PM α} (hm : Ov m) (hk : ∀ b, Ov (k b)) : Ov (bindP m k) := fun s a t h => by
 obtain ⟨b, s1, h1, h2⟩ := bindP_inv h
 exact (hk b s1 a t h2).trans (hm s b s1 h1)
theorem Ov.want {w : ByteArray} : Ov (wantM w) := fun s a t h => by
 unfold wantM at h
 split at h
 ·cases h; rfl
 ·cases h
theorem Ov.plain : Ov plainM := fun s a t h => by
 unfold plainM at h
 simp only at h
 split at h
 ·cases h
 ·split at h
  ·cases h
  ·split at h
   ·cases h
   ·cases h; rfl
theorem Ov.labels : ∀ (n : Nat) (l : List ByteArray), Ov (labelsM n l)
 | 0, l => fun s a t h => by cases h
 | n + 1, l => fun s a t h => by
  unfold labelsM at h
  split at h
  ·exact Ov.bind Ov.plain (fun t => Ov.labels n _) (peekS s) a t h
  ·cases h; rfl
theorem Ov.between {nx : Sub} {b en : ByteArray} {o : Bool} {f : PM Nat × PM Nat → PM α} : Ov (betweenM b en o nx f) := by
 unfold betweenM
 refine Ov.bind Ov.want fun tk s a t h => ?_
 unfold deeperM at h
 cases nx with
 | none => cases h
 | some q =>
  simp only at h
  split at h
  ·cases h
  ·split at h
   ·cases h
   ·cases h; rfl
theorem Ov.block (d : Nat) (t : Tk) : Ov (blockM d t) := fun s a r h => by
 rw [block_eq] at h
 refine Ov.bind (Ov.labels _ _) (fun ls => ?_) s a r h
 unfold restB
 refine Ov.bind Ov.between fun r s a t h => ?_
 unfold addB at h
 cases h; rfl
theorem lines_two (l : List Tk) : (linesL false l).2 = l.dropWhile isLine := by
 unfold linesL
 simp only [peekL, Bool.false_eq_true, if_false]
 cases l with
 | nil => rfl
 | cons a r =>
  show (if (isLine a && true) = true then (true, (a :: r).dropWhile isLine) else (false, a :: r)).2 = _
  by_cases ha : isLine a = true
  ·rw [ha]; rfl
  ·rw [if_neg (by rw [Bool.and_true]; exact ha), List.dropWhile_cons, if_neg ha]
theorem items_join (he : e.k = 0 ∧ e.x = ⟨#[]⟩) (hln : isLine ln = true) {rd : Tk → σ → PM σ} (hx : ∀ t x, X0 e (ln :: X) (rd t x)) (hov : ∀ t x, Ov (rd t x)) (hs : ∀ t x, Dec 24 0 (rd t x))
  {x a b : σ} {z zb : Ps} (hE : Ext e (ln :: X) s s') (ho : s.over = false) (hS : Snd 24 s.toks) (hr : itemsM rd x s = .ok (a, z)) (hz : (next z).k = 0) (hB : itemsM rd a ⟨X, false, z.f⟩ = .ok (b, zb)) : itemsM rd x s' = .ok (b, zb) := by
 unfold itemsM at hr hB ⊢
 obtain ⟨c, s1, hq, h3⟩ := bindP_inv hr
 obtain ⟨cB, sB, hqB, h3B⟩ := bindP_inv hB
 have hsB : sB = ⟨X.dropWhile isLine, false, z.f⟩ := by
  unfold linesM at hqB
  cases hqB
  rw [lines_two]
 rw [hsB] at h3B
 have kp := lines_keep hq
 by_cases hd : Dd s1
 ·rw [itemsLoop_succ, if_neg (by rw [hd.1]; decide)] at h3
  cases h3
  rw [bindP_go (lines_join hln hE ho hq hd), ← kp.2]
  exact h3B
 ·obtain ⟨s1', k1, j1⟩ := X1.lines he s s' c s1 hE hq hd
  have hS1 := hS.sfx (Dec.lines s hS c s1 hq).1
  rw [bindP_go k1]
  obtain ⟨j, hj, hf⟩ := loop_join he hln hx hov hs (s1.toks.length + 1) X.length x s1 s1' a z j1 (kp.1.trans ho) hS1 (Nat.le_refl _) hd h3 hz
  have hlen : s1'.toks.length + 1 = X.length + (s1.toks.length + 1) := by
   obtain ⟨l, h1, h2, -⟩ := j1.toks
   rw [h1, h2]
   simp only [List.length_append, List.length_cons, List.length_nil]
   omega
  rw [hlen, hf]
  exact loop_fuel _ _ _ _ _ (by have := (List.dropWhile_suffix (l := X) isLine).length_le; simp only; omega) h3B
abbrev topJ (n : Tk) (_ : Unit) : PM Unit := bindP (blockM 24 n) fun i s => .ok ((), { s with f := { s.f with top := s.f.top ++ [i] } })
theorem whole_parts : wholeM = bindP (itemsM topJ ()) fun _ => bindP (kindM 0) fun _ s => .ok ((), s) := rfl
theorem whole_inv {s t : Ps} {u : Unit} (h : wholeM s = .ok (u, t)) : ∃ z, itemsM topJ () s = .ok ((), z) ∧ (next z).k = 0 ∧ t = takeS z := by
 rw [whole_parts] at h
 obtain ⟨a, z, h1, h2⟩ := bindP_inv h
 obtain ⟨b, z2, h3, h4⟩ := bindP_inv h2
 cases h4
 unfold kindM at h3
 split at h3
 ·rename_i hk
  cases h3
  exact ⟨z, h1, hk, rfl⟩
 ·cases h3
theorem whole_go {s z : Ps} (h : itemsM topJ () s = .ok ((), z)) (hk : (next z).k = 0) : wholeM s = .ok ((), takeS z) := by
 rw [whole_parts, bindP_go h]
 have : kindM 0 z = .ok (next z, takeS z) := by unfold kindM; rw [if_pos hk]
 rw [bindP_go this]
theorem whole_join (he : e.k = 0 ∧ e.x = ⟨#[]⟩) (hln : isLine ln = true) {la : List Tk} {f : Fi} {sA sB : Ps} {u v : Unit} (hla : ∀ t ∈ la, t.k ≠ 0) (hS : Snd 24 (la ++ [e])) (hA : wholeM ⟨la ++ [e], false, f⟩ = .ok (u, sA)) (hB : wholeM ⟨X, false, sA.f⟩ = .ok (v, sB)) : wholeM ⟨la ++ ln :: X, false, f⟩ = .ok ((), sB) := by
 obtain ⟨z, h1, h2, h3⟩ := whole_inv hA
 obtain ⟨y, h4, h5, h6⟩ := whole_inv hB
 rw [h6]
 refine whole_go ?_ h5
 rw [h3] at h4
 refine items_join (s := ⟨la ++ [e], false, f⟩) he hln (fun t x => ?_) (fun t x => ?_) (fun t x => ?_) ⟨⟨la, rfl, rfl, hla⟩, rfl, rfl⟩ rfl hS h1 h2 h4
 ·refine X0.bind (block_ext he (by simp) 24 t) fun i s s' a t hx hr => ?_
  cases hr
  rw [hx.f]
  exact ⟨_, rfl, hx.toks, hx.over, rfl⟩
 ·refine Ov.bind (Ov.block 24 t) fun i s a t h => ?_
  cases h; rfl
 ·exact Dec.mono (c := 0 + 0) (e := 0) (Dec.bind (c := 0) (e := 0) (block_dec 24 t) fun i s hS => Res.ok (List.suffix_refl _) (by show (pot s : Int) + 0 ≤ pot s; omega)) (by omega)
end
end Go.Proofs.YtljgggohjigaoaaGreatDoor
namespace Go.Proofs.YtljgggohjigaoaaGreatDoor
set_option linter.unusedVariables false

theorem parse_inv {t : ByteArray} {l : List Tk} {f : Fi} (hl : scanL t = .ok l) (h : parseF t = .ok f) : ∃ s, wholeM (⟨l ++ [endT t.size], false, ⟨[], [], []⟩⟩ : Ps) = .ok ((), s) ∧ s.f = f := by
 unfold parseF at h
 rw [hl] at h
 simp only at h
 cases hw : wholeM (⟨l ++ [endT t.size], false, ⟨[], [], []⟩⟩ : Ps) with
 | error e => rw [hw] at h; cases h
 | ok y =>
  rw [hw] at h
  cases h
  exact ⟨y.2, rfl, rfl⟩
theorem parse_go {t : ByteArray} {l : List Tk} {s : Ps} (hl : scanL t = .ok l) (h : wholeM (⟨l ++ [endT t.size], false, ⟨[], [], []⟩⟩ : Ps) = .ok ((), s)) : parseF t = .ok s.f := by
 unfold parseF
 rw [hl]
 simp only
 rw [h]
theorem shF_none (p : Nat) (f : Fi) : shF p f ⟨[], [], []⟩ = f := by
 unfold shF
 simp only [List.map_nil, List.append_nil]
theorem whole_sh (p : Nat) (f0 : Fi) : Shf p f0 id wholeM wholeM := by
 rw [whole_parts]
 exact Shf.bind (o1 := id) (tops_sh ()) fun _ => Shf.kindThen (Shf.pure rfl)
theorem toks_join {a b ab : ByteArray} {la lb : List Tk} {fa fb : Fi} {ln : Tk} (hla : scanL a = .ok la) (hlb : scanL b = .ok lb) (hln : isLine ln = true) (hab : scanL ab = .ok (la ++ ln :: lb.map (shiftT (a.size + 1))))
  (hsz : ab.size = a.size + 1 + b.size) (ha : parseF a = .ok fa) (hb : parseF b = .ok fb) : parseF ab = .ok (shF (a.size + 1) fa fb) := by
 obtain ⟨sA, wA, eA⟩ := parse_inv hla ha
 obtain ⟨sB, wB, eB⟩ := parse_inv hlb hb
 have hS := scan_snd 24 a.size 0 hla
 rw [shift0] at hS
 have hW := whole_sh (a.size + 1) fa _ _ _ wB
 have e1 : shS (a.size + 1) fa (⟨lb ++ [endT b.size], false, ⟨[], [], []⟩⟩ : Ps) = ⟨(lb ++ [endT b.size]).map (shiftT (a.size + 1)), false, sA.f⟩ := by
  unfold shS
  simp only
  rw [shF_none, eA]
 rw [e1] at hW
 have hJ := whole_join (e := endT a.size) ⟨rfl, rfl⟩ hln (scan_wt hla).2 hS wA hW
 have e2 : la ++ ln :: (lb ++ [endT b.size]).map (shiftT (a.size + 1)) = (la ++ ln :: lb.map (shiftT (a.size + 1))) ++ [endT ab.size] := by
  rw [hsz]
  simp only [List.map_append, List.map_cons, List.map_nil, List.append_assoc, List.cons_append, shiftT, endT]
  rw [Nat.add_comm b.size]
 rw [e2] at hJ
 rw [parse_go hab hJ, ← eB]
 rfl
end Go.Proofs.YtljgggohjigaoaaGreatDoor
namespace Go.Proofs.YtljgggohjigaoaaGreatDoor
open Go.RowKit
set_option linter.unusedVariables false

structure Stood (c : UInt8) (R : List UInt8) (k : Int) (x R' : List UInt8) : Prop where
 fin : R' <:+ R
 kind : k ≠ 0
 less : R'.length < R.length
 plain : k ≠ 3 → x = R.take x.length ∧ R'.length + x.length ≤ R.length
 text : k = 3 → (c = 60 ∧ R'.length + 5 ≤ R.length) ∨ (c ≠ 60 ∧ x = (R.drop 1).take x.length ∧ R'.length + x.length + 1 ≤ R.length)
theorem firstSign_some {R : List UInt8} : ∀ {l : List ByteArray} {s : ByteArray}, firstSign R l = some s → Lib.hasPrefix R s.data.toList = true
 | [], s, h => by cases h
 | y :: l, s, h => by
  unfold firstSign at h
  split at h
  ·cases h; assumption
  ·exact firstSign_some h
end Go.Proofs.YtljgggohjigaoaaGreatDoor
