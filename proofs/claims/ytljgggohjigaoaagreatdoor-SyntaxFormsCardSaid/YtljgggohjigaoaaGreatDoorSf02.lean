/- What the parser makes is used once: its pieces -/
import Derived.Test.YtljgggohjigaoaaGreatDoorSf01
import Derived.Test.YtljgggohjigaoaaGreatDoorSy31
namespace Go.Proofs.YtljgggohjigaoaaGreatDoor
set_option linter.unusedVariables false

/-- How a piece ends: i and j are what it uses, o and p what it hands on. -/
def UAt {α : Type} (N : Nat) (i j : List Nat) (o p : α → List Nat) (Q : α → Prop) (s : Ps) (r : PR α) : Prop := (∀ E B a s', FOk N s.f (i ++ E) (j ++ B) → r = .ok (a, s') → TksOk N s'.toks ∧ FOk N s'.f (o a ++ E) (p a ++ B) ∧ Q a) ∧ ∀ E B bd, FOk N s.f (i ++ E) (j ++ B) → r = .error bd → bd.2 ≤ N
def UTr {α : Type} (N : Nat) (i j : List Nat) (o p : α → List Nat) (Q : α → Prop) (M : PM α) : Prop := ∀ s, TksOk N s.toks → UAt N i j o p Q s (M s)
abbrev no {α : Type} : α → List Nat := fun _ => []
abbrev tr {α : Type} : α → Prop := fun _ => True
section
variable {α β : Type} {N : Nat} {i j i' j' : List Nat} {o p o' p' : α → List Nat} {Q Q' : α → Prop} {s s0 : Ps} {r : PR α}
theorem UAt.err (x : Bd) (hx : x.2 ≤ N) : UAt N i j o p Q s (.error x) := ⟨fun E B a s' _ h => (by cases h), fun E B bd _ h => by cases h; exact hx⟩
theorem UAt.none : UAt N i j o p Q s noneE := ⟨fun E B a s' _ h => (by cases h), fun E B bd _ h => by cases h; exact Nat.zero_le _⟩
theorem UAt.ok {a : α} {s' : Ps} (ht : TksOk N s'.toks) (hf : s'.f = s.f) (ho : o a = i) (hp : p a = j) (hq : Q a) : UAt N i j o p Q s (.ok (a, s')) := ⟨fun E B a' s'' hF h => by
  cases h
  rw [ho, hp, hf]
  exact ⟨ht, hF, hq⟩, fun E B bd _ h => by cases h⟩
theorem UAt.bind {m : PM β} {k : β → PM α} {o1 p1 : β → List Nat} {Q1 : β → Prop} (hm : UAt N i j o1 p1 Q1 s (m s)) (hk : ∀ b s', TksOk N s'.toks → Q1 b → UAt N (o1 b) (p1 b) o p Q s' (k b s')) : UAt N i j o p Q s (bindP m k s) := by
  refine ⟨fun E B a s' hF h => ?_, fun E B bd hF h => ?_⟩
  · unfold bindP at h
    cases hq : m s with
    | error x => rw [hq] at h; cases h
    | ok y =>
      obtain ⟨b, s1⟩ := y
      rw [hq] at h
      obtain ⟨h1, h2, h3⟩ := hm.1 E B b s1 hF hq
      exact (hk b s1 h1 h3).1 E B a s' h2 h
  · unfold bindP at h
    cases hq : m s with
    | error x => rw [hq] at h; cases h; exact hm.2 E B _ hF hq
    | ok y =>
      obtain ⟨b, s1⟩ := y
      rw [hq] at h
      obtain ⟨h1, h2, h3⟩ := hm.1 E B b s1 hF hq
      exact (hk b s1 h1 h3).2 E B bd h2 h
theorem UTr.bind {m : PM β} {k : β → PM α} {o1 p1 : β → List Nat} {Q1 : β → Prop} (hm : UTr N i j o1 p1 Q1 m) (hk : ∀ b, Q1 b → UTr N (o1 b) (p1 b) o p Q (k b)) : UTr N i j o p Q (bindP m k) := fun s hs => UAt.bind (hm s hs) fun b s' h1 h2 => hk b h2 s' h1
theorem UAt.frame (c d : List Nat) (h : UAt N i j o p Q s r) : UAt N (i ++ c) (j ++ d) (fun a => o a ++ c) (fun a => p a ++ d) Q s r := by
  refine ⟨fun E B a s' hF hr => ?_, fun E B bd hF hr => h.2 (c ++ E) (d ++ B) bd (by rw [← List.append_assoc, ← List.append_assoc]; exact hF) hr⟩
  have h1 := h.1 (c ++ E) (d ++ B) a s' (by rw [← List.append_assoc, ← List.append_assoc]; exact hF) hr
  refine ⟨h1.1, ?_, h1.2.2⟩
  have h2 := h1.2.1
  rw [← List.append_assoc, ← List.append_assoc] at h2
  exact h2
theorem UTr.frame {M : PM α} (c d : List Nat) (h : UTr N i j o p Q M) : UTr N (i ++ c) (j ++ d) (fun a => o a ++ c) (fun a => p a ++ d) Q M := fun s hs => (h s hs).frame c d
theorem UAt.conv (h : UAt N i j o p Q s r) (hi : i'.Perm i) (hj : j'.Perm j) (ho : ∀ a, (o a).Perm (o' a)) (hp : ∀ a, (p a).Perm (p' a)) (hq : ∀ a, Q a → Q' a) : UAt N i' j' o' p' Q' s r := by
  refine ⟨fun E B a s' hF hr => ?_, fun E B bd hF hr => h.2 E B bd (hF.perm (hi.append_right E) (hj.append_right B)) hr⟩
  have h1 := h.1 E B a s' (hF.perm (hi.append_right E) (hj.append_right B)) hr
  exact ⟨h1.1, h1.2.1.perm ((ho a).append_right E) ((hp a).append_right B), hq a h1.2.2⟩
theorem UTr.conv {M : PM α} (h : UTr N i j o p Q M) (hi : i'.Perm i) (hj : j'.Perm j) (ho : ∀ a, (o a).Perm (o' a)) (hp : ∀ a, (p a).Perm (p' a)) (hq : ∀ a, Q a → Q' a) : UTr N i' j' o' p' Q' M := fun s hs => (h s hs).conv hi hj ho hp hq
theorem UTr.weak {M : PM α} (h : UTr N i j o p Q M) (hq : ∀ a, Q a → Q' a) : UTr N i j o p Q' M := h.conv (.refl _) (.refl _) (fun _ => .refl _) (fun _ => .refl _) hq
theorem UAt.st (h : UAt N i j o p Q s0 r) (hs : s0.f = s.f) : UAt N i j o p Q s r := ⟨fun E B a s' hF hr => h.1 E B a s' (by rw [hs]; exact hF) hr, fun E B bd hF hr => h.2 E B bd (by rw [hs]; exact hF) hr⟩
theorem UTr.pure {a : α} (ho : o a = i) (hp : p a = j) (hq : Q a) : UTr N i j o p Q (fun s => .ok (a, s)) := fun s hs => UAt.ok hs rfl ho hp hq
end
section
variable {N : Nat} {s : Ps} {t : Tk} {w : ByteArray}
theorem oks_peek (h : TksOk N s.toks) : TksOk N (peekS s).toks := h.sfx (peek_sfx s)
theorem oks_take (h : TksOk N s.toks) : TksOk N (takeS s).toks := h.sfx (take_sfx s)
theorem oks_next (h : TksOk N s.toks) (hk : (next s).k ≠ 0) : TkOk N (next s) := by
  rcases next_mem s with h1 | h1
  · exact h _ h1
  · rw [h1] at hk; exact absurd rfl hk
theorem TkOk.lt (h : TkOk N t) (hk : t.k ≠ 0) : t.at_ < N := by
  have := h.pos
  have := wt_pos hk
  omega
theorem isW_k (h : TksOk N s.toks) (hw : w ≠ ⟨#[]⟩) (hi : isW w (next s) = true) : (next s).k ≠ 0 := fun e => by
  unfold isW at hi
  simp only [Bool.and_eq_true, decide_eq_true_eq] at hi
  rcases next_mem s with h1 | h1
  · exact hw (hi.2.symm.trans ((h _ h1).end_ e))
  · rw [h1] at hi; exact hw hi.2.symm
theorem isW_lt (h : TksOk N s.toks) (hw : w ≠ ⟨#[]⟩) (hi : isW w (next s) = true) : (next s).at_ < N := (oks_next h (isW_k h hw hi)).lt (isW_k h hw hi)
theorem kind_lt (h : TksOk N s.toks) (hk : (next s).k ≠ 0) : (next s).at_ < N := (oks_next h hk).lt hk
theorem next_le (h : TksOk N s.toks) : (next s).at_ ≤ N := by
  rcases next_mem s with h1 | h1
  · have := (h _ h1).pos; omega
  · rw [h1]; exact Nat.zero_le _
theorem UTr.want (hw : w ≠ ⟨#[]⟩) : UTr N [] [] no no (fun t => t.at_ < N) (wantM w) := fun s hs => by
  unfold wantM
  split
  · rename_i hi
    exact UAt.ok (oks_take hs) rfl rfl rfl (isW_lt hs hw hi)
  · exact UAt.err _ (next_le hs)
theorem UTr.kind {k : Int} (hk : k ≠ 0) : UTr N [] [] no no (fun t => t.at_ < N ∧ t.k = k ∧ TkOk N t) (kindM k) := fun s hs => by
  unfold kindM
  split
  · rename_i hi
    have h1 : (next s).k ≠ 0 := by rw [hi]; exact hk
    exact UAt.ok (oks_take hs) rfl rfl rfl ⟨kind_lt hs h1, hi, oks_next hs h1⟩
  · exact UAt.err _ (next_le hs)
theorem UTr.kind0 {k : Int} : UTr N [] [] no no tr (kindM k) := fun s hs => by
  unfold kindM
  split
  · exact UAt.ok (oks_take hs) rfl rfl rfl trivial
  · exact UAt.err _ (next_le hs)
theorem UTr.skip : UTr N [] [] no no tr (skipM w) := fun s hs => by
  unfold skipM
  split
  · exact UAt.ok (oks_take hs) rfl rfl rfl trivial
  · exact UAt.ok (oks_peek hs) rfl rfl rfl trivial
theorem UTr.lines : UTr N [] [] no no tr linesM := fun s hs => UAt.ok (hs.sfx (linesL_sfx _ _)) rfl rfl rfl trivial
theorem UTr.plain : UTr N [] [] no no tr plainM := fun s hs => by
  unfold plainM
  simp only
  split
  · exact UAt.none
  · split
    · exact UAt.err _ (next_le hs)
    · split
      · exact UAt.none
      · exact UAt.ok (oks_take hs) rfl rfl rfl trivial
theorem UTr.add {e : Ex} (hat : e.at_ < N) : UTr N e.args [] (fun i => [i]) no tr (addM e) := fun s hs => ⟨fun E B a s' hF h => by
  unfold addM at h
  cases h
  exact ⟨hs, hF.addE hat, trivial⟩, fun E B bd hF h => by unfold addM at h; cases h⟩
theorem UTr.deeper {α : Type} {i j : List Nat} {o p : α → List Nat} {Q : α → Prop} {nx : Sub} {a : Nat} {f : PM Nat × PM Nat → PM α} (ha : a ≤ N) (h : ∀ q, nx = some q → UTr N i j o p Q (f q)) : UTr N i j o p Q (deeperM nx a f) := fun s hs => by
  unfold deeperM
  cases nx with
  | none => exact UAt.err _ ha
  | some q => exact h q rfl s hs
theorem UTr.between {α : Type} {i j : List Nat} {o p : α → List Nat} {Q : α → Prop} {nx : Sub} {b e : ByteArray} {over : Bool} {f : PM Nat × PM Nat → PM α} (hb : b ≠ ⟨#[]⟩) (he : e ≠ ⟨#[]⟩) (h : ∀ q, nx = some q → UTr N i j o p Q (f q)) :
    UTr N i j (fun r => o r.1) (fun r => p r.1) (fun r => Q r.1 ∧ r.2 < N) (betweenM b e over nx f) := fun s hs => by
  unfold betweenM
  refine UAt.bind (o1 := fun _ => i) (p1 := fun _ => j) (UAt.frame i j (UTr.want hb s hs)) fun t s1 h1 ht => ?_
  unfold deeperM
  cases nx with
  | none => exact UAt.err _ (Nat.le_of_lt ht)
  | some q =>
    simp only
    have hU := h q rfl { s1 with over := over } h1
    refine ⟨fun E B a s' hF hx => ?_, fun E B bd hF hx => ?_⟩
    · cases hq : f q { s1 with over := over } with
      | error x => rw [hq] at hx; cases hx
      | ok y =>
        obtain ⟨x, s2⟩ := y
        rw [hq] at hx
        obtain ⟨h2, h3, h4⟩ := hU.1 E B x s2 hF hq
        simp only at hx
        cases hw : wantM e s2 with
        | error x => rw [hw] at hx; cases hx
        | ok z =>
          obtain ⟨t3, s3⟩ := z
          rw [hw] at hx
          cases hx
          obtain ⟨h5, h6, h7⟩ := (UTr.want (N := N) he s2 h2).1 _ _ _ _ h3 hw
          exact ⟨h5, h6, h4, ht⟩
    · cases hq : f q { s1 with over := over } with
      | error x => rw [hq] at hx; cases hx; exact hU.2 E B _ hF hq
      | ok y =>
        obtain ⟨x, s2⟩ := y
        rw [hq] at hx
        obtain ⟨h2, h3, h4⟩ := hU.1 E B x s2 hF hq
        simp only at hx
        cases hw : wantM e s2 with
        | error x => rw [hw] at hx; cases hx; exact (UTr.want (N := N) he s2 h2).2 _ _ _ h3 hw
        | ok z => rw [hw] at hx; cases hx
end
/-- What all deeper levels do. -/
def SubU (N : Nat) (nx : Sub) : Prop := ∀ q, nx = some q → UTr N [] [] (fun i => [i]) no tr q.1 ∧ UTr N [] [] (fun i => [i]) no tr q.2
section
variable {N : Nat} {nx : Sub} {s : Ps}
theorem inserted_use (hx : SubU N nx) {R : List UInt8} {a : Nat} (h3 : 3 ≤ R.length) (ha : a + R.length ≤ N) : UTr N [] [] (fun i => [i]) no tr (insertedM nx R a) := fun s hs => by
  unfold insertedM deeperM
  cases nx with
  | none => exact UAt.err _ (by show a ≤ N; omega)
  | some q =>
    simp only
    have hsz : (bA ((R.drop 2).take (R.length - 3))).size = R.length - 3 := by
      show ((R.drop 2).take (R.length - 3)).toArray.size = _
      rw [List.size_toArray, List.length_take, List.length_drop]
      omega
    cases hsc : scanL (bA ((R.drop 2).take (R.length - 3))) with
    | error x =>
      obtain ⟨c, p⟩ := x
      have hp := scan_epos hsc
      exact UAt.err _ (by show a + 2 + p ≤ N; omega)
    | ok l =>
      simp only
      have ht := (scan_oks hsc).shift (N := N) (a := a + 2) (by rw [hsz]; omega)
      have hB : UTr N [] [] (fun i => [i]) no tr (bindP q.1 fun i => bindP (kindM 0) fun _ s' => .ok (i, s')) := UTr.bind (hx q rfl).1 fun i _ => UTr.bind (o1 := fun _ => [i]) (p1 := no) (UTr.frame [i] [] UTr.kind0) fun _ _ => UTr.pure rfl rfl trivial
      have hU := hB (⟨(l ++ [endT (bA ((R.drop 2).take (R.length - 3))).size]).map (shiftT (a + 2)), false, s.f⟩ : Ps) ht
      refine ⟨fun E B a' s' hF hr => ?_, fun E B bd hF hr => ?_⟩
      · cases hm : bindP q.1 (fun i => bindP (kindM 0) fun _ s' => .ok (i, s')) (⟨(l ++ [endT (bA ((R.drop 2).take (R.length - 3))).size]).map (shiftT (a + 2)), false, s.f⟩ : Ps) with
        | error x => rw [hm] at hr; cases hr
        | ok y =>
          obtain ⟨i, s2⟩ := y
          rw [hm] at hr
          obtain ⟨h4, h5, -⟩ := hU.1 E B i s2 hF hm
          cases hr
          exact ⟨hs, h5, trivial⟩
      · cases hm : bindP q.1 (fun i => bindP (kindM 0) fun _ s' => .ok (i, s')) (⟨(l ++ [endT (bA ((R.drop 2).take (R.length - 3))).size]).map (shiftT (a + 2)), false, s.f⟩ : Ps) with
        | error x => rw [hm] at hr; cases hr; exact hU.2 E B _ hF hm
        | ok y => rw [hm] at hr; cases hr
theorem insL_end {R : List UInt8} {b e : Nat} (h : insL R = some (b, e)) : b ≤ R.length ∧ e ≤ R.length ∧ (b < e → b + 3 ≤ e) := by
  unfold insL at h
  split at h
  · rename_i hl
    cases hb : braceS (R.length + 1) (R.drop (aheadL R + 2)) with
    | none => rw [hb] at h; cases h
    | some r =>
      rw [hb] at h
      cases h
      have := (brace_lt _ _ _).1 hb
      simp only [List.length_drop] at this
      exact ⟨by omega, by omega, fun _ => by omega⟩
  · cases h
    exact ⟨Nat.le_refl _, Nat.le_refl _, fun h => absurd h (Nat.lt_irrefl _)⟩
theorem parts_use (hx : SubU N nx) : ∀ (n : Nat) (R : List UInt8) (a : Nat) (args : List Nat) (keys : List ByteArray), a + R.length + 1 ≤ N → UTr N args [] (fun r => r.1) no tr (partsM nx n R a args keys) := by
  intro n
  induction n with
  | zero => intro R a args keys _ s hs; exact UAt.none
  | succ n ih =>
    intro R a args keys ha s hs
    unfold partsM
    by_cases hR : R = []
    · rw [if_pos hR]
      exact UAt.ok hs rfl rfl rfl trivial
    · rw [if_neg hR]
      cases hi : insL R with
      | none => exact UAt.none
      | some be =>
        obtain ⟨b, e⟩ := be
        obtain ⟨hb, he, hbe⟩ := insL_end hi
        simp only
        -- the piece ahead
        have hA : UAt N args [] (fun r : List Nat × List ByteArray => r.1) no tr s (if 0 < b then match saidL (R.take b) with
            | none => noneE
            | some t => bindP (addM ⟨5, bA t, [], [], a⟩) (fun i s' => .ok ((args ++ [i], keys ++ [bA [116]]), s')) s
          else .ok ((args, keys), s) : PR (List Nat × List ByteArray)) := by
          split
          · cases hs2 : saidL (R.take b) with
            | none => exact UAt.none
            | some t => exact (UTr.bind (o1 := fun i => [i] ++ args) (p1 := no) (UTr.frame args [] (UTr.add (e := ⟨5, bA t, [], [], a⟩) (by show a < N; omega))) fun i _ => (UTr.pure (o := fun r : List Nat × List ByteArray => r.1) (p := no) rfl rfl trivial : UTr N (args ++ [i]) [] _ no tr _).conv List.perm_append_comm (.refl _) (fun _ => .refl _) (fun _ => .refl _) (fun _ h => h)) s hs
          · exact UAt.ok hs rfl rfl rfl trivial
        -- the insertion
        have hA2 : ∀ (args1 : List Nat) (keys1 : List ByteArray) (s1 : Ps), TksOk N s1.toks → UAt N args1 [] (fun r : List Nat × List ByteArray => r.1) no tr s1 (if b < e then bindP (insertedM nx ((R.take e).drop b) (a + b)) (fun i s' => .ok ((args1 ++ [i], keys1 ++ [bA [101]]), s')) s1 else .ok ((args1, keys1), s1) : PR (List Nat × List ByteArray)) := by
          intro args1 keys1 s1 hs1
          split
          · rename_i hlt
            have hl : ((R.take e).drop b).length = e - b := by rw [List.length_drop, List.length_take]; omega
            have h3 := hbe hlt
            exact (UTr.bind (o1 := fun i => [i] ++ args1) (p1 := no) (UTr.frame args1 [] (inserted_use hx (by omega) (by omega))) fun i _ => (UTr.pure (o := fun r : List Nat × List ByteArray => r.1) (p := no) rfl rfl trivial : UTr N (args1 ++ [i]) [] _ no tr _).conv List.perm_append_comm (.refl _) (fun _ => .refl _) (fun _ => .refl _) (fun _ h => h)) s1 hs1
          · exact UAt.ok hs1 rfl rfl rfl trivial
        refine ⟨fun E B y s' hF hr => ?_, fun E B bd hF hr => ?_⟩
        · split at hr
          · cases hr
          · rename_i args1 keys1 s1 h1
            obtain ⟨ht1, hF1, -⟩ := hA.1 E B _ s1 hF h1
            split at hr
            · cases hr
            · rename_i args2 keys2 s2 h2
              obtain ⟨ht2, hF2, -⟩ := (hA2 args1 keys1 s1 ht1).1 E B _ s2 hF1 h2
              exact (ih (R.drop e) (a + e) args2 keys2 (by rw [List.length_drop]; omega) s2 ht2).1 E B y s' hF2 hr
        · split at hr
          · rename_i x h1
            cases hr
            exact hA.2 E B _ hF h1
          · rename_i args1 keys1 s1 h1
            obtain ⟨ht1, hF1, -⟩ := hA.1 E B _ s1 hF h1
            split at hr
            · rename_i x h2
              cases hr
              exact (hA2 args1 keys1 s1 ht1).2 E B _ hF1 h2
            · rename_i args2 keys2 s2 h2
              obtain ⟨ht2, hF2, -⟩ := (hA2 args1 keys1 s1 ht1).1 E B _ s2 hF1 h2
              exact (ih (R.drop e) (a + e) args2 keys2 (by rw [List.length_drop]; omega) s2 ht2).2 E B bd hF2 hr
theorem text_use (hx : SubU N nx) (hs : TksOk N s.toks) (hk : (next s).k = 3) : UAt N [] [] (fun i => [i]) no tr s (textM nx s) := by
  have hk0 : (next s).k ≠ 0 := by rw [hk]; decide
  have hT := oks_next hs hk0
  have hlt := hT.lt hk0
  unfold textM
  simp only
  cases hi : insL (next s).x.data.toList with
  | none => exact UAt.none
  | some be =>
    obtain ⟨b, e⟩ := be
    simp only
    split
    · split
      · exact UAt.none
      · rename_i y hy
        exact (UTr.add (e := ⟨5, bA y, [], [], (next s).at_⟩) hlt _ (oks_take hs)).st rfl
    · rename_i hb
      have hal := insL_no hi hb
      have hw : (next s).at_ + ((next s).x.size + 2) ≤ N := by
        have := hT.pos
        unfold wt at this
        rw [if_neg hk0, if_pos ⟨hk, hal⟩] at this
        exact this
      have hsz : (next s).x.data.toList.length = (next s).x.size := Array.length_toList
      exact (UTr.bind (parts_use hx _ _ _ [] [] (by rw [hsz]; omega)) (fun r _ => UTr.add (e := ⟨6, ⟨#[]⟩, r.1, r.2, (next s).at_⟩) hlt) _ (oks_take hs)).st rfl
end
end Go.Proofs.YtljgggohjigaoaaGreatDoor
