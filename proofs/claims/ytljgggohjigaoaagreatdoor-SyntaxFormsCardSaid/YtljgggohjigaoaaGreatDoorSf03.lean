/- What the parser makes is used once: expressions, blocks, the file -/
import Derived.Test.YtljgggohjigaoaaGreatDoorSf02
namespace Go.Proofs.YtljgggohjigaoaaGreatDoor
set_option linter.unusedVariables false

section
variable {N : Nat} {nx : Sub} {s : Ps}
/-- One part more at the end of a row. -/
theorem UTr.snoc {α : Type} {i : Nat} {l : List Nat} {o p : α → List Nat} {Q : α → Prop} {M : PM α} (h : UTr N (l ++ [i]) [] o p Q M) : UTr N ([i] ++ l) [] o p Q M := h.conv List.perm_append_comm (.refl _) (fun _ => .refl _) (fun _ => .refl _) (fun _ h => h)
theorem args_use {en : ByteArray} {ex : PM Nat} (hx : UTr N [] [] (fun i => [i]) no tr ex) : ∀ (n : Nat) (args : List Nat), UTr N args [] (fun l => l) no tr (argsM en ex n args) := by
  intro n
  induction n with
  | zero => intro args s hs; exact UAt.none
  | succ n ih =>
    intro args s hs
    unfold argsM
    split
    · exact UAt.ok (oks_peek hs) rfl rfl rfl trivial
    · refine ((UTr.bind (o1 := fun i => [i] ++ args) (p1 := no) (UTr.frame args [] hx) fun i _ => UTr.snoc ?_) _ (oks_peek hs)).st rfl
      refine UTr.bind (o1 := fun _ => args ++ [i]) (p1 := no) (UTr.frame (args ++ [i]) [] UTr.skip) fun c _ => ?_
      cases c with
      | true => exact ih (args ++ [i])
      | false => exact UTr.pure rfl rfl trivial
theorem key_use {ahead : List ByteArray} : UTr N [] [] no no tr (keyM ahead) := fun s hs => by
  unfold keyM
  have hA : UAt N [] [] no no tr s (if (next s).k = 3 then plainM (peekS s) else bindP (kindM 1) (fun t s' => .ok (t.x, s')) (peekS s) : PR ByteArray) := by
    split
    · exact (UTr.plain _ (oks_peek hs)).st rfl
    · exact ((UTr.bind (UTr.kind0 (N := N) (k := 1)) (fun t _ => UTr.pure (a := t.x) (o := no) (p := no) (Q := tr) rfl rfl trivial)) _ (oks_peek hs)).st rfl
  refine ⟨fun E B a s' hF hr => ?_, fun E B bd hF hr => ?_⟩
  · split at hr
    · cases hr
    · rename_i k s1 h1
      obtain ⟨h2, h3, -⟩ := hA.1 E B _ s1 hF h1
      split at hr
      · cases hr
      · cases hr
        exact ⟨h2, h3, trivial⟩
  · split at hr
    · rename_i x h1
      cases hr
      exact hA.2 E B _ hF h1
    · split at hr
      · cases hr
        exact next_le hs
      · cases hr
theorem obj_use {ex : PM Nat} (hx : UTr N [] [] (fun i => [i]) no tr ex) : ∀ (n : Nat) (keys : List ByteArray) (args : List Nat), UTr N args [] (fun r => r.2) no tr (objM ex n keys args) := by
  intro n
  induction n with
  | zero => intro keys args s hs; exact UAt.none
  | succ n ih =>
    intro keys args s hs
    unfold objM
    split
    · exact UAt.ok (oks_peek hs) rfl rfl rfl trivial
    · refine ((UTr.bind (o1 := fun _ => args) (p1 := no) (UTr.frame args [] key_use) fun k _ => ?_) _ (oks_peek hs)).st rfl
      refine UTr.bind (o1 := fun _ => args) (p1 := no) (UTr.frame args [] (UTr.want (by decide))) fun _ _ => ?_
      refine UTr.bind (o1 := fun i => [i] ++ args) (p1 := no) (UTr.frame args [] hx) fun i _ => UTr.snoc ?_
      refine UTr.bind (o1 := fun _ => args ++ [i]) (p1 := no) (UTr.frame (args ++ [i]) [] UTr.skip) fun c _ => ?_
      refine UTr.bind (o1 := fun _ => args ++ [i]) (p1 := no) (UTr.frame (args ++ [i]) [] UTr.lines) fun l _ s2 hs2 => ?_
      split
      · exact UAt.ok hs2 rfl rfl rfl trivial
      · exact ih _ _ s2 hs2
theorem list_use (hx : SubU N nx) : UTr N [] [] (fun i => [i]) no tr (listM nx) := by
  unfold listM
  refine UTr.bind (UTr.between (o := fun r : Int × ByteArray × List Nat => r.2.2) (p := no) (Q := tr) (by decide) (by decide) fun q hq => ?_) fun r hr => UTr.add (e := ⟨r.1.1, r.1.2.1, r.1.2.2, [], r.2⟩) hr.2
  have hE := (hx q hq).1
  refine UTr.bind UTr.skip fun fr _ => ?_
  cases fr with
  | true =>
    refine UTr.bind (UTr.kind0 (k := 1)) fun t _ => UTr.bind (UTr.want (by decide)) fun _ _ => UTr.bind hE fun i _ => ?_
    refine UTr.bind (o1 := fun _ => [i]) (p1 := no) (UTr.frame [i] [] (UTr.want (by decide))) fun _ _ => ?_
    refine UTr.bind (o1 := fun j => [j] ++ [i]) (p1 := no) (UTr.frame [i] [] hE) fun j _ => UTr.snoc (UTr.pure rfl rfl trivial)
  | false =>
    show UTr N [] [] (fun r : Int × ByteArray × List Nat => r.2.2) no tr (fun s => bindP (argsM (wb [93]) q.1 (s.toks.length + 1) []) (fun l s' => .ok (((7 : Int), (⟨#[]⟩ : ByteArray), l), s')) s)
    exact fun s hs => UTr.bind (args_use hE _ []) (fun l _ => UTr.pure (a := ((7 : Int), (⟨#[]⟩ : ByteArray), l)) rfl rfl trivial) s hs
theorem object_use (hx : SubU N nx) : UTr N [] [] (fun i => [i]) no tr (objectM nx) := by
  unfold objectM
  refine UTr.bind (UTr.between (o := fun r : List ByteArray × List Nat => r.2) (p := no) (Q := tr) (by decide) (by decide) fun q hq => ?_) fun r hr => UTr.add (e := ⟨8, ⟨#[]⟩, r.1.2, r.1.1, r.2⟩) hr.2
  exact UTr.bind UTr.lines fun _ _ s hs => obj_use (hx q hq).1 _ [] [] s hs
theorem named_use (hx : SubU N nx) (hs : TksOk N s.toks) (hk : (next s).k = 1) : UAt N [] [] (fun i => [i]) no tr s (namedM nx s) := by
  have hlt := kind_lt hs (by rw [hk]; decide)
  have h1 := oks_take hs
  unfold namedM
  simp only
  split
  · refine ((UTr.bind (UTr.between (o := fun l => l) (p := no) (Q := tr) (by decide) (by decide) fun q hq s hs => args_use (hx q hq).1 _ [] s hs) fun r hr => UTr.add (e := ⟨12, (next s).x, r.1, [], (next s).at_⟩) hlt) _ (oks_peek h1)).st rfl
  · split
    · exact (UTr.add (e := ⟨1, ⟨#[]⟩, [], [], (next s).at_⟩) hlt _ (oks_peek h1)).st rfl
    · split
      · exact (UTr.add (e := ⟨2, ⟨#[]⟩, [], [], (next s).at_⟩) hlt _ (oks_peek h1)).st rfl
      · split
        · exact (UTr.add (e := ⟨3, ⟨#[]⟩, [], [], (next s).at_⟩) hlt _ (oks_peek h1)).st rfl
        · exact (UTr.add (e := ⟨9, (next s).x, [], [], (next s).at_⟩) hlt _ (oks_peek h1)).st rfl
theorem atom_use (hx : SubU N nx) : UTr N [] [] (fun i => [i]) no tr (atomM nx) := fun s hs => by
  unfold atomM
  simp only
  split
  · rename_i hk
    exact (UTr.add (e := ⟨4, (next s).x, [], [], (next s).at_⟩) (kind_lt hs (by rw [hk]; decide)) _ (oks_take hs)).st rfl
  · split
    · rename_i hk
      exact text_use hx hs hk
    · split
      · rename_i hk
        exact named_use hx hs hk.1
      · split
        · exact (UTr.bind (UTr.between (o := fun i => [i]) (p := no) (Q := tr) (by decide) (by decide) fun q hq => (hx q hq).1) fun r hr => UTr.pure rfl rfl trivial) s hs
        · split
          · exact list_use hx s hs
          · split
            · exact object_use hx s hs
            · exact UAt.err _ (next_le hs)
theorem indexed_use (hx : SubU N nx) (one : Nat) : UTr N [one] [] (fun i => [i]) no tr (indexedM nx one) := by
  unfold indexedM
  refine UTr.bind (UTr.between (i := [one]) (o := fun r : Bool × List Nat => r.2) (p := no) (Q := tr) (by decide) (by decide) fun q hq => ?_) fun r hr => ?_
  · refine UTr.bind (o1 := fun _ => [one]) (p1 := no) (UTr.frame [one] [] UTr.skip) fun st _ => ?_
    cases st with
    | true => exact UTr.pure rfl rfl trivial
    | false => exact UTr.bind (o1 := fun i => [i] ++ [one]) (p1 := no) (UTr.frame [one] [] (hx q hq).1) fun i _ => UTr.snoc (UTr.pure rfl rfl trivial)
  · split
    · refine UTr.bind (o1 := fun _ => r.1.2) (p1 := no) (UTr.frame r.1.2 [] (UTr.want (by decide))) fun _ _ => ?_
      refine UTr.bind (o1 := fun _ => r.1.2) (p1 := no) (UTr.frame r.1.2 [] (UTr.kind0 (k := 1))) fun t _ => ?_
      exact UTr.add (e := ⟨30, t.x, r.1.2, [], r.2⟩) hr.2
    · exact UTr.add (e := ⟨11, ⟨#[]⟩, r.1.2, [], r.2⟩) hr.2
theorem post_use (hx : SubU N nx) : ∀ (n one : Nat), UTr N [one] [] (fun i => [i]) no tr (postLoop nx n one) := by
  intro n
  induction n with
  | zero => intro one s hs; exact UAt.none
  | succ n ih =>
    intro one s hs
    unfold postLoop
    split
    · rename_i hw
      have hlt := isW_lt hs (by decide) hw
      refine ((UTr.bind (o1 := fun _ => [one]) (p1 := no) (UTr.frame [one] [] (UTr.kind0 (k := 1))) fun t _ => ?_) _ (oks_take hs)).st rfl
      exact UTr.bind (UTr.add (e := ⟨10, t.x, [one], [], (next s).at_⟩) hlt) fun i _ => ih i
    · split
      · exact ((UTr.bind (indexed_use hx one) fun i _ => ih i) _ (oks_peek hs)).st rfl
      · exact UAt.ok (oks_peek hs) rfl rfl rfl trivial
theorem posted_use (hx : SubU N nx) : UTr N [] [] (fun i => [i]) no tr (postedM nx) := UTr.bind (atom_use hx) fun one _ s hs => post_use hx _ one s hs
theorem signed_use (hx : SubU N nx) : UTr N [] [] (fun i => [i]) no tr (signedM nx) := fun s hs => by
  unfold signedM
  simp only
  split
  · rename_i hw
    exact ((UTr.bind (UTr.deeper (next_le hs) fun q hq => (hx q hq).2) fun i _ => UTr.add (e := ⟨14, ⟨#[]⟩, [i], [], (next s).at_⟩) (isW_lt hs (by decide) hw)) _ (oks_take hs)).st rfl
  · split
    · rename_i hw
      exact ((UTr.bind (UTr.deeper (next_le hs) fun q hq => (hx q hq).2) fun i _ => UTr.add (e := ⟨13, ⟨#[]⟩, [i], [], (next s).at_⟩) (isW_lt hs (by decide) hw)) _ (oks_take hs)).st rfl
    · exact (posted_use hx _ (oks_peek hs)).st rfl
theorem joins_k {t : Tk} {lv : Nat} (h : lowK lv ≤ joinsT t) : t.k ≠ 0 := fun e => by
  have h1 : joinsT t = 0 := by
    unfold joinsT
    rw [if_pos (by rw [e]; decide)]
  rw [h1] at h
  unfold lowK at h
  split at h <;> omega
theorem joinLoop_use {sub : PM Nat} {lv : Nat} (hx : UTr N [] [] (fun i => [i]) no tr sub) : ∀ (n left : Nat), UTr N [left] [] (fun i => [i]) no tr (joinLoop sub lv n left) := by
  intro n
  induction n with
  | zero => intro left s hs; exact UAt.none
  | succ n ih =>
    intro left s hs
    unfold joinLoop
    split
    · rename_i hw
      refine ((UTr.bind (o1 := fun i => [i] ++ [left]) (p1 := no) (UTr.frame [left] [] hx) fun right _ => UTr.snoc ?_) _ (oks_take hs)).st rfl
      exact UTr.bind (UTr.add (e := ⟨joinsT (next s), ⟨#[]⟩, [left, right], [], (next s).at_⟩) (kind_lt hs (joins_k hw.1))) fun i _ => ih i
    · exact UAt.ok (oks_peek hs) rfl rfl rfl trivial
theorem joined_use (hx : SubU N nx) : ∀ n, UTr N [] [] (fun i => [i]) no tr (joinedM nx n)
  | 0 => signed_use hx
  | n + 1 => UTr.bind (joined_use hx n) fun left _ s hs => joinLoop_use (joined_use hx n) _ left s hs
theorem expr_use (hx : SubU N nx) : UTr N [] [] (fun i => [i]) no tr (exprM nx) := by
  unfold exprM
  refine UTr.bind (joined_use hx 6) fun first _ s hs => ?_
  split
  · rename_i hw
    have hlt := isW_lt hs (by decide) hw
    refine ((UTr.bind (o1 := fun l : List Nat => l) (p1 := no) (Q1 := tr) (UTr.deeper (i := [first]) (next_le hs) fun q hq => ?_) fun l _ => UTr.add (e := ⟨28, ⟨#[]⟩, l, [], (next s).at_⟩) hlt) _ (oks_take hs)).st rfl
    refine UTr.bind (o1 := fun i => [i] ++ [first]) (p1 := no) (UTr.frame [first] [] (hx q hq).1) fun i _ => UTr.snoc ?_
    refine UTr.bind (o1 := fun _ => [first, i]) (p1 := no) (UTr.frame [first, i] [] (UTr.want (by decide))) fun _ _ => ?_
    exact UTr.bind (o1 := fun j => [j] ++ [first, i]) (p1 := no) (UTr.frame [first, i] [] (hx q hq).1) fun j _ => UTr.snoc (UTr.pure rfl rfl trivial)
  · exact UAt.ok (oks_peek hs) rfl rfl rfl trivial
end
theorem sub_use (N : Nat) : ∀ d, SubU N (subP d) := by
  intro d
  induction d with
  | zero => intro q hq; cases hq
  | succ d ih =>
    intro q hq
    simp only [subP, Option.some.injEq] at hq
    subst hq
    exact ⟨expr_use ih, signed_use ih⟩
section
variable {N : Nat} {s : Ps}
theorem itemsLoop_use {σ : Type} {rd : Tk → σ → PM σ} {o p : σ → List Nat} {Q : σ → Prop} (hr : ∀ t x, TkOk N t → t.k = 1 → Q x → UTr N (o x) (p x) o p Q (rd t x)) : ∀ (n : Nat) (x : σ), Q x → UTr N (o x) (p x) o p Q (itemsLoop rd n x) := by
  intro n
  induction n with
  | zero => intro x hq s hs; exact UAt.none
  | succ n ih =>
    intro x hq s hs
    unfold itemsLoop
    split
    · rename_i hk
      have hT := oks_next hs (by rw [hk]; decide)
      refine ((UTr.bind (hr _ x hT hk hq) fun x' hq' => UTr.bind (o1 := fun _ => o x') (p1 := fun _ => p x') (UTr.frame (o x') (p x') UTr.lines) fun l _ s' hs' => ?_) _ (oks_take hs)).st rfl
      cases l with
      | true => exact ih x' hq' s' hs'
      | false => exact UAt.ok hs' rfl rfl rfl hq'
    · exact UAt.ok (oks_peek hs) rfl rfl rfl hq
theorem items_use {σ : Type} {rd : Tk → σ → PM σ} {o p : σ → List Nat} {Q : σ → Prop} (hr : ∀ t x, TkOk N t → t.k = 1 → Q x → UTr N (o x) (p x) o p Q (rd t x)) (x : σ) (hq : Q x) : UTr N (o x) (p x) o p Q (itemsM rd x) :=
  UTr.bind (o1 := fun _ => o x) (p1 := fun _ => p x) (UTr.frame (o x) (p x) UTr.lines) fun _ _ s hs => itemsLoop_use hr _ x hq s hs
theorem labels_use : ∀ (n : Nat) (l : List ByteArray), UTr N [] [] no no tr (labelsM n l) := by
  intro n
  induction n with
  | zero => intro l s hs; exact UAt.none
  | succ n ih =>
    intro l s hs
    unfold labelsM
    split
    · exact ((UTr.bind UTr.plain fun t _ => ih _) _ (oks_peek hs)).st rfl
    · exact UAt.ok (oks_peek hs) rfl rfl rfl trivial
/-- What a block under way uses. -/
abbrev ofE (b : Bl) : List Nat := b.attrs.map AtS.e
abbrev ofB (b : Bl) : List Nat := b.blocks
abbrev named (b : Bl) : Prop := ∀ a ∈ b.attrs, a.n ≠ ⟨#[]⟩
theorem addB_use {b : Bl} (hn : named b) : UTr N (ofE b) (ofB b) no (fun i => [i]) tr (addB b) := fun s hs => ⟨fun E B a s' hF h => by
  unfold addB at h
  cases h
  exact ⟨hs, hF.addB hn, trivial⟩, fun E B bd hF h => by unfold addB at h; cases h⟩
theorem itemE_use {ex : PM Nat} {bk : Tk → PM Nat} (hx : UTr N [] [] (fun i => [i]) no tr ex) (hb : ∀ t, UTr N [] [] no (fun i => [i]) tr (bk t)) (t : Tk) (b : Bl) (ht : TkOk N t) (hk : t.k = 1) (hq : named b) :
    UTr N (ofE b) (ofB b) ofE ofB named (bindP (skipM (wb [61])) fun eq => if eq then bindP ex fun i s => .ok (({ b with attrs := b.attrs ++ [⟨t.x, i, t.at_⟩] } : Bl), s) else bindP (bk t) fun i s => .ok (({ b with blocks := b.blocks ++ [i] } : Bl), s)) := by
  refine UTr.bind (o1 := fun _ => ofE b) (p1 := fun _ => ofB b) (UTr.frame (ofE b) (ofB b) UTr.skip) fun eq _ => ?_
  cases eq with
  | true =>
    refine UTr.bind (o1 := fun i => [i] ++ ofE b) (p1 := fun _ => ofB b) (UTr.frame (ofE b) (ofB b) hx) fun i _ => ?_
    refine (UTr.pure (i := ofE b ++ [i]) (j := ofB b) (a := ({ b with attrs := b.attrs ++ [⟨t.x, i, t.at_⟩] } : Bl)) (o := ofE) (p := ofB) (Q := named) (by simp [ofE]) rfl ?_).conv List.perm_append_comm (.refl _) (fun _ => .refl _) (fun _ => .refl _) (fun _ h => h)
    intro a ha
    rcases List.mem_append.1 ha with h1 | h1
    · exact hq a h1
    · rw [List.mem_singleton.1 h1]; exact ht.name hk
  | false =>
    refine UTr.bind (o1 := fun _ => ofE b) (p1 := fun i => [i] ++ ofB b) (UTr.frame (ofE b) (ofB b) (hb t)) fun i _ => ?_
    exact (UTr.pure (i := ofE b) (j := ofB b ++ [i]) (a := ({ b with blocks := b.blocks ++ [i] } : Bl)) (o := ofE) (p := ofB) (Q := named) rfl rfl hq).conv (.refl _) List.perm_append_comm (fun _ => .refl _) (fun _ => .refl _) (fun _ h => h)
theorem block_use : ∀ (d : Nat) (t : Tk), UTr N [] [] no (fun i => [i]) tr (blockM d t) := by
  intro d
  induction d with
  | zero =>
    intro t s hs
    unfold blockM
    exact (UTr.bind (labels_use _ []) fun ls _ => UTr.bind (UTr.want (by decide)) fun o ho s1 hs1 => UAt.err _ (Nat.le_of_lt ho)) s hs
  | succ d ih =>
    intro t s hs
    unfold blockM
    refine (UTr.bind (labels_use _ []) fun ls _ => UTr.bind (UTr.want (by decide)) fun o _ s1 hs1 => ?_) s hs
    have hI := items_use (N := N) (σ := Bl) (o := ofE) (p := ofB) (Q := named) (rd := fun (n : Tk) (b : Bl) => bindP (skipM (wb [61])) fun eq => if eq then bindP (exprM (subP d)) fun i s => .ok (({ b with attrs := b.attrs ++ [⟨n.x, i, n.at_⟩] } : Bl), s) else bindP (blockM d n) fun i s => .ok (({ b with blocks := b.blocks ++ [i] } : Bl), s))
      (fun t b ht hk hq => itemE_use (expr_use (sub_use N d)) ih t b ht hk hq) ⟨t.x, ls, [], [], t.at_⟩ (fun a ha => by cases ha)
    refine (UAt.bind (hI { s1 with over := false } hs1) fun b s2 hs2 hq => ?_).st rfl
    refine (UTr.bind (o1 := fun _ => ofE b) (p1 := fun _ => ofB b) (UTr.frame (ofE b) (ofB b) (UTr.want (by decide))) fun _ _ s3 hs3 => ?_) s2 hs2
    exact (addB_use hq { s3 with over := s1.over } hs3).st rfl
theorem whole_use : UTr N [] [] no no tr wholeM := by
  unfold wholeM
  refine UTr.bind (items_use (o := no) (p := no) (Q := tr) (fun t x ht hk _ => ?_) () trivial) fun _ _ => UTr.bind (UTr.kind0 (k := 0)) fun _ _ => UTr.pure rfl rfl trivial
  refine UTr.bind (block_use 24 t) fun i _ s hs => ⟨fun E B a s' hF h => ?_, fun E B bd hF h => by cases h⟩
  cases h
  exact ⟨hs, hF.addT, trivial⟩
end
/-- The file of a text: each expression and block is used once, ahead of what uses it, and stands within the text. -/
theorem parse_use {t : ByteArray} {f : Fi} (h : parseF t = .ok f) : FOk t.size f [] [] := by
  unfold parseF at h
  cases hs : scanL t with
  | error e => rw [hs] at h; cases h
  | ok l =>
    rw [hs] at h
    simp only at h
    cases hw : wholeM (⟨l ++ [endT t.size], false, ⟨[], [], []⟩⟩ : Ps) with
    | error e => rw [hw] at h; cases h
    | ok y =>
      obtain ⟨u, s⟩ := y
      rw [hw] at h
      cases h
      exact ((whole_use _ (scan_oks hs)).1 [] [] u s (FOk.nil _) hw).2.1
/-- What is wrong is wrong at a byte of the text, or at its end. -/
theorem parse_place {t : ByteArray} {bd : Bd} (h : parseF t = .error bd) : bd.2 ≤ t.size := by
  unfold parseF at h
  cases hs : scanL t with
  | error e =>
    rw [hs] at h
    cases h
    obtain ⟨c, p⟩ := bd
    exact scan_epos hs
  | ok l =>
    rw [hs] at h
    simp only at h
    cases hw : wholeM (⟨l ++ [endT t.size], false, ⟨[], [], []⟩⟩ : Ps) with
    | error e =>
      rw [hw] at h
      cases h
      exact (whole_use _ (scan_oks hs)).2 [] [] _ (FOk.nil _) hw
    | ok y => rw [hw] at h; cases h
end Go.Proofs.YtljgggohjigaoaaGreatDoor
