/- What the parser makes is used once, ahead of what uses it, and stands within the text: the file's side -/
import Derived.Test.YtljgggohjigaoaaGreatDoorSy14
namespace Go.Proofs.YtljgggohjigaoaaGreatDoor
set_option linter.unusedVariables false

/-- A token that stands within N bytes. -/
structure TkOk (N : Nat) (t : Tk) : Prop where
  pos : t.at_ + wt t ≤ N
  end_ : t.k = 0 → t.x = ⟨#[]⟩
  name : t.k = 1 → t.x ≠ ⟨#[]⟩
def TksOk (N : Nat) (l : List Tk) : Prop := ∀ t ∈ l, TkOk N t
theorem TksOk.sfx {N : Nat} {l l' : List Tk} (h : TksOk N l) (hs : l' <:+ l) : TksOk N l' := fun t ht => h t (hs.subset ht)
theorem wt_shift (a : Nat) (t : Tk) : wt (shiftT a t) = wt t := rfl
theorem TksOk.shift {n N a : Nat} {l : List Tk} (h : TksOk n l) (hN : n + a ≤ N) : TksOk N (l.map (shiftT a)) := fun t ht => by
  obtain ⟨u, hu, rfl⟩ := List.mem_map.1 ht
  have h1 := h u hu
  refine ⟨?_, h1.end_, h1.name⟩
  have h2 := h1.pos
  rw [wt_shift]
  show u.at_ + a + wt u ≤ N
  omega
theorem next_name {R x R' : List UInt8} (hR : R ≠ []) (h : nextL R = (1, .ok (x, R'))) : x ≠ [] := by
  have hg := (nextL_goes hR).1 x R' (by rw [h])
  unfold nextL at h
  match R, hR with
  | c :: r, _ =>
    simp only at h
    split at h
    · cases h
    · split at h
      · have := congrArg Prod.fst h; simp at this
      · split at h
        · have := congrArg Prod.fst h; simp at this
        · split at h
          · have := congrArg Prod.fst h; simp at this
          · split at h
            · have h2 := congrArg Prod.snd h
              simp only at h2
              unfold nameL at h2
              split at h2
              · cases h2
              · cases h2
                intro e
                have h3 := congrArg List.length e
                unfold tookL at h3
                simp only [List.length_take, List.length_nil] at h3
                simp only [List.length_cons] at h3 hg
                omega
            · have := congrArg Prod.fst h; simp at this
theorem tokL_oks {sz : Nat} : ∀ {n : Nat} {R : List UInt8} {acc l : List Tk}, tokL sz n R acc = .ok l → R.length ≤ sz → TksOk sz acc → TksOk sz l
  | 0, R, acc, l, h, _, _ => by cases h
  | n + 1, R, acc, l, h, hle, ha => by
    unfold tokL at h
    split at h
    · cases h
      exact ha
    · rename_i hR
      have hne : R ≠ [] := by intro e; subst e; simp at hR
      cases hr : (nextL R).2 with
      | error c => rw [hr] at h; cases h
      | ok y =>
        obtain ⟨x, R'⟩ := y
        rw [hr] at h
        simp only at h
        obtain ⟨h0, h1⟩ := next_wt (k := (nextL R).1) (x := x) (R' := R') hne (by rw [← hr]) (sz - R.length)
        split at h
        · cases h
        · have h4 := betweenA_le (Nat.le_refl R'.length)
          refine tokL_oks h (by omega) fun t ht => ?_
          rcases List.mem_append.1 ht with h7 | h7
          · exact ha t h7
          · have := List.mem_singleton.1 h7
            subst this
            refine ⟨by simp only; omega, fun e => absurd e h0, fun e => ?_⟩
            have h8 := next_name (x := x) (R' := R') hne (by rw [← hr]; exact Prod.ext e rfl)
            intro h9
            have h10 := congrArg (fun b : ByteArray => b.data.toList) h9
            simp at h10
            exact h8 h10
theorem scan_oks {t : ByteArray} {l : List Tk} (h : scanL t = .ok l) : TksOk t.size (l ++ [endT t.size]) := by
  unfold scanL at h
  split at h
  · cases h
  · split at h
    · cases h
    · have h3 := betweenA_le (Nat.le_refl (rest t 0).length)
      have h4 : (rest t 0).length = t.size := by rw [rest_length]; omega
      intro u hu
      rcases List.mem_append.1 hu with h1 | h1
      · exact tokL_oks h (by omega) (fun t ht => by cases ht) u h1
      · have := List.mem_singleton.1 h1
        subst this
        exact ⟨Nat.le_refl _, fun _ => rfl, fun e => by cases e⟩
/-- What a file uses. -/
def useE (f : Fi) : List Nat := f.exprs.flatMap Ex.args ++ f.blocks.flatMap (fun b => b.attrs.map AtS.e)
def useB (f : Fi) : List Nat := f.blocks.flatMap Bl.blocks ++ f.top
/-- A file under way: E and B are the expressions and blocks that nothing uses yet. -/
structure FOk (N : Nat) (f : Fi) (E B : List Nat) : Prop where
  at_ : ∀ e ∈ f.exprs, e.at_ < N
  args : ∀ (i : Nat) (e : Ex), f.exprs[i]? = some e → ∀ a ∈ e.args, a < i
  attrs : ∀ b ∈ f.blocks, ∀ a ∈ b.attrs, a.e < f.exprs.length ∧ a.n ≠ ⟨#[]⟩
  blocks : ∀ (i : Nat) (b : Bl), f.blocks[i]? = some b → ∀ k ∈ b.blocks, k < i
  top : ∀ k ∈ f.top, k < f.blocks.length
  owedE : ∀ k ∈ E, k < f.exprs.length
  owedB : ∀ k ∈ B, k < f.blocks.length
  oneE : ∀ k, k < f.exprs.length → (useE f).count k + E.count k = 1
  oneB : ∀ k, k < f.blocks.length → (useB f).count k + B.count k = 1
section
variable {N : Nat} {f : Fi} {E B E' B' : List Nat}
theorem FOk.perm (h : FOk N f E B) (hE : E.Perm E') (hB : B.Perm B') : FOk N f E' B' :=
  ⟨h.at_, h.args, h.attrs, h.blocks, h.top, fun k hk => h.owedE k (hE.mem_iff.2 hk), fun k hk => h.owedB k (hB.mem_iff.2 hk), fun k hk => by rw [← hE.count_eq]; exact h.oneE k hk, fun k hk => by rw [← hB.count_eq]; exact h.oneB k hk⟩
theorem FOk.usedE (h : FOk N f E B) : ∀ k ∈ useE f, k < f.exprs.length := fun k hk => by
  rcases List.mem_append.1 hk with h1 | h1
  · obtain ⟨e, he, hk⟩ := List.mem_flatMap.1 h1
    obtain ⟨i, hi⟩ := List.mem_iff_getElem?.1 he
    have h2 := h.args i e hi k hk
    have h3 := (List.getElem?_eq_some_iff.1 hi).1
    omega
  · obtain ⟨b, hb, hk⟩ := List.mem_flatMap.1 h1
    obtain ⟨a, ha, rfl⟩ := List.mem_map.1 hk
    exact (h.attrs b hb a ha).1
theorem FOk.usedB (h : FOk N f E B) : ∀ k ∈ useB f, k < f.blocks.length := fun k hk => by
  rcases List.mem_append.1 hk with h1 | h1
  · obtain ⟨b, hb, hk⟩ := List.mem_flatMap.1 h1
    obtain ⟨i, hi⟩ := List.mem_iff_getElem?.1 hb
    have h2 := h.blocks i b hi k hk
    have h3 := (List.getElem?_eq_some_iff.1 hi).1
    omega
  · exact h.top k h1
theorem get_snoc {α : Type} {l : List α} {x y : α} {i : Nat} (h : (l ++ [x])[i]? = some y) : l[i]? = some y ∨ (i = l.length ∧ y = x) := by
  by_cases hi : i < l.length
  · rw [List.getElem?_append_left hi] at h; exact .inl h
  · rw [List.getElem?_append_right (by omega)] at h
    by_cases h0 : i - l.length = 0
    · rw [h0] at h
      exact .inr ⟨by omega, by simpa using h.symm⟩
    · rw [List.getElem?_eq_none (by simp; omega)] at h
      cases h
theorem count_none {l : List Nat} {n k : Nat} (h : ∀ x ∈ l, x < n) (hk : n ≤ k) : l.count k = 0 := List.count_eq_zero.2 fun hm => by
  have := h k hm
  omega
/-- An expression more: it uses its parts. -/
theorem FOk.addE {e : Ex} (h : FOk N f (e.args ++ E) B) (hat : e.at_ < N) : FOk N { f with exprs := f.exprs ++ [e] } (f.exprs.length :: E) B := by
  have hu := h.usedE
  refine ⟨fun x hx => ?_, fun i x hi a ha => ?_, fun b hb a ha => ?_, h.blocks, h.top, fun k hk => ?_, h.owedB, fun k hk => ?_, h.oneB⟩
  · rcases List.mem_append.1 hx with h1 | h1
    · exact h.at_ x h1
    · rw [List.mem_singleton.1 h1]; exact hat
  · rcases get_snoc hi with h1 | ⟨rfl, rfl⟩
    · exact h.args i x h1 a ha
    · exact h.owedE a (List.mem_append.2 (.inl ha))
  · have h1 := h.attrs b hb a ha
    exact ⟨by simp only [List.length_append, List.length_cons, List.length_nil]; omega, h1.2⟩
  · simp only [List.length_append, List.length_cons, List.length_nil]
    rcases List.mem_cons.1 hk with rfl | h1
    · omega
    · have := h.owedE k (List.mem_append.2 (.inr h1)); omega
  · have hc : (useE { f with exprs := f.exprs ++ [e] }).count k = (useE f).count k + e.args.count k := by
      unfold useE
      simp only [List.flatMap_append, List.flatMap_cons, List.flatMap_nil, List.append_nil, List.count_append]
      omega
    rw [hc, List.count_cons]
    simp only [List.length_append, List.length_cons, List.length_nil] at hk
    by_cases hk' : k < f.exprs.length
    · have h1 := h.oneE k hk'
      rw [List.count_append] at h1
      rw [if_neg (by simp; omega)]
      omega
    · have h1 := count_none hu (k := k) (by omega)
      have h2 : e.args.count k = 0 := count_none (fun x hx => h.owedE x (List.mem_append.2 (.inl hx))) (by omega)
      have h3 : E.count k = 0 := count_none (fun x hx => h.owedE x (List.mem_append.2 (.inr hx))) (by omega)
      rw [if_pos (by simp; omega)]
      omega
/-- A block more. -/
theorem FOk.addB {b : Bl} (h : FOk N f (b.attrs.map AtS.e ++ E) (b.blocks ++ B)) (hn : ∀ a ∈ b.attrs, a.n ≠ ⟨#[]⟩) : FOk N { f with blocks := f.blocks ++ [b] } E (f.blocks.length :: B) := by
  have hu := h.usedB
  refine ⟨h.at_, h.args, fun x hx a ha => ?_, fun i x hi a ha => ?_, fun k hk => ?_, fun k hk => h.owedE k (List.mem_append.2 (.inr hk)), fun k hk => ?_, fun k hk => ?_, fun k hk => ?_⟩
  · rcases List.mem_append.1 hx with h1 | h1
    · exact h.attrs x h1 a ha
    · have := List.mem_singleton.1 h1
      subst this
      exact ⟨h.owedE _ (List.mem_append.2 (.inl (List.mem_map.2 ⟨a, ha, rfl⟩))), hn a ha⟩
  · rcases get_snoc hi with h1 | ⟨rfl, rfl⟩
    · exact h.blocks i x h1 a ha
    · exact h.owedB a (List.mem_append.2 (.inl ha))
  · have := h.top k hk
    simp only [List.length_append, List.length_cons, List.length_nil]
    omega
  · simp only [List.length_append, List.length_cons, List.length_nil]
    rcases List.mem_cons.1 hk with rfl | h1
    · omega
    · have := h.owedB k (List.mem_append.2 (.inr h1)); omega
  · have h1 := h.oneE k hk
    rw [List.count_append] at h1
    unfold useE at h1 ⊢
    simp only [List.flatMap_append, List.flatMap_cons, List.flatMap_nil, List.append_nil, List.count_append] at h1 ⊢
    omega
  · have hc : (useB { f with blocks := f.blocks ++ [b] }).count k = (useB f).count k + b.blocks.count k := by
      unfold useB
      simp only [List.flatMap_append, List.flatMap_cons, List.flatMap_nil, List.append_nil, List.count_append]
      omega
    rw [hc, List.count_cons]
    simp only [List.length_append, List.length_cons, List.length_nil] at hk
    by_cases hk' : k < f.blocks.length
    · have h1 := h.oneB k hk'
      rw [List.count_append] at h1
      rw [if_neg (by simp; omega)]
      omega
    · have h1 := count_none hu (k := k) (by omega)
      have h2 : b.blocks.count k = 0 := count_none (fun x hx => h.owedB x (List.mem_append.2 (.inl hx))) (by omega)
      have h3 : B.count k = 0 := count_none (fun x hx => h.owedB x (List.mem_append.2 (.inr hx))) (by omega)
      rw [if_pos (by simp; omega)]
      omega
/-- A place more among the file's own. -/
theorem FOk.addT {i : Nat} (h : FOk N f E (i :: B)) : FOk N { f with top := f.top ++ [i] } E B := by
  refine ⟨h.at_, h.args, h.attrs, h.blocks, fun k hk => ?_, h.owedE, fun k hk => h.owedB k (List.mem_cons_of_mem _ hk), h.oneE, fun k hk => ?_⟩
  · rcases List.mem_append.1 hk with h1 | h1
    · exact h.top k h1
    · rw [List.mem_singleton.1 h1]; exact h.owedB i List.mem_cons_self
  · have h1 := h.oneB k hk
    unfold useB at h1 ⊢
    rw [List.count_cons] at h1
    simp only [List.count_append, List.count_cons, List.count_nil] at h1 ⊢
    omega
theorem FOk.nil (N : Nat) : FOk N ⟨[], [], []⟩ [] [] := ⟨fun e he => (by cases he), fun i e hi => (by simp at hi), fun b hb => (by cases hb), fun i b hi => (by simp at hi), fun k hk => (by cases hk), fun k hk => (by cases hk), fun k hk => (by cases hk), fun k hk => (by cases hk), fun k hk => (by cases hk)⟩
end
end Go.Proofs.YtljgggohjigaoaaGreatDoor
