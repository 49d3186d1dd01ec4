/- What is written, with blanks between its parts, is read back · What is written, with blanks between its parts, is read back: values -/
import Derived.Test.YtcbcjeabpjjhbaaGreatDoorJb26
import Derived.Test.YtcbcjeabpjjhbaaGreatDoorJb38
namespace Go.Proofs.YtcbcjeabpjjhbaaGreatDoor
set_option linter.unusedVariables false

mutual
/-- A tree's JSON. -/
def jsT : VT → List UInt8
  | .node k b t its ks => if k = 2 then (if b then [116, 114, 117, 101] else [102, 97, 108, 115, 101]) else if k = 3 then t.data.toList else if k = 4 then jsQ t
    else if k = 5 then 91 :: (jsI its true ++ [93]) else if k = 6 then 123 :: (jsP ks its true ++ [125]) else [110, 117, 108, 108]
def jsI : List VT → Bool → List UInt8
  | [], _ => []
  | x :: l, first => (if first then [] else [44]) ++ (jsT x ++ jsI l false)
def jsP : List ByteArray → List VT → Bool → List UInt8
  | k :: ks, x :: l, first => (if first then [] else [44]) ++ (jsQ k ++ (58 :: (jsT x ++ jsP ks l false)))
  | _, _, _ => []
end
/-- The same, or both too long. -/
def Agree (X Y : List UInt8) : Prop := X = Y ∨ (65536 < X.length ∧ 65536 < Y.length)
theorem quote_agree (L : List UInt8) (t : ByteArray) : Agree (quoteL L t) (L ++ jsQ t) := by
  unfold quoteL
  by_cases h : 65536 < L.length
  · rw [if_pos h]
    exact .inr ⟨h, by rw [List.length_append]; omega⟩
  · rw [if_neg h]
    exact .inl rfl
mutual
theorem appV_agree : ∀ (T : VT) (L : List UInt8), Agree (appV T L) (L ++ jsT T)
  | .node k b t its ks, L => by
    unfold appV jsT
    by_cases h2 : k = 2
    · rw [if_pos h2, if_pos h2]; exact .inl rfl
    rw [if_neg h2, if_neg h2]
    by_cases h3 : k = 3
    · rw [if_pos h3, if_pos h3]; exact .inl rfl
    rw [if_neg h3, if_neg h3]
    by_cases h4 : k = 4
    · rw [if_pos h4, if_pos h4]; exact quote_agree L t
    rw [if_neg h4, if_neg h4]
    by_cases h5 : k = 5
    · rw [if_pos h5, if_pos h5]
      rcases appI_agree its true (L ++ [91]) with e | ⟨e1, e2⟩
      · exact .inl (by rw [e]; simp)
      · exact .inr ⟨by rw [List.length_append]; omega, by simp only [List.length_append, List.length_cons, List.length_nil] at e2 ⊢; omega⟩
    rw [if_neg h5, if_neg h5]
    by_cases h6 : k = 6
    · rw [if_pos h6, if_pos h6]
      rcases appP_agree ks its true (L ++ [123]) with e | ⟨e1, e2⟩
      · exact .inl (by rw [e]; simp)
      · exact .inr ⟨by rw [List.length_append]; omega, by simp only [List.length_append, List.length_cons, List.length_nil] at e2 ⊢; omega⟩
    rw [if_neg h6, if_neg h6]
    exact .inl rfl
theorem appI_agree : ∀ (l : List VT) (f : Bool) (L : List UInt8), Agree (appI l f L) (L ++ jsI l f)
  | [], f, L => by unfold appI jsI; exact .inl (by simp)
  | x :: l, f, L => by
    unfold appI jsI
    have hc : (if f then L else L ++ [44]) = L ++ (if f then [] else [44]) := by cases f <;> simp
    rw [hc]
    generalize (if f then ([] : List UInt8) else [44]) = C
    rcases appV_agree x (L ++ C) with e | ⟨e1, e2⟩
    · rw [e]
      rcases appI_agree l false (L ++ C ++ jsT x) with e | ⟨e1, e2⟩
      · exact .inl (by rw [e]; simp)
      · exact .inr ⟨e1, by simpa using e2⟩
    · have := appI_le l false (appV x (L ++ C))
      exact .inr ⟨by omega, by simp only [List.length_append] at e2 ⊢; omega⟩
theorem appP_agree : ∀ (ks : List ByteArray) (l : List VT) (f : Bool) (L : List UInt8), Agree (appP ks l f L) (L ++ jsP ks l f)
  | k :: ks, x :: l, f, L => by
    unfold appP jsP
    have hc : (if f then L else L ++ [44]) = L ++ (if f then [] else [44]) := by cases f <;> simp
    rw [hc]
    generalize (if f then ([] : List UInt8) else [44]) = C
    have h1 := appP_le ks l false (appV x (quoteL (L ++ C) k ++ [58]))
    have h2 := appV_le x (quoteL (L ++ C) k ++ [58])
    rcases quote_agree (L ++ C) k with e | ⟨e1, e2⟩
    · rw [e] at h1 h2 ⊢
      rcases appV_agree x (L ++ C ++ jsQ k ++ [58]) with e | ⟨e1, e2⟩
      · rw [e]
        rcases appP_agree ks l false (L ++ C ++ jsQ k ++ [58] ++ jsT x) with e | ⟨e1, e2⟩
        · exact .inl (by rw [e]; simp)
        · exact .inr ⟨e1, by simpa using e2⟩
      · exact .inr ⟨by omega, by simp only [List.length_append, List.length_cons, List.length_nil] at e2 ⊢; omega⟩
    · exact .inr ⟨by rw [List.length_append] at h2; omega, by simp only [List.length_append] at e2 ⊢; omega⟩
  | [], l, f, L => by unfold appP jsP; exact .inl (by simp)
  | k :: ks, [], f, L => by unfold appP jsP; exact .inl (by simp)
end
/-! ### With blanks -/
def AllB (l : List UInt8) : Prop := ∀ c ∈ l, blankB c = true
theorem skip_blank {l R : List UInt8} (h : AllB l) : skipB (l ++ R) = skipB R := by
  unfold skipB
  rw [List.dropWhile_append_of_pos h]
theorem skip_sign {c : UInt8} (h : blankB c = false) (R : List UInt8) : skipB (c :: R) = c :: R := by
  unfold skipB
  rw [List.dropWhile_cons_of_neg (by rw [h]; decide)]
section
variable (pr po : Nat → List UInt8)
/-- A sign, with blanks on both sides. -/
def sgW (i : Nat) (c : UInt8) : List UInt8 := pr i ++ c :: po i
mutual
def spT : VT → Nat → List UInt8
  | .node k b t its ks, i => if k = 5 then sgW pr po i 91 ++ (spI its true (i + 1) ++ sgW pr po (i + 1 + (jsI its true).length) 93)
    else if k = 6 then sgW pr po i 123 ++ (spP ks its true (i + 1) ++ sgW pr po (i + 1 + (jsP ks its true).length) 125)
    else jsT (.node k b t its ks)
def spI : List VT → Bool → Nat → List UInt8
  | [], _, _ => []
  | x :: l, true, i => spT x i ++ spI l false (i + (jsT x).length)
  | x :: l, false, i => sgW pr po i 44 ++ (spT x (i + 1) ++ spI l false (i + 1 + (jsT x).length))
def spP : List ByteArray → List VT → Bool → Nat → List UInt8
  | k :: ks, x :: l, true, i => jsQ k ++ (sgW pr po (i + (jsQ k).length) 58 ++ (spT x (i + (jsQ k).length + 1) ++ spP ks l false (i + (jsQ k).length + 1 + (jsT x).length)))
  | k :: ks, x :: l, false, i => sgW pr po i 44 ++ (jsQ k ++ (sgW pr po (i + 1 + (jsQ k).length) 58 ++ (spT x (i + 1 + (jsQ k).length + 1) ++ spP ks l false (i + 1 + (jsQ k).length + 1 + (jsT x).length))))
  | _, _, _, _ => []
end
end
/-- What may stand behind a value: no digit. -/
def NoD (R : List UInt8) : Prop := R.head?.any digJ = false
theorem noD_sgW {pr po : Nat → List UInt8} (hpr : ∀ i, AllB (pr i)) {i : Nat} {c : UInt8} (hc : digJ c = false) (R : List UInt8) : NoD (sgW pr po i c ++ R) := by
  unfold sgW NoD
  have := hpr i
  cases hp : pr i with
  | nil => exact hc
  | cons x l =>
    rw [hp] at this
    have hx := this x (by simp)
    show digJ x = false
    unfold blankB at hx
    unfold digJ
    simp at hx
    rcases hx with ((rfl | rfl) | rfl) | rfl <;> rfl
theorem skip_sgW {pr po : Nat → List UInt8} (hpr : ∀ i, AllB (pr i)) {i : Nat} {c : UInt8} (hc : blankB c = false) (R : List UInt8) : skipB (sgW pr po i c ++ R) = c :: (po i ++ R) := by
  unfold sgW
  rw [List.append_assoc, skip_blank (hpr i), List.cons_append, skip_sign hc]
/-- What a value's JSON begins with. -/
def headOk (c : UInt8) : Prop := c = 34 ∨ c = 91 ∨ c = 123 ∨ c = 45 ∨ digJ c = true ∨ c = 110 ∨ c = 116 ∨ c = 102
theorem good_head {l : List UInt8} (h : goodB l = true) : ∃ c r, l = c :: r ∧ (c = 45 ∨ digJ c = true) := by
  unfold goodB at h
  simp only [Bool.and_eq_true, decide_eq_true_eq] at h
  obtain ⟨⟨h1, h2⟩, h3⟩ := h
  rcases trim_minus l with ⟨D, rfl, e, -⟩ | ⟨hne, e, -⟩
  · exact ⟨45, D, rfl, .inl rfl⟩
  · rw [e] at h1 h3
    cases l with
    | nil => exact absurd rfl h1
    | cons c r =>
      refine ⟨c, r, rfl, .inr ?_⟩
      by_cases h48 : c = 48
      · subst h48; rfl
      · rw [if_neg (by simpa using h48)] at h3
        rw [digJ_nat]
        exact List.all_eq_true.1 h3 c (by simp)
theorem alone_num {b : Bool} {t : ByteArray} {its : List VT} {ks : List ByteArray} (h : aloneT (.node 3 b t its ks) = true) : b = false ∧ goodB t.data.toList = true ∧ its = [] ∧ ks = [] := by
  unfold aloneT at h
  simp at h
  exact ⟨by simpa using h.1, h.2.1.1, h.2.1.2, h.2.2⟩
theorem sp_head {pr po : Nat → List UInt8} (hpr : ∀ i, AllB (pr i)) : ∀ (T : VT) (i : Nat) (R : List UInt8), plainT T = true → ∃ c r, skipB (spT pr po T i ++ R) = c :: r ∧ headOk c
  | .node k b t its ks, i, R, h => by
    have ha := (plain_node h).1
    unfold spT
    by_cases h5 : k = 5
    · rw [if_pos h5, List.append_assoc, skip_sgW hpr (by decide)]
      exact ⟨_, _, rfl, .inr (.inl rfl)⟩
    rw [if_neg h5]
    by_cases h6 : k = 6
    · rw [if_pos h6, List.append_assoc, skip_sgW hpr (by decide)]
      exact ⟨_, _, rfl, .inr (.inr (.inl rfl))⟩
    rw [if_neg h6]
    unfold jsT
    by_cases h2 : k = 2
    · rw [if_pos h2]
      cases b
      · exact ⟨102, _, rfl, by unfold headOk; simp⟩
      · exact ⟨116, _, rfl, by unfold headOk; simp⟩
    rw [if_neg h2]
    by_cases h3 : k = 3
    · rw [if_pos h3]
      subst h3
      obtain ⟨c, r, hc, hd⟩ := good_head (alone_num ha).2.1
      rw [hc, List.cons_append, skip_sign]
      · exact ⟨c, _, rfl, by unfold headOk; rcases hd with h | h <;> simp [h]⟩
      · rcases hd with h | h
        · subst h; rfl
        · unfold digJ at h
          unfold blankB
          simp at h
          have h1 : 48 ≤ c.toNat := h.1
          have h2 := h.2
          simp [← UInt8.toNat_inj]
          omega
    rw [if_neg h3]
    by_cases h4 : k = 4
    · rw [if_pos h4]
      unfold jsQ
      rw [List.cons_append, skip_sign (by decide)]
      exact ⟨_, _, rfl, .inl rfl⟩
    rw [if_neg h4, if_neg h5, if_neg h6]
    exact ⟨110, _, rfl, by unfold headOk; simp⟩
end Go.Proofs.YtcbcjeabpjjhbaaGreatDoor
namespace Go.Proofs.YtcbcjeabpjjhbaaGreatDoor
set_option linter.unusedVariables false

theorem valJ_skip {d n : Nat} {R R' : List UInt8} (h : skipB R = skipB R') : valJ d R n = valJ d R' n := by
  cases d with
  | zero => unfold valJ; rw [h]
  | succ d => unfold valJ; rw [h]
def ReadsB (pr po : Nat → List UInt8) (d : Nat) (T : VT) : Prop := ∀ (i n : Nat) (R : List UInt8), NoD R → n + sizeT T ≤ 2000 → ∃ R', valJ d (spT pr po T i ++ R) n = .ok (T, R', n + sizeT T) ∧ skipB R' = skipB R
theorem noD_spI {pr po : Nat → List UInt8} (hpr : ∀ i, AllB (pr i)) {c : UInt8} (hc : digJ c = false) (l : List VT) (i j : Nat) (R : List UInt8) : NoD (spI pr po l false i ++ (sgW pr po j c ++ R)) := by
  cases l with
  | nil => unfold spI; exact noD_sgW hpr hc R
  | cons y l => unfold spI; rw [List.append_assoc]; exact noD_sgW hpr (by decide) _
theorem noD_spP {pr po : Nat → List UInt8} (hpr : ∀ i, AllB (pr i)) {c : UInt8} (hc : digJ c = false) (ks : List ByteArray) (l : List VT) (i j : Nat) (R : List UInt8) : NoD (spP pr po ks l false i ++ (sgW pr po j c ++ R)) := by
  match ks, l with
  | [], l => unfold spP; exact noD_sgW hpr hc R
  | k :: ks, [] => unfold spP; exact noD_sgW hpr hc R
  | k :: ks, y :: l => unfold spP; rw [List.append_assoc]; exact noD_sgW hpr (by decide) _
theorem pre_yes (c : UInt8) (R : List UInt8) : Lib.hasPrefix (c :: R) [c] = true := by simp [Lib.hasPrefix, List.isPrefixOf]
theorem pre_no {c q : UInt8} (h : q ≠ c) (R : List UInt8) : Lib.hasPrefix (c :: R) [q] = false := by simp [Lib.hasPrefix, List.isPrefixOf, h]
theorem seq_item {pr po : Nat → List UInt8} (hpr : ∀ i, AllB (pr i)) (hpo : ∀ i, AllB (po i)) {d : Nat} : ∀ (l : List VT) (x : VT) (f : Nat) (st : List VT) (i j n : Nat) (X R : List UInt8), (∀ y ∈ x :: l, ReadsB pr po d y) → l.length < f → n + sizeT x + sizeL l ≤ 2000 → skipB X = skipB (spT pr po x i ++ (spI pr po l false (i + (jsT x).length) ++ (sgW pr po j 93 ++ R))) →
    seqJ (itemJ (valJ d)) 93 f st X n = .ok (st ++ (x :: l), po j ++ R, n + sizeT x + sizeL l)
  | l, x, 0, st, i, j, n, X, R, hr, hf, hn, hX => by omega
  | [], x, f + 1, st, i, j, n, X, R, hr, hf, hn, hX => by
    obtain ⟨R', e1, e2⟩ := hr x (by simp) i n _ (noD_spI hpr (c := 93) (by decide) [] (i + (jsT x).length) j R) (by omega)
    have e0 : itemJ (valJ d) st X n = .ok (st ++ [x], R', n + sizeT x) := by unfold itemJ; rw [valJ_skip hX, e1]
    unfold seqJ
    rw [e0]
    simp only
    rw [e2]
    have e3 : skipB (spI pr po [] false (i + (jsT x).length) ++ (sgW pr po j 93 ++ R)) = 93 :: (po j ++ R) := by
      unfold spI
      exact skip_sgW hpr (by decide) R
    rw [e3, if_pos (pre_yes 93 _)]
    unfold sizeL
    rfl
  | y :: l, x, f + 1, st, i, j, n, X, R, hr, hf, hn, hX => by
    have hsz : sizeL (y :: l) = sizeT y + sizeL l := by conv => lhs; unfold sizeL
    rw [hsz] at hn ⊢
    obtain ⟨R', e1, e2⟩ := hr x (by simp) i n _ (noD_spI hpr (c := 93) (by decide) (y :: l) (i + (jsT x).length) j R) (by omega)
    have e0 : itemJ (valJ d) st X n = .ok (st ++ [x], R', n + sizeT x) := by unfold itemJ; rw [valJ_skip hX, e1]
    unfold seqJ
    rw [e0]
    simp only
    rw [e2]
    have e3 : skipB (spI pr po (y :: l) false (i + (jsT x).length) ++ (sgW pr po j 93 ++ R)) = 44 :: (po (i + (jsT x).length) ++ (spT pr po y (i + (jsT x).length + 1) ++ (spI pr po l false (i + (jsT x).length + 1 + (jsT y).length) ++ (sgW pr po j 93 ++ R)))) := by
      conv => lhs; unfold spI
      rw [List.append_assoc, skip_sgW hpr (by decide), List.append_assoc]
    rw [e3, if_neg (by rw [pre_no (by decide)]; decide), if_pos (pre_yes 44 _), List.drop_succ_cons, List.drop_zero]
    have ih := seq_item hpr hpo l y f (st ++ [x]) (i + (jsT x).length + 1) j (n + sizeT x) (po (i + (jsT x).length) ++ (spT pr po y (i + (jsT x).length + 1) ++ (spI pr po l false (i + (jsT x).length + 1 + (jsT y).length) ++ (sgW pr po j 93 ++ R)))) R (fun z hz => hr z (List.mem_cons_of_mem _ hz)) (by simp at hf; omega) (by omega) (skip_blank (hpo _))
    rw [ih, ← Nat.add_assoc]
    simp
theorem spI_len {pr po : Nat → List UInt8} : ∀ (l : List VT) (i : Nat), l.length ≤ (spI pr po l false i).length
  | [], i => by simp
  | x :: l, i => by
    have := spI_len (pr := pr) (po := po) l (i + 1 + (jsT x).length)
    unfold spI sgW
    simp only [List.length_append, List.length_cons]
    omega
theorem head_not {c : UInt8} (h : headOk c) : c ≠ 93 ∧ c ≠ 125 := by
  unfold headOk at h
  rcases h with rfl | rfl | rfl | rfl | h | rfl | rfl | rfl <;> first | exact ⟨by decide, by decide⟩ | skip
  constructor <;> (rintro rfl; revert h; decide)
theorem each_item {pr po : Nat → List UInt8} (hpr : ∀ i, AllB (pr i)) (hpo : ∀ i, AllB (po i)) {d : Nat} {l : List VT} (hr : ∀ y ∈ l, ReadsB pr po d y) (hp : ∀ y ∈ l, plainT y = true) (i j n : Nat) (B R : List UInt8) (hB : AllB B) (hn : n + sizeL l ≤ 2000) :
    eachJ (itemJ (valJ d)) 93 [] (91 :: (B ++ (spI pr po l true i ++ (sgW pr po j 93 ++ R)))) n = .ok (l, po j ++ R, n + sizeL l) := by
  unfold eachJ
  rw [List.drop_succ_cons, List.drop_zero, skip_blank hB]
  cases l with
  | nil =>
    have e3 : skipB (spI pr po [] true i ++ (sgW pr po j 93 ++ R)) = 93 :: (po j ++ R) := by
      unfold spI
      exact skip_sgW hpr (by decide) R
    rw [e3, if_pos (pre_yes 93 _)]
    unfold sizeL
    rfl
  | cons x l =>
    have e3 : spI pr po (x :: l) true i ++ (sgW pr po j 93 ++ R) = spT pr po x i ++ (spI pr po l false (i + (jsT x).length) ++ (sgW pr po j 93 ++ R)) := by
      conv => lhs; unfold spI
      rw [List.append_assoc]
    have hsz : sizeL (x :: l) = sizeT x + sizeL l := by conv => lhs; unfold sizeL
    rw [hsz] at hn
    obtain ⟨c, r, h1, h2⟩ := sp_head hpr (po := po) x i (spI pr po l false (i + (jsT x).length) ++ (sgW pr po j 93 ++ R)) (hp x (by simp))
    rw [e3, if_neg (by rw [h1, pre_no (fun e => (head_not h2).1 e.symm)]; decide)]
    have hlen := spI_len (pr := pr) (po := po) l (i + (jsT x).length)
    rw [seq_item hpr hpo l x _ [] i j n _ R hr (by simp only [List.length_cons, List.length_append]; omega) (by omega) (skipB_idem _), hsz, Nat.add_assoc]
    rfl
def KeyOk (k : ByteArray) : Prop := utfS k = true ∧ k.size ≤ 16384
theorem skip_jsQ (k : ByteArray) (Y : List UInt8) : skipB (jsQ k ++ Y) = jsQ k ++ Y := by
  unfold jsQ
  rw [List.cons_append, skip_sign (by decide)]
theorem pre_jsQ (k : ByteArray) (Y : List UInt8) : Lib.hasPrefix (jsQ k ++ Y) [34] = true := by
  unfold jsQ
  rw [List.cons_append]
  exact pre_yes 34 _
theorem beq_no {a b : ByteArray} (h : a ≠ b) : (a == b) = false := by
  cases hb : (a == b) with
  | false => rfl
  | true =>
    exfalso
    apply h
    cases a with | mk x => cases b with | mk y =>
    have hb : (x == y) = true := hb
    rw [beq_iff_eq.1 hb]
theorem contains_no {k : ByteArray} : ∀ {ks : List ByteArray}, k ∉ ks → ks.contains k = false
  | [], _ => rfl
  | a :: l, h => by
    rw [List.contains_cons, contains_no (ks := l) (fun hm => h (List.mem_cons_of_mem _ hm)), beq_no (fun e => h (by rw [e]; simp))]
    rfl
theorem key_read {ks : List ByteArray} {k : ByteArray} (hk : KeyOk k) (hn : k ∉ ks) {X Y : List UInt8} (hX : skipB X = jsQ k ++ Y) : keyJ ks X = .ok (k, Y) := by
  unfold keyJ
  rw [hX, if_pos (pre_jsQ k Y), quotedJ_Q hk.1 hk.2]
  simp only
  rw [contains_no hn]
  rfl
theorem pair_read {pr po : Nat → List UInt8} (hpr : ∀ i, AllB (pr i)) (hpo : ∀ i, AllB (po i)) {d : Nat} {x : VT} (hr : ReadsB pr po d x) {st : List (ByteArray × VT)} {k : ByteArray} (hk : KeyOk k) (hn : k ∉ st.map Prod.fst) {X R : List UInt8} {i n : Nat} (hR : NoD R) (hsz : n + sizeT x ≤ 2000)
    (hX : skipB X = jsQ k ++ (sgW pr po i 58 ++ (spT pr po x (i + 1) ++ R))) : ∃ R', pairJ (valJ d) st X n = .ok (st ++ [(k, x)], R', n + sizeT x) ∧ skipB R' = skipB R := by
  obtain ⟨R', e1, e2⟩ := hr (i + 1) n R hR hsz
  refine ⟨R', ?_, e2⟩
  unfold pairJ
  rw [key_read hk hn hX]
  simp only
  rw [skip_sgW hpr (by decide), if_pos (pre_yes 58 _), List.drop_succ_cons, List.drop_zero, valJ_skip (skip_blank (hpo i)), e1]
theorem seq_pair {pr po : Nat → List UInt8} (hpr : ∀ i, AllB (pr i)) (hpo : ∀ i, AllB (po i)) {d : Nat} : ∀ (l : List VT) (ks : List ByteArray) (k : ByteArray) (x : VT) (f : Nat) (st : List (ByteArray × VT)) (i j n : Nat) (X R : List UInt8), ks.length = l.length → (∀ y ∈ x :: l, ReadsB pr po d y) → (∀ y ∈ k :: ks, KeyOk y) → (st.map Prod.fst ++ k :: ks).Nodup → l.length < f → n + sizeT x + sizeL l ≤ 2000 →
    skipB X = jsQ k ++ (sgW pr po i 58 ++ (spT pr po x (i + 1) ++ (spP pr po ks l false (i + 1 + (jsT x).length) ++ (sgW pr po j 125 ++ R)))) →
    seqJ (pairJ (valJ d)) 125 f st X n = .ok (st ++ ((k, x) :: ks.zip l), po j ++ R, n + sizeT x + sizeL l)
  | l, ks, k, x, 0, st, i, j, n, X, R, hl, hr, hk, hnd, hf, hn, hX => by omega
  | [], ks, k, x, f + 1, st, i, j, n, X, R, hl, hr, hk, hnd, hf, hn, hX => by
    obtain rfl : ks = [] := List.length_eq_zero_iff.1 (by simpa using hl)
    have hnk : k ∉ st.map Prod.fst := by
      intro hm
      rw [List.nodup_append] at hnd
      exact hnd.2.2 _ hm k (by simp) rfl
    obtain ⟨R', e1, e2⟩ := pair_read hpr hpo (hr x (by simp)) (hk k (by simp)) hnk (noD_spP hpr (c := 125) (by decide) [] [] (i + 1 + (jsT x).length) j R) (show n + sizeT x ≤ 2000 by omega) hX
    unfold seqJ
    rw [e1]
    simp only
    rw [e2]
    have e3 : skipB (spP pr po [] [] false (i + 1 + (jsT x).length) ++ (sgW pr po j 125 ++ R)) = 125 :: (po j ++ R) := by
      unfold spP
      exact skip_sgW hpr (by decide) R
    rw [e3, if_pos (pre_yes 125 _)]
    unfold sizeL
    rfl
  | y :: l, [], k, x, f + 1, st, i, j, n, X, R, hl, hr, hk, hnd, hf, hn, hX => by simp at hl
  | y :: l, k2 :: ks, k, x, f + 1, st, i, j, n, X, R, hl, hr, hk, hnd, hf, hn, hX => by
    have hsz : sizeL (y :: l) = sizeT y + sizeL l := by conv => lhs; unfold sizeL
    rw [hsz] at hn ⊢
    have hnk : k ∉ st.map Prod.fst := by
      intro hm
      rw [List.nodup_append] at hnd
      exact hnd.2.2 _ hm k (by simp) rfl
    obtain ⟨R', e1, e2⟩ := pair_read hpr hpo (hr x (by simp)) (hk k (by simp)) hnk (noD_spP hpr (c := 125) (by decide) (k2 :: ks) (y :: l) (i + 1 + (jsT x).length) j R) (show n + sizeT x ≤ 2000 by omega) hX
    unfold seqJ
    rw [e1]
    simp only
    rw [e2]
    have e3 : skipB (spP pr po (k2 :: ks) (y :: l) false (i + 1 + (jsT x).length) ++ (sgW pr po j 125 ++ R)) = 44 :: (po (i + 1 + (jsT x).length) ++ (jsQ k2 ++ (sgW pr po (i + 1 + (jsT x).length + 1 + (jsQ k2).length) 58 ++ (spT pr po y (i + 1 + (jsT x).length + 1 + (jsQ k2).length + 1) ++ (spP pr po ks l false (i + 1 + (jsT x).length + 1 + (jsQ k2).length + 1 + (jsT y).length) ++ (sgW pr po j 125 ++ R)))))) := by
      conv => lhs; unfold spP
      rw [List.append_assoc, skip_sgW hpr (by decide)]
      simp only [List.append_assoc]
    rw [e3, if_neg (by rw [pre_no (by decide)]; decide), if_pos (pre_yes 44 _), List.drop_succ_cons, List.drop_zero]
    rw [seq_pair hpr hpo l ks k2 y f (st ++ [(k, x)]) (i + 1 + (jsT x).length + 1 + (jsQ k2).length) j (n + sizeT x) _ R (by simpa using hl) (fun z hz => hr z (List.mem_cons_of_mem _ hz)) (fun z hz => hk z (List.mem_cons_of_mem _ hz)) (by simpa using hnd) (by simp at hf; omega) (by omega) (by rw [skip_blank (hpo _), skip_jsQ])]
    rw [← Nat.add_assoc]
    simp
theorem spP_len {pr po : Nat → List UInt8} : ∀ (ks : List ByteArray) (l : List VT) (i : Nat), ks.length = l.length → l.length ≤ (spP pr po ks l false i).length
  | [], [], i, h => by simp
  | [], x :: l, i, h => by simp at h
  | k :: ks, [], i, h => by simp at h
  | k :: ks, x :: l, i, h => by
    have := spP_len (pr := pr) (po := po) ks l (i + 1 + (jsQ k).length + 1 + (jsT x).length) (by simpa using h)
    unfold spP sgW
    simp only [List.length_append, List.length_cons]
    omega
theorem each_pair {pr po : Nat → List UInt8} (hpr : ∀ i, AllB (pr i)) (hpo : ∀ i, AllB (po i)) {d : Nat} {l : List VT} {ks : List ByteArray} (hl : ks.length = l.length) (hr : ∀ y ∈ l, ReadsB pr po d y) (hk : ∀ y ∈ ks, KeyOk y) (hnd : ks.Nodup) (i j n : Nat) (B R : List UInt8) (hB : AllB B) (hn : n + sizeL l ≤ 2000) :
    eachJ (pairJ (valJ d)) 125 [] (123 :: (B ++ (spP pr po ks l true i ++ (sgW pr po j 125 ++ R)))) n = .ok (ks.zip l, po j ++ R, n + sizeL l) := by
  unfold eachJ
  rw [List.drop_succ_cons, List.drop_zero, skip_blank hB]
  match ks, l, hl with
  | [], [], _ =>
    have e3 : skipB (spP pr po [] [] true i ++ (sgW pr po j 125 ++ R)) = 125 :: (po j ++ R) := by
      unfold spP
      exact skip_sgW hpr (by decide) R
    rw [e3, if_pos (pre_yes 125 _)]
    unfold sizeL
    rfl
  | k :: ks, x :: l, hl =>
    have e3 : spP pr po (k :: ks) (x :: l) true i ++ (sgW pr po j 125 ++ R) = jsQ k ++ (sgW pr po (i + (jsQ k).length) 58 ++ (spT pr po x (i + (jsQ k).length + 1) ++ (spP pr po ks l false (i + (jsQ k).length + 1 + (jsT x).length) ++ (sgW pr po j 125 ++ R)))) := by
      conv => lhs; unfold spP
      simp only [List.append_assoc]
    have hsz : sizeL (x :: l) = sizeT x + sizeL l := by conv => lhs; unfold sizeL
    rw [hsz] at hn
    have hq : jsQ k ++ (sgW pr po (i + (jsQ k).length) 58 ++ (spT pr po x (i + (jsQ k).length + 1) ++ (spP pr po ks l false (i + (jsQ k).length + 1 + (jsT x).length) ++ (sgW pr po j 125 ++ R)))) = 34 :: (jsQ k ++ (sgW pr po (i + (jsQ k).length) 58 ++ (spT pr po x (i + (jsQ k).length + 1) ++ (spP pr po ks l false (i + (jsQ k).length + 1 + (jsT x).length) ++ (sgW pr po j 125 ++ R))))).tail := by
      unfold jsQ
      rw [List.cons_append]
      rfl
    rw [e3, if_neg (by rw [skip_jsQ, hq, pre_no (by decide)]; decide)]
    have hlen := spP_len (pr := pr) (po := po) ks l (i + (jsQ k).length + 1 + (jsT x).length) (by simpa using hl)
    rw [seq_pair hpr hpo l ks k x _ [] (i + (jsQ k).length) j n _ R (by simpa using hl) hr hk (by simpa using hnd) (by simp only [List.length_cons, List.length_append]; omega) (by omega) (by rw [skipB_idem, skip_jsQ]), hsz, Nat.add_assoc]
    rfl
end Go.Proofs.YtcbcjeabpjjhbaaGreatDoor
