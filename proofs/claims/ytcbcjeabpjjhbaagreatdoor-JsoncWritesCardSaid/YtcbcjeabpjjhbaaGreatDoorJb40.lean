/- What is written, with blanks between its parts, is read back: any tree · What is read is fine: within the limits, known, UTF-8; and its JSON isn't much longer than what was read -/
import Derived.Test.YtcbcjeabpjjhbaaGreatDoorJb30
import Derived.Test.YtcbcjeabpjjhbaaGreatDoorJb39
namespace Go.Proofs.YtcbcjeabpjjhbaaGreatDoor
set_option linter.unusedVariables false

theorem docObj_sorted {ks : List ByteArray} {l : List VT} (h : keysOk ks = true) (hl : ks.length = l.length) : docObj ks l = some (ks.zip l) := by
  have hr := keysOk_rising h
  have hp : PlacesOk ks (List.range ks.length) := by
    refine ⟨List.Perm.refl _, fun i j hij hj => ?_⟩
    rw [List.length_range] at hj
    simp only [List.getD, List.getElem?_range (show i < ks.length by omega), List.getElem?_range hj, Option.getD_some, List.getElem?_eq_getElem (show i < ks.length by omega), List.getElem?_eq_getElem hj]
    exact bLt_asymm (hr i j (by omega) hj hij)
  rw [make_some hl.symm hp (fun j hj => ?_), pairs_range hl.symm]
  rw [List.length_range] at hj
  unfold Differ
  simp only [List.getD, List.getElem?_range (show j < ks.length by omega), List.getElem?_range hj, Option.getD_some, List.getElem?_eq_getElem (show j < ks.length by omega), List.getElem?_eq_getElem hj]
  exact differ_of_lt (hr j (j + 1) (by omega) hj (by omega))
theorem rising_nodup {ks : List ByteArray} (h : Rising ks) : ks.Nodup := by
  rw [List.nodup_iff_pairwise_ne, List.pairwise_iff_getElem]
  intro i j hi hj hij e
  have := h i j hi hj hij
  rw [e, bLt_irrefl] at this
  cases this
/-- What is asked of a tree that is written. -/
def Fine (d : Nat) (T : VT) : Prop := deepT d T = true ∧ plainT T = true ∧ knownT T = true ∧ utfT T = true
theorem toList_nil {t : ByteArray} (h : (t.toList == []) = true) : t = ⟨#[]⟩ := by
  have h2 := beq_iff_eq.1 h
  rw [ByteArray.toList_eq] at h2
  exact str_eq h2
theorem alone_parts {k : Int} {b : Bool} {t : ByteArray} {its : List VT} {ks : List ByteArray} (h : aloneT (.node k b t its ks) = true) :
    (k = 0 ∧ b = false ∧ t = ⟨#[]⟩ ∧ its = [] ∧ ks = []) ∨ k = 1 ∨ (k = 2 ∧ t = ⟨#[]⟩ ∧ its = [] ∧ ks = []) ∨ (k = 3 ∧ b = false ∧ goodB t.data.toList = true ∧ its = [] ∧ ks = []) ∨
    (k = 4 ∧ b = false ∧ t.size ≤ 16384 ∧ its = [] ∧ ks = []) ∨ (k = 5 ∧ b = false ∧ t = ⟨#[]⟩ ∧ ks = []) ∨ (k = 6 ∧ b = false ∧ t = ⟨#[]⟩ ∧ ks.length = its.length ∧ keysOk ks = true) := by
  unfold aloneT at h
  simp only [Bool.and_eq_true, Bool.or_eq_true, Bool.not_eq_true', beq_iff_eq] at h
  obtain ⟨hb, h⟩ := h
  split at h
  · rename_i hk
    simp only [Bool.and_eq_true, List.isEmpty_iff] at h
    obtain ⟨⟨h1, h2⟩, h3⟩ := h
    have ht := toList_nil h1
    rcases hk with rfl | rfl | rfl
    · exact .inl ⟨rfl, hb.elim id (fun h => by cases h), ht, h2, h3⟩
    · exact .inr (.inl rfl)
    · exact .inr (.inr (.inl ⟨rfl, ht, h2, h3⟩))
  · rename_i hk
    have hbf : b = false := hb.elim id (fun h => absurd (.inr (.inr h)) hk)
    split at h
    · rename_i hk3
      simp only [Bool.and_eq_true, List.isEmpty_iff] at h
      exact .inr (.inr (.inr (.inl ⟨hk3, hbf, h.1.1, h.1.2, h.2⟩)))
    · split at h
      · rename_i hk4
        simp only [Bool.and_eq_true, List.isEmpty_iff, decide_eq_true_eq] at h
        exact .inr (.inr (.inr (.inr (.inl ⟨hk4, hbf, h.1.1, h.1.2, h.2⟩))))
      · split at h
        · rename_i hk5
          simp only [Bool.and_eq_true, List.isEmpty_iff] at h
          exact .inr (.inr (.inr (.inr (.inr (.inl ⟨hk5, hbf, toList_nil h.1, h.2⟩)))))
        · split at h
          · rename_i hk6
            simp only [Bool.and_eq_true, decide_eq_true_eq] at h
            exact .inr (.inr (.inr (.inr (.inr (.inr ⟨hk6, hbf, toList_nil h.1.1, h.1.2, h.2⟩)))))
          · cases h
theorem deep_list {d : Nat} : ∀ {l : List VT}, deepL d l = true → ∀ y ∈ l, deepT d y = true
  | [], h, y, hy => by cases hy
  | x :: l, h, y, hy => by
    unfold deepL at h
    obtain ⟨h1, h2⟩ := Bool.and_eq_true_iff.1 h
    rcases List.mem_cons.1 hy with rfl | hy
    · exact h1
    · exact deep_list h2 y hy
theorem plain_list : ∀ {l : List VT}, plainL l = true → ∀ y ∈ l, plainT y = true
  | [], h, y, hy => by cases hy
  | x :: l, h, y, hy => by
    unfold plainL at h
    obtain ⟨h1, h2⟩ := Bool.and_eq_true_iff.1 h
    rcases List.mem_cons.1 hy with rfl | hy
    · exact h1
    · exact plain_list h2 y hy
theorem known_list : ∀ {l : List VT}, knownL l = true → ∀ y ∈ l, knownT y = true
  | [], h, y, hy => by cases hy
  | x :: l, h, y, hy => by
    unfold knownL at h
    obtain ⟨h1, h2⟩ := Bool.and_eq_true_iff.1 h
    rcases List.mem_cons.1 hy with rfl | hy
    · exact h1
    · exact known_list h2 y hy
theorem utf_list : ∀ {l : List VT}, utfL l = true → ∀ y ∈ l, utfT y = true
  | [], h, y, hy => by cases hy
  | x :: l, h, y, hy => by
    unfold utfL at h
    obtain ⟨h1, h2⟩ := Bool.and_eq_true_iff.1 h
    rcases List.mem_cons.1 hy with rfl | hy
    · exact h1
    · exact utf_list h2 y hy
theorem Fine.items {d : Nat} {k : Int} {b : Bool} {t : ByteArray} {its : List VT} {ks : List ByteArray} (h : Fine (d + 1) (.node k b t its ks)) : ∀ y ∈ its, Fine d y := by
  obtain ⟨h1, h2, h3, h4⟩ := h
  unfold deepT at h1
  have h2 := (plain_node h2).2
  unfold knownT at h3
  have h3 := (Bool.and_eq_true_iff.1 h3).2
  unfold utfT at h4
  have h4 := (Bool.and_eq_true_iff.1 (Bool.and_eq_true_iff.1 h4).2).2
  exact fun y hy => ⟨deep_list h1 y hy, plain_list h2 y hy, known_list h3 y hy, utf_list h4 y hy⟩
theorem Fine.texts {d : Nat} {k : Int} {b : Bool} {t : ByteArray} {its : List VT} {ks : List ByteArray} (h : Fine d (.node k b t its ks)) : utfS t = true ∧ ∀ y ∈ ks, KeyOk y := by
  obtain ⟨h1, h2, h3, h4⟩ := h
  have ha := alone_facts (plain_node h2).1
  unfold utfT at h4
  obtain ⟨h6, h5⟩ := Bool.and_eq_true_iff.1 h4
  have h7 := (Bool.and_eq_true_iff.1 h5).1
  exact ⟨h6, fun y hy => ⟨List.all_eq_true.1 h7 y hy, ha.2.1 y hy⟩⟩
mutual
theorem reads_T {pr po : Nat → List UInt8} (hpr : ∀ i, AllB (pr i)) (hpo : ∀ i, AllB (po i)) : ∀ (T : VT) (d : Nat), Fine d T → ReadsB pr po d T
  | .node k b t its ks, 0, h => by
    have := h.1
    unfold deepT at this
    cases this
  | .node k b t its ks, d + 1, h => by
    have hit := reads_L hpr hpo its d h.items
    have htx := h.texts
    have hal := (plain_node h.2.1).1
    have hpl := plain_list (plain_node h.2.1).2
    have hkn := h.2.2.1
    intro i n R hR hn
    have hsz : sizeT (.node k b t its ks) = 1 + sizeL its := by unfold sizeT; rfl
    rw [hsz] at hn ⊢
    have hn2 : ¬ n = 2000 := by omega
    rcases alone_parts hal with ⟨rfl, rfl, rfl, rfl, rfl⟩ | rfl | ⟨rfl, rfl, rfl, rfl⟩ | ⟨rfl, rfl, hg, rfl, rfl⟩ | ⟨rfl, rfl, hs, rfl, rfl⟩ | ⟨rfl, rfl, rfl, rfl⟩ | ⟨rfl, rfl, rfl, hlen, hok⟩
    · have he : spT pr po (.node 0 false ⟨#[]⟩ [] []) i = [110, 117, 108, 108] := by unfold spT jsT; rfl
      rw [he]
      refine ⟨R, ?_, rfl⟩
      rw [valJ_word (x := 110) hn2 rfl (by decide) (by decide) (by decide) (by decide) rfl]
      unfold sizeL
      rfl
    · unfold knownT at hkn
      cases hkn
    · cases b
      · have he : spT pr po (.node 2 false ⟨#[]⟩ [] []) i = [102, 97, 108, 115, 101] := by unfold spT jsT; rfl
        rw [he]
        refine ⟨R, ?_, rfl⟩
        rw [valJ_word (x := 102) hn2 rfl (by decide) (by decide) (by decide) (by decide) rfl]
        unfold sizeL
        rfl
      · have he : spT pr po (.node 2 true ⟨#[]⟩ [] []) i = [116, 114, 117, 101] := by unfold spT jsT; rfl
        rw [he]
        refine ⟨R, ?_, rfl⟩
        rw [valJ_word (x := 116) hn2 rfl (by decide) (by decide) (by decide) (by decide) rfl]
        unfold sizeL
        rfl
    · have he : spT pr po (.node 3 false t [] []) i = t.data.toList := by unfold spT jsT; rfl
      rw [he]
      obtain ⟨c, r, hc, hd⟩ := good_head hg
      have hsk : skipB (t.data.toList ++ R) = t.data.toList ++ R := by
        rw [hc, List.cons_append, skip_sign]
        rcases hd with h | h
        · subst h; rfl
        · unfold digJ at h
          unfold blankB
          simp at h
          have h1 : 48 ≤ c.toNat := h.1
          simp [← UInt8.toNat_inj]
          omega
      have hx : headN (skipB (t.data.toList ++ R)) = c.toNat := by rw [hsk, hc]; rfl
      have hcd : c.toNat = 45 ∨ digN c.toNat = true := by
        rcases hd with h | h
        · subst h; exact .inl rfl
        · rw [digJ_nat] at h; exact .inr h
      have hdn : ∀ {x : Nat}, digN x = true → 48 ≤ x ∧ x ≤ 57 := fun {x} h => by unfold digN at h; simpa using h
      refine ⟨R, ?_, rfl⟩
      rw [valJ_num hn2 hx (fun e => hcd.elim (fun h => by omega) (fun h => by have := hdn h; omega)) (fun e => hcd.elim (fun h => by omega) (fun h => by have := hdn h; omega)) (fun e => hcd.elim (fun h => by omega) (fun h => by have := hdn h; omega)) hcd, hsk, numJ_T hg hR]
      unfold sizeL
      rfl
    · have he : spT pr po (.node 4 false t [] []) i = jsQ t := by unfold spT jsT; rfl
      rw [he]
      refine ⟨R, ?_, rfl⟩
      have hq : jsQ t ++ R = 34 :: (jsQ t ++ R).tail := by unfold jsQ; rfl
      rw [valJ_text hn2 (r := (jsQ t ++ R).tail) (by rw [skip_jsQ]; exact hq), ← hq, quotedJ_Q htx.1 hs]
      unfold sizeL
      rfl
    · have he : spT pr po (.node 5 false ⟨#[]⟩ its []) i ++ R = pr i ++ (91 :: (po i ++ (spI pr po its true (i + 1) ++ (sgW pr po (i + 1 + (jsI its true).length) 93 ++ R)))) := by
        unfold spT
        rw [if_pos rfl]
        unfold sgW
        simp only [List.append_assoc, List.cons_append]
      rw [he, valJ_skip (skip_blank (hpr i))]
      refine ⟨po (i + 1 + (jsI its true).length) ++ R, ?_, skip_blank (hpo _)⟩
      rw [valJ_list hn2 (skip_sign (by decide) _), each_item hpr hpo hit hpl _ _ _ _ _ (hpo i) (by omega)]
      show Except.ok (listT its, _, _) = _
      rw [Nat.add_assoc n 1]
      rfl
    · have he : spT pr po (.node 6 false ⟨#[]⟩ its ks) i ++ R = pr i ++ (123 :: (po i ++ (spP pr po ks its true (i + 1) ++ (sgW pr po (i + 1 + (jsP ks its true).length) 125 ++ R)))) := by
        unfold spT
        rw [if_neg (by decide), if_pos rfl]
        unfold sgW
        simp only [List.append_assoc, List.cons_append]
      rw [he, valJ_skip (skip_blank (hpr i))]
      refine ⟨po (i + 1 + (jsP ks its true).length) ++ R, ?_, skip_blank (hpo _)⟩
      rw [valJ_obj hn2 (skip_sign (by decide) _), each_pair hpr hpo hlen hit htx.2 (rising_nodup (keysOk_rising hok)) _ _ _ _ _ (hpo i) (by omega)]
      have hm : madeT (ks.zip its) = .node 6 false ⟨#[]⟩ its ks := by
        unfold madeT
        have h1 : (ks.zip its).map Prod.fst = ks := List.map_fst_zip (by omega)
        have h2 : (ks.zip its).map Prod.snd = its := List.map_snd_zip (by omega)
        rw [h1, h2, docObj_sorted hok hlen]
        simp only [objT, h1, h2]
      show Except.ok (madeT (ks.zip its), _, _) = _
      rw [hm, Nat.add_assoc n 1]
theorem reads_L {pr po : Nat → List UInt8} (hpr : ∀ i, AllB (pr i)) (hpo : ∀ i, AllB (po i)) : ∀ (l : List VT) (d : Nat), (∀ y ∈ l, Fine d y) → ∀ y ∈ l, ReadsB pr po d y
  | [], d, h, y, hy => by cases hy
  | x :: l, d, h, y, hy => by
    by_cases e : y = x
    · rw [e]; exact reads_T hpr hpo x d (h x (by simp))
    · exact reads_L hpr hpo l d (fun z hz => h z (List.mem_cons_of_mem _ hz)) y ((List.mem_cons.1 hy).elim (fun e2 => absurd e2 e) id)
end
/-- What is written, with blanks between its parts, is read back. -/
theorem whole_back {pr po : Nat → List UInt8} (hpr : ∀ i, AllB (pr i)) (hpo : ∀ i, AllB (po i)) {T : VT} (h : Fine 24 T) (hs : sizeT T ≤ 2000) {t : ByteArray} (ht : t.data.toList = spT pr po T 0) (hl : t.size ≤ 65536) : wholeJ t = .ok T := by
  obtain ⟨R', e1, e2⟩ := reads_T hpr hpo T 24 h 0 0 [] rfl (by omega)
  rw [List.append_nil] at e1
  unfold wholeJ
  rw [if_neg (by omega), ht, e1]
  simp only
  rw [e2]
  rfl
mutual
theorem spT_plain : ∀ (T : VT) (i : Nat), spT (fun _ => []) (fun _ => []) T i = jsT T
  | .node k b t its ks, i => by
    unfold spT
    have h1 := spI_plain its true (i + 1)
    have h2 := spP_plain ks its true (i + 1)
    by_cases h5 : k = 5
    · subst h5
      rw [if_pos rfl, h1]
      unfold jsT sgW
      rfl
    · rw [if_neg h5]
      by_cases h6 : k = 6
      · subst h6
        rw [if_pos rfl, h2]
        unfold jsT sgW
        rfl
      · rw [if_neg h6]
theorem spI_plain : ∀ (l : List VT) (f : Bool) (i : Nat), spI (fun _ => []) (fun _ => []) l f i = jsI l f
  | [], f, i => by unfold spI jsI; rfl
  | x :: l, true, i => by
    unfold spI jsI
    rw [spT_plain x i, spI_plain l false _]
    rfl
  | x :: l, false, i => by
    unfold spI jsI
    rw [spT_plain x _, spI_plain l false _]
    rfl
theorem spP_plain : ∀ (ks : List ByteArray) (l : List VT) (f : Bool) (i : Nat), spP (fun _ => []) (fun _ => []) ks l f i = jsP ks l f
  | k :: ks, x :: l, true, i => by
    unfold spP jsP
    rw [spT_plain x _, spP_plain ks l false _]
    rfl
  | k :: ks, x :: l, false, i => by
    unfold spP jsP
    rw [spT_plain x _, spP_plain ks l false _]
    rfl
  | [], l, f, i => by unfold spP jsP; rfl
  | k :: ks, [], f, i => by unfold spP jsP; rfl
end
end Go.Proofs.YtcbcjeabpjjhbaaGreatDoor
namespace Go.Proofs.YtcbcjeabpjjhbaaGreatDoor
set_option linter.unusedVariables false

theorem valid_append : ∀ (n : Nat) (X Y : List UInt8), X.length ≤ n → Lib.validD X = true → Lib.validD Y = true → Lib.validD (X ++ Y) = true
  | 0, X, Y, hl, hx, hy => by
    obtain rfl : X = [] := List.length_eq_zero_iff.1 (by omega)
    exact hy
  | n + 1, X, Y, hl, hx, hy => by
    by_cases hX : X = []
    · subst hX; exact hy
    · rw [Lib.validD_step X hX] at hx
      split at hx
      · cases hx
      · rename_i hne
        have hw := decodeL_pos hX
        have hr := (decodeL_valid X).2.2
        have he := Lib.encode_decode X hX hne
        have hd := decode_encode hr (X.drop (Lib.decodeL X).2 ++ Y)
        rw [he, ← List.append_assoc, List.take_append_drop, List.length_take, Nat.min_eq_left (Lib.decodeL_le X hX)] at hd
        have hne2 : X ++ Y ≠ [] := by simp [hX]
        rw [Lib.validD_step _ hne2, hd]
        rw [if_neg (by simpa using hne)]
        have hdr : (X ++ Y).drop (Lib.decodeL X).2 = X.drop (Lib.decodeL X).2 ++ Y := List.drop_append_of_le_length (Lib.decodeL_le X hX)
        rw [hdr]
        exact valid_append n _ Y (by rw [List.length_drop]; omega) hx hy
theorem valid_enc {r : Int} (hv : Utf8.valid r = true) : Lib.validD (Lib.encodeRune r) = true := by
  have hd := decode_encode hv []
  rw [List.append_nil] at hd
  obtain ⟨c, l, he, -, -⟩ := enc_head hv
  have hne : Lib.encodeRune r ≠ [] := by rw [he]; simp
  rw [Lib.validD_step _ hne, hd, if_neg, List.drop_length]
  · rfl
  · rintro ⟨e1, e2⟩
    have e1 : r.toNat = 65533 := e1
    have e2 : (Lib.encodeRune r).length = 1 := e2
    have hv2 : (0 ≤ r ∧ r < 55296) ∨ (57344 ≤ r ∧ r ≤ 1114111) := by
      unfold Utf8.valid at hv
      simpa using hv
    obtain rfl : r = 65533 := by omega
    revert e2
    decide
theorem pairL_valid {R R' : List UInt8} {x : Int} (h : pairL R = .ok (x, R')) : Utf8.valid x = true := by
  unfold pairL at h
  split at h
  · rename_i hv
    cases h
    exact hv
  · split at h
    · cases h
    · rename_i hn
      cases h
      unfold Utf8.valid
      simp
      omega
theorem escJ_valid {R R' : List UInt8} {x : Int} (h : escJ R = .ok (x, R')) : Utf8.valid x = true := by
  unfold escJ at h
  split at h
  · split at h
    · cases h; rfl
    · split at h
      · rename_i hl
        cases h
        unfold letterJ at hl
        repeat' split at hl
        all_goals first | (cases hl; rfl) | cases hl
      · exact pairL_valid h
  · exact pairL_valid h
theorem runeJ_valid {R R' : List UInt8} {x : Int} (h : runeJ R = .ok (x, R')) : Utf8.valid x = true := by
  unfold runeJ at h
  split at h
  · cases h
  · split at h
    · cases h
    · split at h
      · exact escJ_valid h
      · simp only at h
        split at h
        · cases h
        · cases h
          exact (decodeL_valid _).2.2
/-- A text that is read is UTF-8, and at most four bytes stand for each that was read. -/
theorem textJ_fine : ∀ (f : Nat) (R acc b R' : List UInt8), textJ f R acc = .ok (b, R') → Lib.validD acc = true → Lib.validD b = true ∧ b.length + 4 * R'.length ≤ acc.length + 4 * R.length
  | 0, R, acc, b, R', h, ha => by unfold textJ at h; cases h
  | f + 1, R, acc, b, R', h, ha => by
    unfold textJ at h
    split at h
    · cases h
      exact ⟨ha, by rw [List.length_drop]; omega⟩
    · split at h
      · cases h
      · rename_i x R1 hr
        have h1 := runeJ_len hr
        have hv := runeJ_valid hr
        have h4 : (Lib.encodeRune x).length ≤ 4 := by
          have := (Lib.encodeRuneZ_length x).2
          unfold Lib.encodeRune
          simp
          omega
        obtain ⟨h2, h3⟩ := textJ_fine f _ _ _ _ h (valid_append _ _ _ (Nat.le_refl _) ha (valid_enc hv))
        rw [List.length_append] at h3
        exact ⟨h2, by omega⟩
theorem quoted_pos {R R' : List UInt8} {s : ByteArray} (h : quotedJ R = .ok (s, R')) (hp : Lib.hasPrefix R [34] = true) : KeyOk s ∧ (jsQ s).length + 24 * R'.length ≤ 24 * R.length := by
  obtain ⟨r, rfl⟩ := pre_head.1 hp
  unfold quotedJ at h
  split at h
  · cases h
  · rename_i b R1 ht
    split at h
    · cases h
    · rename_i hl
      cases h
      obtain ⟨h1, h2⟩ := textJ_fine _ _ _ _ _ ht rfl
      have hz : (⟨b.toArray⟩ : ByteArray).size = b.length := by simp [ByteArray.size]
      have hq := textQ_len (⟨b.toArray⟩ : ByteArray).size b
      refine ⟨⟨?_, by rw [hz]; omega⟩, ?_⟩
      · unfold utfS
        simpa using h1
      · unfold jsQ
        simp only [List.length_cons, List.length_append, List.length_nil, List.drop_succ_cons, List.drop_zero] at h2 ⊢
        rw [hz] at hq ⊢
        have : (textQ b.length b).length ≤ 6 * b.length := hq
        omega
theorem all_digs : ∀ (D : List UInt8), ((D.takeWhile digJ).all fun c => decide (48 ≤ c.toNat) && decide (c.toNat ≤ 57)) = true := by
  intro D
  have hf : (fun c : UInt8 => decide (48 ≤ c.toNat) && decide (c.toNat ≤ 57)) = digJ := by
    funext c
    rw [digJ_nat]
    rfl
  rw [hf]
  exact List.all_takeWhile
theorem numJ_fine {R R' : List UInt8} {s : ByteArray} (h : numJ R = .ok (s, R')) : goodB s.data.toList = true ∧ s.data.toList.length + R'.length ≤ R.length := by
  cases h1 : (digsAt R).head?.any digJ
  · rw [numJ_no h1] at h; cases h
  by_cases h2 : 100 < (digsJ (digsAt R)).length
  · rw [numJ_long h1 h2] at h; cases h
  rw [numJ_ok h1 h2] at h
  have hdl := digsJ_len (digsAt R)
  have hal : (digsAt R).length ≤ R.length := by unfold digsAt; split <;> simp
  by_cases h48 : digsJ (digsAt R) = [48]
  · rw [if_pos h48] at h
    rw [h48] at hdl h
    cases h
    refine ⟨by decide, ?_⟩
    simp only [List.length_drop, List.length_cons, List.length_nil] at hdl ⊢
    omega
  · rw [if_neg h48] at h
    cases h
    have hx : ∀ l : List UInt8, (⟨l.toArray⟩ : ByteArray).data.toList = l := fun l => by simp
    rw [hx]
    refine ⟨?_, by rw [List.length_take, List.length_drop]; omega⟩
    have hp48 : Lib.hasPrefix (digsAt R) [48] = false := by
      cases hb : Lib.hasPrefix (digsAt R) [48] with
      | false => rfl
      | true => exact absurd (by unfold digsJ; rw [if_pos hb]) h48
    have hdw : digsJ (digsAt R) = (digsAt R).takeWhile digJ := by unfold digsJ; rw [if_neg (by rw [hp48]; decide)]
    have hne : digsJ (digsAt R) ≠ [] := by
      rw [hdw]
      cases hD : digsAt R with
      | nil => rw [hD] at h1; cases h1
      | cons c r =>
        rw [hD] at h1
        have h1 : digJ c = true := h1
        rw [List.takeWhile_cons_of_pos h1]
        simp
    have hall := all_digs (digsAt R)
    rw [← hdw] at hall
    have hhd : ¬ (digsJ (digsAt R)).head? = some 48 := by
      intro e
      have ht := digsJ_take (digsAt R)
      cases hD : digsAt R with
      | nil => rw [hD] at h1; cases h1
      | cons c r =>
        rw [hdw, hD] at e
        rw [hD] at h1 hp48
        have h1 : digJ c = true := h1
        rw [List.takeWhile_cons_of_pos h1] at e
        have e : c = 48 := by simpa using e
        subst e
        simp [Lib.hasPrefix, List.isPrefixOf] at hp48
    have ht := digsJ_take (digsAt R)
    cases hm : Lib.hasPrefix R [45]
    · have hda : digsAt R = R := by unfold digsAt; rw [if_neg (by rw [hm]; decide)]
      rw [hda] at hne hall hhd ht h2 h1 ⊢
      rw [Nat.sub_self, Nat.zero_add, ← ht]
      have htr : Lib.trimPrefix (digsJ R) [45] = digsJ R := by
        rcases trim_minus (digsJ R) with ⟨D, e, -, -⟩ | ⟨-, e, -⟩
        · rw [e] at hall
          simp at hall
        · exact e
      unfold goodB
      simp only [htr]
      rw [if_neg hhd]
      simp only [Bool.and_eq_true, decide_eq_true_eq]
      exact ⟨⟨hne, by omega⟩, hall⟩
    · obtain ⟨r, hr⟩ := pre_head.1 hm
      have hda : digsAt R = r := by unfold digsAt; rw [if_pos hm, hr]; rfl
      rw [hda] at hne hall hhd ht h2 ⊢
      have htk : R.take (R.length - r.length + (digsJ r).length) = 45 :: digsJ r := by
        rw [hr]
        have : (45 :: r).length - r.length + (digsJ r).length = (digsJ r).length + 1 := by simp only [List.length_cons]; omega
        rw [this, List.take_succ_cons, ← ht]
      rw [htk]
      have htr : Lib.trimPrefix (45 :: digsJ r) [45] = digsJ r := by
        rcases trim_minus (45 :: digsJ r) with ⟨D, e, e2, -⟩ | ⟨e, -, -⟩
        · cases e; exact e2
        · exact absurd rfl e
      unfold goodB
      simp only [htr]
      rw [if_neg hhd]
      simp only [Bool.and_eq_true, decide_eq_true_eq]
      exact ⟨⟨hne, by omega⟩, hall⟩
theorem contains_yes {k : ByteArray} : ∀ {ks : List ByteArray}, k ∈ ks → ks.contains k = true
  | a :: l, h => by
    rw [List.contains_cons]
    rcases List.mem_cons.1 h with rfl | h
    · have : (k == k) = true := by
        cases k with | mk x =>
        show (x == x) = true
        simp
      rw [this]; rfl
    · rw [contains_yes h, Bool.or_true]
/-- What is known of what is read. -/
def FineJ (d : Nat) (T : VT) (R R' : List UInt8) (n n' : Nat) : Prop := Fine d T ∧ n' = n + sizeT T ∧ n' ≤ 2000 ∧ (jsT T).length + 24 * R'.length ≤ 24 * R.length
def FineL (d : Nat) (l : List VT) : Prop := deepL d l = true ∧ plainL l = true ∧ knownL l = true ∧ utfL l = true
theorem fineL_nil (d : Nat) : FineL d [] := ⟨by unfold deepL; rfl, by unfold plainL; rfl, by unfold knownL; rfl, by unfold utfL; rfl⟩
theorem fineL_cons {d : Nat} {x : VT} {l : List VT} (h : Fine d x) (hl : FineL d l) : FineL d (x :: l) := by
  obtain ⟨h1, h2, h3, h4⟩ := h
  obtain ⟨k1, k2, k3, k4⟩ := hl
  refine ⟨?_, ?_, ?_, ?_⟩
  · unfold deepL; rw [h1, k1]; rfl
  · unfold plainL; rw [h2, k2]; rfl
  · unfold knownL; rw [h3, k3]; rfl
  · unfold utfL; rw [h4, k4]; rfl
theorem jsI_tail : ∀ l : List VT, (jsI l true).length ≤ (jsI l false).length
  | [] => by unfold jsI; exact Nat.le_refl _
  | x :: l => by unfold jsI; simp
/-- Of the values that are read one behind the other. -/
theorem seq_fine {d : Nat} (h : ∀ R n T R' n', n ≤ 2000 → valJ d R n = .ok (T, R', n') → FineJ d T R R' n n') : ∀ (f : Nat) (st : List VT) (R : List UInt8) (n : Nat) (l : List VT) (R' : List UInt8) (n' : Nat), n ≤ 2000 → seqJ (itemJ (valJ d)) 93 f st R n = .ok (l, R', n') →
    ∃ m, l = st ++ m ∧ FineL d m ∧ n' = n + sizeL m ∧ n' ≤ 2000 ∧ (jsI m false).length + 24 * R'.length ≤ 24 * R.length
  | 0, st, R, n, l, R', n', hn, he => by unfold seqJ at he; cases he
  | f + 1, st, R, n, l, R', n', hn, he => by
    unfold seqJ itemJ at he
    cases hv : valJ d R n with
    | error e => rw [hv] at he; cases he
    | ok y =>
      obtain ⟨T, R1, n1⟩ := y
      rw [hv] at he
      obtain ⟨hf, h1, h2, h3⟩ := h _ _ _ _ _ hn hv
      have hsk := skipB_le R1
      simp only at he
      split at he
      · rename_i hp
        obtain ⟨r, hr⟩ := pre_head.1 hp
        rw [hr] at he hsk
        cases he
        rw [List.drop_succ_cons, List.drop_zero] at *
        rw [List.length_cons] at hsk
        refine ⟨[T], rfl, fineL_cons hf (fineL_nil d), ?_, h2, ?_⟩
        · rw [h1]; unfold sizeL sizeL; rfl
        · unfold jsI jsI
          simp only [List.length_append, List.length_nil]
          simp
          omega
      · split at he
        · rename_i hp
          obtain ⟨r, hr⟩ := pre_head.1 hp
          rw [hr, List.drop_succ_cons, List.drop_zero] at he
          rw [hr, List.length_cons] at hsk
          obtain ⟨m, e1, e2, e3, e4, e5⟩ := seq_fine h f _ _ _ _ _ _ h2 he
          refine ⟨T :: m, by rw [e1]; simp, fineL_cons hf e2, ?_, e4, ?_⟩
          · rw [e3, h1]
            conv => rhs; unfold sizeL
            omega
          · unfold jsI
            simp
            omega
        · cases he
theorem each_fine {d : Nat} (h : ∀ R n T R' n', n ≤ 2000 → valJ d R n = .ok (T, R', n') → FineJ d T R R' n n') {r : List UInt8} {n n' : Nat} {l : List VT} {R' : List UInt8} (hn : n ≤ 2000) (he : eachJ (itemJ (valJ d)) 93 [] (91 :: r) n = .ok (l, R', n')) :
    FineL d l ∧ n' = n + sizeL l ∧ n' ≤ 2000 ∧ (jsI l true).length + 2 + 24 * R'.length ≤ 24 * (91 :: r).length := by
  unfold eachJ at he
  rw [List.drop_succ_cons, List.drop_zero] at he
  have hsk := skipB_le r
  split at he
  · cases he
    refine ⟨fineL_nil d, by unfold sizeL; rfl, hn, ?_⟩
    unfold jsI
    simp only [List.length_cons, List.length_nil, List.length_drop]
    omega
  · obtain ⟨m, e1, e2, e3, e4, e5⟩ := seq_fine h _ _ _ _ _ _ _ hn he
    have e1 : l = m := by simpa using e1
    subst e1
    have := jsI_tail l
    exact ⟨e2, e3, e4, by rw [List.length_cons]; omega⟩
theorem jsP_tail : ∀ (ks : List ByteArray) (l : List VT), (jsP ks l true).length ≤ (jsP ks l false).length
  | [], l => by unfold jsP; exact Nat.le_refl _
  | k :: ks, [] => by unfold jsP; exact Nat.le_refl _
  | k :: ks, x :: l => by unfold jsP; simp
theorem seqp_fine {d : Nat} (h : ∀ R n T R' n', n ≤ 2000 → valJ d R n = .ok (T, R', n') → FineJ d T R R' n n') : ∀ (f : Nat) (st : List (ByteArray × VT)) (R : List UInt8) (n : Nat) (l : List (ByteArray × VT)) (R' : List UInt8) (n' : Nat), n ≤ 2000 → seqJ (pairJ (valJ d)) 125 f st R n = .ok (l, R', n') → (st.map Prod.fst).Nodup →
    ∃ m, l = st ++ m ∧ (l.map Prod.fst).Nodup ∧ (∀ p ∈ m, KeyOk p.1) ∧ (∀ p ∈ m, Fine d p.2) ∧ n' = n + sizeL (m.map Prod.snd) ∧ n' ≤ 2000 ∧ (m.map fun p => (jsQ p.1).length + (jsT p.2).length + 2).sum + 24 * R'.length ≤ 24 * R.length
  | 0, st, R, n, l, R', n', hn, he, hnd => by unfold seqJ at he; cases he
  | f + 1, st, R, n, l, R', n', hn, he, hnd => by
    unfold seqJ pairJ at he
    cases hk : keyJ (st.map Prod.fst) R with
    | error e => rw [hk] at he; cases he
    | ok z =>
      obtain ⟨k, R0⟩ := z
      rw [hk] at he
      simp only at he
      have hsk0 := skipB_le R
      have hkey : KeyOk k ∧ k ∉ st.map Prod.fst ∧ (jsQ k).length + 24 * R0.length ≤ 24 * R.length := by
        unfold keyJ at hk
        split at hk
        · rename_i hp
          split at hk
          · cases hk
          · rename_i hq
            split at hk
            · cases hk
            · rename_i hc
              cases hk
              obtain ⟨q1, q2⟩ := quoted_pos hq hp
              refine ⟨q1, fun hm => hc ?_, by omega⟩
              exact contains_yes hm
        · cases hk
      obtain ⟨hk1, hk2, hk3⟩ := hkey
      have hsk1 := skipB_le R0
      split at he
      · rename_i e hcontra
        cases he
      · rename_i st1 R1 n1 hpair
        split at hpair
        · rename_i hp58
          obtain ⟨r58, hr58⟩ := pre_head.1 hp58
          rw [hr58, List.drop_succ_cons, List.drop_zero] at hpair
          rw [hr58, List.length_cons] at hsk1
          cases hv : valJ d r58 n with
          | error e => rw [hv] at hpair; cases hpair
          | ok y =>
            obtain ⟨T, R1', n1'⟩ := y
            rw [hv] at hpair
            cases hpair
            obtain ⟨hf, h1, h2, h3⟩ := h _ _ _ _ _ hn hv
            have hnd1 : ((st ++ [(k, T)]).map Prod.fst).Nodup := by
              rw [List.map_append, List.nodup_append]
              refine ⟨hnd, by simp, fun a ha b hb e => ?_⟩
              have hb : b = k := by simpa using hb
              rw [e, hb] at ha
              exact hk2 ha
            have hsk := skipB_le R1
            split at he
            · rename_i hp
              obtain ⟨r, hr⟩ := pre_head.1 hp
              rw [hr, List.drop_succ_cons, List.drop_zero] at he
              rw [hr, List.length_cons] at hsk
              cases he
              refine ⟨[(k, T)], rfl, hnd1, by simpa using hk1, by simpa using hf, ?_, h2, ?_⟩
              · rw [h1]
                show _ = n + sizeL [T]
                unfold sizeL sizeL
                rfl
              · simp
                omega
            · split at he
              · rename_i hp
                obtain ⟨r, hr⟩ := pre_head.1 hp
                rw [hr, List.drop_succ_cons, List.drop_zero] at he
                rw [hr, List.length_cons] at hsk
                obtain ⟨m, e1, e2, e3, e4, e5, e6, e7⟩ := seqp_fine h f _ _ _ _ _ _ h2 he hnd1
                refine ⟨(k, T) :: m, by rw [e1]; simp, e2, ?_, ?_, ?_, e6, ?_⟩
                · intro p hp
                  rcases List.mem_cons.1 hp with rfl | hp
                  · exact hk1
                  · exact e3 p hp
                · intro p hp
                  rcases List.mem_cons.1 hp with rfl | hp
                  · exact hf
                  · exact e4 p hp
                · rw [e5, h1, List.map_cons]
                  conv => rhs; unfold sizeL
                  simp only
                  omega
                · rw [List.map_cons, List.sum_cons]
                  simp only
                  omega
              · cases he
        · cases hpair
end Go.Proofs.YtcbcjeabpjjhbaaGreatDoor
