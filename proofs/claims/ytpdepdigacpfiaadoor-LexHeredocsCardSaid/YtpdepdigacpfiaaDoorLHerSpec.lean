/- Heredocs of plain lines, and the text between quotes that they are. -/
import Derived.Test.YtpdepdigacpfiaaDoorLAsc
import Derived.KernelRfl
namespace Go.Proofs.YtpdepdigacpfiaaDoor
open Go.RowKit
set_option linter.unusedVariables false

/-- A byte as it stands between quotes. -/
def pl (c : UInt8) : List UInt8 := if c = 92 ∨ c = 34 ∨ c = 36 then [92, c] else if c = 10 then [92, 110] else if c = 9 then [92, 116] else if c = 13 then [92, 114] else [c]
def plain (l : List UInt8) : List UInt8 := l.flatMap pl
theorem plain_cons (c : UInt8) (l : List UInt8) : plain (c :: l) = pl c ++ plain l := by unfold plain; rw [List.flatMap_cons]
theorem plain_app (a b : List UInt8) : plain (a ++ b) = plain a ++ plain b := by unfold plain; rw [List.flatMap_append]
theorem esc_small : ∀ n, n < 128 → escRune n = pl (UInt8.ofNat n) := by decide +kernel
theorem esc_pl {c : UInt8} (h : c.toNat < 128) : escRune c.toNat = pl c := by
  rw [esc_small _ h]
  simp
theorem escFrom_plain {t : ByteArray} (h : Asc t) : ∀ n p, t.size ≤ p + n → escFrom t n p = plain (t.data.toList.drop p)
  | 0, p, hn => by
    have : t.data.toList.length = t.size := by simp
    rw [List.drop_of_length_le (by omega)]
    rfl
  | n + 1, p, hn => by
    have hl : t.data.toList.length = t.size := by simp
    unfold escFrom
    split
    · rename_i hp
      have hp2 : p < t.data.toList.length := by omega
      have ha : (t[p]'hp).toNat < 128 := h _ (List.getElem_mem hp2)
      have hd := decode_ascii t p hp ha
      rw [hd, List.drop_eq_getElem_cons hp2, plain_cons]
      show escRune (t[p]'hp).toNat ++ escFrom t n (p + 1) = _
      rw [esc_pl ha, escFrom_plain h n (p + 1) (by omega)]
      rfl
    · rw [List.drop_of_length_le (by omega)]
      rfl
theorem escB_plain {l : List UInt8} (h : ∀ c ∈ l, c.toNat < 128) : escB l = plain l := by
  unfold escB
  have hsz : (⟨l.toArray⟩ : ByteArray).size = l.length := by show l.toArray.size = _; simp
  rw [escFrom_plain (t := ⟨l.toArray⟩) h l.length 0 (by omega)]
  rfl

/-! ### between quotes -/
/-- A byte that stands for itself. -/
def raw (c : UInt8) : Bool := notIn [34, 92, 36, 10, 9, 13] c
theorem pl_raw {c : UInt8} (h : raw c = true) : pl c = [c] := by
  unfold raw notIn at h
  simp at h
  unfold pl
  simp [h]
theorem pl_two {c : UInt8} (h : raw c = false) : ∃ x, pl c = [92, x] ∧ [34, 92, 110, 116, 114, 36].contains x = true := by
  unfold raw notIn at h
  have hm : c ∈ ([34, 92, 36, 10, 9, 13] : List UInt8) := List.contains_iff_mem.1 (by cases hc : ([34, 92, 36, 10, 9, 13] : List UInt8).contains c; rw [hc] at h; cases h; rfl)
  simp only [List.mem_cons, List.mem_nil_iff, or_false] at hm
  rcases hm with rfl | rfl | rfl | rfl | rfl | rfl
  all_goals exact ⟨_, rfl, by decide⟩
theorem raw_stays {c : UInt8} (h : raw c = true) : notIn [34, 92, 36, 10] c = true := by
  unfold raw notIn at h
  simp at h
  unfold notIn
  simp [h]
theorem run_plain : ∀ l : List UInt8, (plain l ++ [34]).dropWhile (notIn [34, 92, 36, 10]) = plain (l.dropWhile raw) ++ [34]
  | [] => by rfl
  | c :: l => by
    cases h : raw c with
    | true =>
      rw [plain_cons, pl_raw h, List.dropWhile_cons_of_pos h]
      show (c :: (plain l ++ [34])).dropWhile _ = _
      rw [List.dropWhile_cons_of_pos (raw_stays h), run_plain l]
    | false =>
      obtain ⟨x, hx, -⟩ := pl_two h
      rw [List.dropWhile_cons_of_neg (by rw [h]; decide), plain_cons, hx]
      show (92 :: x :: (plain l ++ [34])).dropWhile _ = _
      rw [List.dropWhile_cons_of_neg (by decide)]
      rfl
theorem toEnd_plain {b : List UInt8 → Left} (hb : GoesOn b) : ∀ (n : Nat) (l : List UInt8), l.length ≤ n → toEndA (textPart b) 34 (plain l ++ [34]) = .ok []
  | n, [], _ => toEndA_end (by decide)
  | 0, c :: l, h => by simp at h
  | n + 1, c :: l, h => by
    simp only [List.length_cons] at h
    cases hr : raw c with
    | true =>
      have hc : plain (c :: l) ++ [34] = c :: (plain l ++ [34]) := by rw [plain_cons, pl_raw hr]; rfl
      have h' := hr
      unfold raw notIn at h'
      simp at h'
      have e1 : ((34 : UInt8) == c) = false := beq_eq_false_iff_ne.2 (Ne.symm h'.1)
      have e2 : ((92 : UInt8) == c) = false := beq_eq_false_iff_ne.2 (Ne.symm h'.2.1)
      have e3 : ((36 : UInt8) == c) = false := beq_eq_false_iff_ne.2 (Ne.symm h'.2.2.1)
      have hp : textPart b (c :: (plain l ++ [34])) = .ok (plain (l.dropWhile raw) ++ [34]) := by
        unfold textPart
        rw [if_neg (by simp [Lib.hasPrefix, List.isPrefixOf, e2]), if_neg (by simp [Lib.hasPrefix, List.isPrefixOf, e3]), if_neg (by simp [Lib.hasPrefix, List.isPrefixOf, e3])]
        unfold runL
        have hd : (c :: (plain l ++ [34])).dropWhile (notIn [34, 92, 36, 10]) = plain (l.dropWhile raw) ++ [34] := by rw [List.dropWhile_cons_of_pos (raw_stays hr), run_plain]
        have hle := dropWhile_le (q := notIn [34, 92, 36, 10]) (plain l ++ [34])
        rw [run_plain] at hle
        rw [hd, if_pos (by simp only [List.length_cons]; omega)]
      rw [hc, toEndA_part (textPart_on hb) (by simp [Lib.hasPrefix, List.isPrefixOf, e1]) hp]
      have := dropWhile_le (q := raw) l
      exact toEnd_plain hb n _ (by omega)
    | false =>
      obtain ⟨x, hx, hx2⟩ := pl_two hr
      have hc : plain (c :: l) ++ [34] = 92 :: x :: (plain l ++ [34]) := by rw [plain_cons, hx]; rfl
      have hp : textPart b (92 :: x :: (plain l ++ [34])) = .ok (plain l ++ [34]) := by
        unfold textPart
        rw [if_pos (by rfl)]
        show (if [34, 92, 110, 116, 114, 36].contains x = true then (Except.ok (plain l ++ [34]) : Left) else .error 40) = _
        rw [if_pos hx2]
      rw [hc, toEndA_part (textPart_on hb) (by rfl) hp]
      exact toEnd_plain hb n l (by omega)
theorem quoted_plain (l : List UInt8) : nextL (34 :: (plain l ++ [34])) = (3, .ok (plain l, [])) := by
  have hn : nextL (34 :: (plain l ++ [34])) = (3, quotedL (34 :: (plain l ++ [34]))) := rfl
  rw [hn]
  unfold quotedL textL
  rw [show (34 :: (plain l ++ [34]) : List UInt8).drop 1 = plain l ++ [34] from rfl, toEnd_plain (braceL_on 24) _ l (Nat.le_refl _)]
  simp only [List.length_cons, List.length_append, List.length_nil]
  rw [show (plain l).length + (0 + 1) + 1 - 0 - 2 = (plain l).length by omega, List.take_left]

/-! ### lines -/
/-- A line of a heredoc that isn't its last. -/
structure LineOk (b : List UInt8) : Prop where
  asc : ∀ c ∈ b, c.toNat < 128
  no : ∀ c ∈ b, c ≠ 10
  head : ∃ c r, b = c :: r ∧ c ≠ 32 ∧ c ≠ 9 ∧ c ≠ 69
  len : b.length ≤ 101
def body (Ls : List (List UInt8)) : List UInt8 := Ls.flatMap fun b => b ++ [10]
theorem body_cons (b : List UInt8) (Ls : List (List UInt8)) : body (b :: Ls) = b ++ 10 :: body Ls := by unfold body; rw [List.flatMap_cons, List.append_assoc]; rfl
theorem body_app (a b : List (List UInt8)) : body (a ++ b) = body a ++ body b := by unfold body; rw [List.flatMap_append]
theorem body_asc {Ls : List (List UInt8)} (h : ∀ b ∈ Ls, LineOk b) : ∀ c ∈ body Ls, c.toNat < 128 := by
  intro c hc
  unfold body at hc
  rw [List.mem_flatMap] at hc
  obtain ⟨b, hb, hcb⟩ := hc
  rcases List.mem_append.1 hcb with h1 | h1
  · exact (h b hb).asc c h1
  · obtain rfl := List.mem_singleton.1 h1
    decide
theorem body_len {Ls : List (List UInt8)} (h : ∀ b ∈ Ls, LineOk b) : (body Ls).length ≤ 102 * Ls.length := by
  induction Ls with
  | nil => simp [body]
  | cons b Ls ih =>
    have h1 := ih (fun x hx => h x (List.mem_cons_of_mem _ hx))
    have h2 := (h b List.mem_cons_self).len
    rw [body_cons]
    simp only [List.length_append, List.length_cons]
    omega
theorem drop_line {b : List UInt8} {S : List UInt8} (h : ∀ c ∈ b, c ≠ 10) : (b ++ 10 :: S).dropWhile (notIn [10]) = 10 :: S := by
  induction b with
  | nil => rfl
  | cons c b ih =>
    have hc := h c List.mem_cons_self
    rw [List.cons_append, List.dropWhile_cons_of_pos (by unfold notIn; simpa using hc)]
    exact ih (fun x hx => h x (List.mem_cons_of_mem _ hx))
theorem took_app (a b : List UInt8) : tookL (a ++ b) b = a := by
  unfold tookL
  rw [List.length_append, show a.length + b.length - b.length = a.length by omega, List.take_left]
theorem here_line {b S nm B : List UInt8} (hb : LineOk b) (hnm : nm = [69, 78, 68]) : hereL ((10 :: (b ++ 10 :: S)).length + 1) nm B (10 :: (b ++ 10 :: S)) = hereL ((10 :: S).length + 1) nm B (10 :: S) := by
  rw [hereL_step (by rfl)]
  rw [show (10 :: (b ++ 10 :: S) : List UInt8).drop 1 = b ++ 10 :: S from rfl, drop_line hb.no, took_app]
  rw [if_neg]
  obtain ⟨c, r, rfl, h1, h2, h3⟩ := hb.head
  unfold Lib.trimLeftS
  rw [List.dropWhile_cons_of_neg (by simp [h1, h2])]
  subst hnm
  intro he
  have := eq_of_beq he
  injection this with h4 _
  exact h3 h4
theorem here_all {nm B tail : List UInt8} (hnm : nm = [69, 78, 68]) : ∀ (Ls : List (List UInt8)), (∀ b ∈ Ls, LineOk b) → hereL ((10 :: (body Ls ++ tail)).length + 1) nm B (10 :: (body Ls ++ tail)) = hereL ((10 :: tail).length + 1) nm B (10 :: tail)
  | [], _ => rfl
  | b :: Ls, h => by
    rw [body_cons, List.append_assoc, List.cons_append, here_line (h b List.mem_cons_self) hnm]
    exact here_all hnm Ls (fun x hx => h x (List.mem_cons_of_mem _ hx))
def hereT (Ls : List (List UInt8)) (tail : List UInt8) : List UInt8 := 60 :: 60 :: 69 :: 78 :: 68 :: 10 :: (body Ls ++ tail)
theorem next_here (Ls : List (List UInt8)) (tail : List UInt8) (h : ∀ b ∈ Ls, LineOk b) : nextL (hereT Ls tail) = (3, hereL ((10 :: tail).length + 1) [69, 78, 68] (body Ls ++ tail) (10 :: tail)) := by
  have hn : nextL (hereT Ls tail) = (3, heredocL (hereT Ls tail)) := rfl
  rw [hn]
  unfold heredocL
  have hd : (hereT Ls tail).drop 2 = 69 :: 78 :: 68 :: 10 :: (body Ls ++ tail) := rfl
  have hw : wordL (69 :: 78 :: 68 :: 10 :: (body Ls ++ tail)) = 10 :: (body Ls ++ tail) := by
    rw [wordL_cons, if_pos (by decide), List.dropWhile_cons_of_pos (by decide), List.dropWhile_cons_of_pos (by decide), List.dropWhile_cons_of_neg (by decide)]
  rw [hd, hw, if_pos (by simp only [List.length_cons]; omega)]
  have ht : tookL (69 :: 78 :: 68 :: 10 :: (body Ls ++ tail)) (10 :: (body Ls ++ tail)) = [69, 78, 68] := took_app [69, 78, 68] _
  rw [ht]
  show (3, hereL _ _ (body Ls ++ tail) _) = _
  rw [here_all rfl Ls h]
theorem list_text (l : List UInt8) : (⟨l.toArray⟩ : ByteArray).data.toList = l := rfl
theorem list_size (l : List UInt8) : (⟨l.toArray⟩ : ByteArray).size = l.length := by show l.toArray.size = _; simp
theorem scan_one_token {l x : List UInt8} {k : Int} {c : UInt8} {r : List UInt8} (hl : l = c :: r) (ha : ∀ c ∈ l, c.toNat < 128) (hs : l.length ≤ 16384) (hb : bytesIn [32, 9, 13] c = false) (h35 : c ≠ 35) (h47 : c ≠ 47) (hn : nextL l = (k, .ok (x, []))) : scanL ⟨l.toArray⟩ = .ok [⟨k, ⟨x.toArray⟩, 0⟩] := by
  have hbt : betweenA l = l := by rw [hl]; exact between_token hb h35 h47
  rw [scan_ascii (t := ⟨l.toArray⟩) ha (by rw [list_size]; exact hs), list_text, hbt, tokA_ok (by rw [hl]; simp) hn (by simp), list_size, Nat.sub_self, between_nil, tokA_nil]
  rfl
theorem scan_here {Ls : List (List UInt8)} (h : ∀ b ∈ Ls, LineOk b) (hl : Ls.length ≤ 40) : scanL ⟨(hereT Ls [32, 9, 69, 78, 68]).toArray⟩ = .ok [⟨3, ⟨(plain (body Ls)).toArray⟩, 0⟩] := by
  have hlen := body_len h
  have hasc := body_asc h
  refine scan_one_token (c := 60) rfl (fun c hc => ?_) (by unfold hereT; simp only [List.length_cons, List.length_append, List.length_nil]; omega) (by decide) (by decide) (by decide) ?_
  · unfold hereT at hc
    simp only [List.mem_cons, List.mem_append] at hc
    rcases hc with rfl | rfl | rfl | rfl | rfl | rfl | hc | hc
    any_goals decide
    · exact hasc c hc
    · rcases hc with rfl | rfl | rfl | rfl | rfl | hc
      any_goals decide
      cases hc
  · rw [next_here _ _ h]
    have e : hereL ((10 :: [32, 9, 69, 78, 68] : List UInt8).length + 1) [69, 78, 68] (body Ls ++ [32, 9, 69, 78, 68]) (10 :: [32, 9, 69, 78, 68]) = .ok (escB (tookL (body Ls ++ [32, 9, 69, 78, 68]) [32, 9, 69, 78, 68]), []) := by
      rw [hereL_step (by rfl)]
      rfl
    rw [e, took_app, escB_plain hasc]
theorem scan_cut {Ls : List (List UInt8)} (h : ∀ b ∈ Ls, LineOk b) (hl : Ls.length ≤ 40) : scanL ⟨(hereT Ls []).toArray⟩ = .error (40, 0) := by
  have hlen := body_len h
  have hasc := body_asc h
  have ha : Asc ⟨(hereT Ls []).toArray⟩ := fun c hc => by
    have hc' : c ∈ hereT Ls [] := hc
    unfold hereT at hc'
    simp only [List.mem_cons, List.mem_append] at hc'
    rcases hc' with rfl | rfl | rfl | rfl | rfl | rfl | hc | hc
    any_goals decide
    · exact hasc c hc
    · cases hc
  have hn : nextL (hereT Ls []) = (3, .error 40) := by rw [next_here _ _ h]; rfl
  rw [scan_ascii ha (by rw [list_size]; unfold hereT; simp only [List.length_cons, List.length_append, List.length_nil]; omega), list_text]
  have hbt : betweenA (hereT Ls []) = hereT Ls [] := between_token (by decide) (by decide) (by decide)
  rw [hbt, tokA_err (by unfold hereT; simp) hn, list_size, Nat.sub_self]
theorem plain_asc {l : List UInt8} (h : ∀ c ∈ l, c.toNat < 128) : ∀ c ∈ plain l, c.toNat < 128 := by
  intro c hc
  unfold plain at hc
  rw [List.mem_flatMap] at hc
  obtain ⟨x, hx, hc⟩ := hc
  have h1 := h x hx
  cases hr : raw x with
  | true =>
    rw [pl_raw hr, List.mem_singleton] at hc
    subst hc
    exact h1
  | false =>
    obtain ⟨y, hy, hy2⟩ := pl_two hr
    rw [hy] at hc
    rcases List.mem_cons.1 hc with rfl | hc
    · decide
    · rw [List.mem_singleton] at hc
      subst hc
      simp at hy2
      rcases hy2 with rfl | rfl | rfl | rfl | rfl | rfl <;> decide
theorem plain_len (l : List UInt8) : (plain l).length ≤ 2 * l.length := by
  induction l with
  | nil => simp [plain]
  | cons c l ih =>
    have : (pl c).length ≤ 2 := by
      cases hr : raw c with
      | true => rw [pl_raw hr]; simp
      | false => obtain ⟨y, hy, _⟩ := pl_two hr; rw [hy]; simp
    rw [plain_cons]
    simp only [List.length_append, List.length_cons]
    omega
theorem scan_quoted {Ls : List (List UInt8)} (h : ∀ b ∈ Ls, LineOk b) (hl : Ls.length ≤ 40) : scanL ⟨(34 :: (plain (body Ls) ++ [34])).toArray⟩ = .ok [⟨3, ⟨(plain (body Ls)).toArray⟩, 0⟩] := by
  have hlen := body_len h
  have hpl := plain_len (body Ls)
  have hasc := plain_asc (body_asc h)
  refine scan_one_token (c := 34) rfl (fun c hc => ?_) (by simp only [List.length_cons, List.length_append, List.length_nil]; omega) (by decide) (by decide) (by decide) (quoted_plain _)
  rcases List.mem_cons.1 hc with rfl | hc
  · decide
  · rcases List.mem_append.1 hc with hc | hc
    · exact hasc c hc
    · rw [List.mem_singleton] at hc
      subst hc
      decide
end Go.Proofs.YtpdepdigacpfiaaDoor
