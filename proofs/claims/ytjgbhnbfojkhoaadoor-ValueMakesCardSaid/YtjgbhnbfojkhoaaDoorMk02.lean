/- Plain mathematics: decimal texts and their values; what is a number's text. It speaks of no program · readLimb, readSize: digits as limbs -/
import Derived.Lib.Strings
import Derived.Test.YtjgbhnbfojkhoaaDoorMk01
namespace Go.Proofs.YtjgbhnbfojkhoaaDoor
open Go.Lib

/-- The digits' value. -/
def dval (l : List UInt8) : Nat := l.foldl (fun a c => a * 10 + (c.toNat - 48)) 0
/-- Digits alone. -/
def Digs (l : List UInt8) : Prop := ∀ c ∈ l, 48 ≤ c.toNat ∧ c.toNat ≤ 57

theorem dval_nil : dval [] = 0 := rfl
theorem dval_snoc (l : List UInt8) (c : UInt8) : dval (l ++ [c]) = dval l * 10 + (c.toNat - 48) := by simp [dval, List.foldl_append]
theorem Digs.left {a b : List UInt8} (h : Digs (a ++ b)) : Digs a := fun c hc => h c (List.mem_append_left _ hc)
theorem Digs.right {a b : List UInt8} (h : Digs (a ++ b)) : Digs b := fun c hc => h c (List.mem_append_right _ hc)
theorem Digs.append {a b : List UInt8} (ha : Digs a) (hb : Digs b) : Digs (a ++ b) := fun c hc => by
  rcases List.mem_append.1 hc with h | h
  · exact ha c h
  · exact hb c h
theorem Digs.take {l : List UInt8} (h : Digs l) (k : Nat) : Digs (l.take k) := fun c hc => h c (List.mem_of_mem_take hc)
theorem Digs.drop {l : List UInt8} (h : Digs l) (k : Nat) : Digs (l.drop k) := fun c hc => h c (List.mem_of_mem_drop hc)

theorem head_app {α : Type} {l m : List α} (h : l ≠ []) : (l ++ m).head? = l.head? := by
  match l, h with
  | x :: l, _ => rfl

theorem bytes_len (s : ByteArray) : s.data.toList.length = s.size := by rw [Array.length_toList]; rfl
theorem bytes_at (s : ByteArray) (k : Nat) (h : k < s.size) : s.data.toList[k]'(by rw [bytes_len]; exact h) = s[k] := rfl
theorem bytes_mem (s : ByteArray) (k : Nat) (h : k < s.size) : s[k] ∈ s.data.toList := by rw [← bytes_at s k h]; exact List.getElem_mem _

theorem snoc_ind {α : Type} {P : List α → Prop} (h0 : P []) (h1 : ∀ l c, P l → P (l ++ [c])) (l : List α) : P l := by
  have : ∀ n (l : List α), l.length = n → P l := by
    intro n
    induction n with
    | zero => intro l hl; rw [List.length_eq_zero_iff.1 hl]; exact h0
    | succ n ih =>
      intro l hl
      have hn : l ≠ [] := by intro h; subst h; simp at hl
      rw [← List.dropLast_concat_getLast hn]
      exact h1 _ _ (ih _ (by simp [hl]))
  exact this _ l rfl

theorem dval_append (a b : List UInt8) : dval (a ++ b) = dval a * 10 ^ b.length + dval b := by
  induction b using snoc_ind with
  | h0 => simp [dval_nil]
  | h1 b c ih =>
    rw [← List.append_assoc, dval_snoc, ih, dval_snoc, List.length_append, List.length_singleton, Nat.pow_succ, Nat.add_mul, Nat.mul_assoc, Nat.add_assoc]

theorem dval_lt {l : List UInt8} (h : Digs l) : dval l < 10 ^ l.length := by
  induction l using snoc_ind with
  | h0 => simp [dval_nil]
  | h1 l c ih =>
    have := ih h.left
    have hc := h c (by simp)
    rw [dval_snoc, List.length_append, List.length_singleton, Nat.pow_succ]
    omega

theorem ofNat_toNat {k : Nat} (h : k < 256) : (UInt8.ofNat k).toNat = k := by simp; omega

theorem digs_decDigits (n : Nat) : Digs (decDigits n) := by
  induction n using Nat.strongRecOn with
  | _ n ih =>
    rw [decDigits]
    split
    · intro c hc
      rw [List.mem_singleton] at hc
      subst hc
      rw [ofNat_toNat (by omega)]; omega
    · refine (ih (n / 10) (by omega)).append fun c hc => ?_
      rw [List.mem_singleton] at hc
      subst hc
      rw [ofNat_toNat (by omega)]; omega

theorem dval_decDigits (n : Nat) : dval (decDigits n) = n := by
  induction n using Nat.strongRecOn with
  | _ n ih =>
    rw [decDigits]
    split
    · have := dval_snoc [] (UInt8.ofNat (48 + n))
      rw [List.nil_append] at this
      rw [this, dval_nil, ofNat_toNat (by omega)]; omega
    · rw [dval_snoc, ih (n / 10) (by omega), ofNat_toNat (by omega)]; omega

theorem decDigits_ne (n : Nat) : decDigits n ≠ [] := fun h => by
  have := decDigits_length n
  have h2 := nDigits_pos n
  rw [h] at this; simp at this; omega

/-- A text of digits without a 0 ahead. -/
def Canon (l : List UInt8) : Prop := Digs l ∧ l ≠ [] ∧ (1 < l.length → l.head? ≠ some 48)

theorem decDigits_snoc {n d : Nat} (hn : n ≠ 0) (hd : d < 10) : decDigits (n * 10 + d) = decDigits n ++ [UInt8.ofNat (48 + d)] := by
  rw [decDigits, dif_neg (by omega), show (n * 10 + d) / 10 = n by omega, show (n * 10 + d) % 10 = d by omega]

theorem byte_of {c : UInt8} (h : 48 ≤ c.toNat ∧ c.toNat ≤ 57) : UInt8.ofNat (48 + (c.toNat - 48)) = c := by
  rw [show 48 + (c.toNat - 48) = c.toNat by omega]; simp

/-- A text of digits without a 0 ahead is its value's. -/
theorem decDigits_dval {l : List UInt8} (h : Canon l) : decDigits (dval l) = l := by
  induction l using snoc_ind with
  | h0 => exact absurd rfl h.2.1
  | h1 l c ih =>
    have hc := h.1 c (by simp)
    by_cases hl : l = []
    · subst hl
      have := dval_snoc [] c
      rw [dval_nil] at this
      rw [this, decDigits_one (by omega)]
      simp only [List.nil_append, Nat.zero_mul, Nat.zero_add]
      rw [byte_of hc]
    · have h2 : Canon l := ⟨h.1.left, hl, fun hlen => by
        have := h.2.2 (by simp; omega)
        rwa [head_app hl] at this⟩
      have h3 := ih h2
      have h4 : dval l ≠ 0 := by
        intro h0
        rw [h0] at h3
        have h5 : l = [48] := by rw [← h3, decDigits_one (by omega)]; rfl
        have := h.2.2 (by rw [h5]; simp)
        rw [h5] at this
        simp at this
      rw [dval_snoc, decDigits_snoc h4 (by omega), h3, byte_of hc]

theorem nDigits_le {n k : Nat} (hk : 1 ≤ k) (h : n < 10 ^ k) : nDigits n ≤ k := by
  induction k generalizing n with
  | zero => omega
  | succ k ih =>
    by_cases h10 : n < 10
    · rw [nDigits_small h10]; omega
    · rw [nDigits_big h10]
      rw [Nat.pow_succ] at h
      have : 1 ≤ k := by
        rcases Nat.eq_zero_or_pos k with e | e
        · subst e; simp at h; omega
        · exact e
      have := @ih (n / 10) this (by omega)
      omega

theorem canon_decDigits (n : Nat) : Canon (decDigits n) := by
  refine ⟨digs_decDigits n, decDigits_ne n, ?_⟩
  induction n using Nat.strongRecOn with
  | _ n ih =>
    intro hl
    rw [decDigits_length] at hl
    by_cases h10 : n < 10
    · rw [nDigits_small h10] at hl; omega
    · rw [decDigits, dif_neg h10, head_app (decDigits_ne _)]
      by_cases h : 1 < (decDigits (n / 10)).length
      · exact ih _ (by omega) h
      · have h1 : n / 10 < 10 := by
          by_cases h9 : n / 10 < 10
          · exact h9
          · rw [decDigits_length, nDigits_big h9] at h
            have := nDigits_pos (n / 10 / 10)
            omega
        rw [decDigits_one h1]
        simp only [List.head?_cons, ne_eq, Option.some.injEq]
        intro e
        have := congrArg UInt8.toNat e
        rw [ofNat_toNat (by omega)] at this
        simp at this
        omega

/-- The test of num.Good. -/
def goodB (l : List UInt8) : Bool :=
  let d := trimPrefix l [45]
  decide (d ≠ []) && decide (d.length ≤ 100) && (if d.head? = some 48 then decide (l = [48]) else d.all fun c => decide (48 ≤ c.toNat) && decide (c.toNat ≤ 57))

theorem trim_minus (l : List UInt8) : (∃ r, l = 45 :: r ∧ trimPrefix l [45] = r ∧ hasPrefix l [45] = true) ∨ (l.head? ≠ some 45 ∧ trimPrefix l [45] = l ∧ hasPrefix l [45] = false) := by
  match l with
  | [] => right; simp [trimPrefix, hasPrefix]
  | c :: r =>
    by_cases h : c = 45
    · subst h; left; exact ⟨r, rfl, by simp [trimPrefix, hasPrefix], by simp [hasPrefix]⟩
    · right
      have : hasPrefix (c :: r) [45] = false := by
        unfold hasPrefix
        simp only [List.isPrefixOf, Bool.and_eq_false_iff, beq_eq_false_iff_ne]
        exact Or.inl (fun h' => h h'.symm)
      exact ⟨by simpa using h, by simp [trimPrefix, this], this⟩

/-- The numbers that have at most 100 digits. -/
def Fits (n : Int) : Prop := n.natAbs < 10 ^ 100

theorem itoa_ne (n : Int) : itoa n ≠ [] := by
  unfold itoa
  split
  · simp
  · exact decDigits_ne _

theorem nDigits_ge {n k : Nat} (h : 10 ^ k ≤ n) : k < nDigits n := by
  have h1 := lt_pow_nDigits n
  by_cases h2 : k < nDigits n
  · exact h2
  · exfalso
    have : 10 ^ nDigits n ≤ 10 ^ k := Nat.pow_le_pow_right (by omega) (by omega)
    omega

theorem dec_all (n : Nat) : (decDigits n).all (fun c => decide (48 ≤ c.toNat) && decide (c.toNat ≤ 57)) = true := by
  rw [List.all_eq_true]
  intro c hc
  have := digs_decDigits n c hc
  simp [this]

theorem dec_head0 {n : Nat} (h : (decDigits n).head? = some 48) : n = 0 := by
  have hc := canon_decDigits n
  by_cases hl : 1 < (decDigits n).length
  · exact absurd h (hc.2.2 hl)
  · have h1 : n < 10 := by
      by_cases h9 : n < 10
      · exact h9
      · rw [decDigits_length, nDigits_big h9] at hl
        have := nDigits_pos (n / 10)
        omega
    rw [decDigits_one h1] at h
    simp only [List.head?_cons, Option.some.injEq] at h
    have := congrArg UInt8.toNat h
    rw [ofNat_toNat (by omega)] at this
    simp at this
    omega

theorem dec_minus (n : Nat) : (decDigits n).head? ≠ some 45 := by
  intro h
  have hm : (45 : UInt8) ∈ decDigits n := List.mem_of_mem_head? (by rw [h]; rfl)
  have := digs_decDigits n _ hm
  simp at this

/-- What num.Good takes is the text of a number. -/
theorem good_iff (l : List UInt8) : goodB l = true ↔ ∃ n : Int, Fits n ∧ l = itoa n := by
  constructor
  · intro h
    unfold goodB at h
    simp only [Bool.and_eq_true, decide_eq_true_eq] at h
    obtain ⟨⟨h1, h2⟩, h3⟩ := h
    have main : ∀ d : List UInt8, d ≠ [] → d.length ≤ 100 → d.head? ≠ some 48 → (d.all fun c => decide (48 ≤ c.toNat) && decide (c.toNat ≤ 57)) = true → decDigits (dval d) = d ∧ dval d < 10 ^ 100 ∧ dval d ≠ 0 := by
      intro d a b c e
      have hd : Digs d := fun x hx => by have := List.all_eq_true.1 e x hx; simpa using this
      have e1 := decDigits_dval ⟨hd, a, fun _ => c⟩
      refine ⟨e1, Nat.lt_of_lt_of_le (dval_lt hd) (Nat.pow_le_pow_right (by omega) b), fun h0 => ?_⟩
      rw [h0, decDigits_one (by omega)] at e1
      rw [← e1] at c
      exact c rfl
    rcases trim_minus l with ⟨r, rfl, e1, _⟩ | ⟨h0, e1, _⟩
    · rw [e1] at h1 h2 h3
      by_cases h4 : r.head? = some 48
      · rw [if_pos h4] at h3; simp at h3
      · rw [if_neg h4] at h3
        obtain ⟨a, b, c⟩ := main r h1 h2 h4 h3
        refine ⟨-(dval r : Int), by unfold Fits; omega, ?_⟩
        rw [itoa_neg _ (by omega), a]
    · rw [e1] at h1 h2 h3
      by_cases h4 : l.head? = some 48
      · rw [if_pos h4] at h3
        have h3 : l = [48] := by simpa using h3
        exact ⟨0, by unfold Fits; simp, by rw [h3]; rw [show (0 : Int) = ((0 : Nat) : Int) from rfl, itoa_nonneg, decDigits_one (by omega)]; rfl⟩
      · rw [if_neg h4] at h3
        obtain ⟨a, b, c⟩ := main l h1 h2 h4 h3
        exact ⟨(dval l : Int), by unfold Fits; omega, by rw [itoa_nonneg, a]⟩
  · rintro ⟨n, hn, rfl⟩
    unfold Fits at hn
    have main : ∀ m : Nat, m < 10 ^ 100 → decDigits m ≠ [] ∧ (decDigits m).length ≤ 100 := fun m hm => ⟨decDigits_ne m, by rw [decDigits_length]; exact nDigits_le (by omega) hm⟩
    unfold goodB
    simp only [Bool.and_eq_true, decide_eq_true_eq]
    by_cases h : n < 0
    · obtain ⟨m, rfl⟩ : ∃ m : Nat, n = -(m : Int) := ⟨n.natAbs, by omega⟩
      have hm : m < 10 ^ 100 := by omega
      rw [itoa_neg m (by omega)]
      have e : trimPrefix (45 :: decDigits m) [45] = decDigits m := by simp [trimPrefix, hasPrefix]
      rw [e]
      refine ⟨main m hm, ?_⟩
      rw [if_neg (fun h0 => by have := dec_head0 h0; omega)]
      exact dec_all m
    · obtain ⟨m, rfl⟩ : ∃ m : Nat, n = (m : Int) := ⟨n.natAbs, by omega⟩
      have hm : m < 10 ^ 100 := by omega
      rw [itoa_nonneg]
      have e : trimPrefix (decDigits m) [45] = decDigits m := by
        rcases trim_minus (decDigits m) with ⟨r, e, _⟩ | ⟨_, e, _⟩
        · exact absurd (by rw [e]; rfl) (dec_minus m)
        · exact e
      rw [e]
      refine ⟨main m hm, ?_⟩
      split
      · rename_i h0
        have := dec_head0 h0
        subst this
        rw [decDigits_one (by omega)]; rfl
      · exact dec_all m

end Go.Proofs.YtjgbhnbfojkhoaaDoor
namespace Go.Proofs.YtjgbhnbfojkhoaaDoor
open Go.RowKit

theorem at_take {l : List UInt8} {k : Nat} (h : k < l.length) : l.take (k + 1) = l.take k ++ [l[k]] := by rw [List.take_succ_eq_append_getElem h]

theorem dval_small {l : List UInt8} (h : Digs l) (hl : l.length ≤ 9) : dval l < 1000000000 :=
  Nat.lt_of_lt_of_le (dval_lt h) (Nat.pow_le_pow_right (n := 10) (by omega) hl)

set_option maxHeartbeats 400000 in
theorem readLimb_any (s : ByteArray) (w : World) (hd : Digs s.data.toList) (hl : s.data.toList.length ≤ 9) :
    Calls Tryd.prog 87 #[.string s] w fun e w' => e = .returned (.int .u64 ((dval s.data.toList : Nat) : Int)) ∧ w = w' := by
  have hs9 : s.size ≤ 9 := by rw [Array.length_toList] at hl; exact hl
  have hsz : Hid (s.data.toList.length = s.size) := Lib.hid (by rw [Array.length_toList]; rfl)
  clear hl
  go_enter Tryd.func87, Tryd.ntmps87
  go_wp2
  go_loop [3, 7] (fun v i => ∃ k n : Nat, k ≤ s.size ∧ i = .int .i64 k ∧ v = .int .u64 (n : Int) ∧ Hid (n = dval (s.data.toList.take k))) (fun _ i => s.size - (intOf i).toNat)
  case atStart => exact ⟨0, 0, Nat.zero_le _, rfl, rfl, Lib.hid rfl⟩
  case round =>
    obtain ⟨k, n, hk, rfl, rfl, HN⟩ := hrel
    have hn : n < 100000000 ∨ k = s.size := by
      rcases Nat.lt_or_ge k s.size with h | h
      · left
        have h1 := dval_lt (hd.take k)
        rw [← HN.out, List.length_take, hsz.out, Nat.min_eq_left (by omega)] at h1
        exact Nat.lt_of_lt_of_le h1 (Nat.pow_le_pow_right (n := 10) (by omega) (show k ≤ 8 by omega))
      · right; omega
    by_cases hlt : k < s.size
    · have hn2 : n < 100000000 := by omega
      have hc : 48 ≤ s[k].toNat ∧ s[k].toNat ≤ 57 := hd s[k] (bytes_mem s k hlt)
      have HS : Hid (dval (s.data.toList.take (k + 1)) = n * 10 + (s[k].toNat - 48)) := Lib.hid (by
        rw [at_take (by rw [hsz.out]; exact hlt), dval_snoc, HN.out]; rfl)
      obtain ⟨hc1, hc2⟩ := hc
      clear hn
      go_wp2
      go_round
      case rel => exact ⟨k + 1, n * 10 + (s[k].toNat - 48), by omega, by go_num, by go_num, Lib.hid HS.out.symm⟩
      case measure => simp [intOf]; omega
    · clear hn
      go_wp2
      go_ret
      exact ⟨by rw [HN.out, List.take_of_length_le (by rw [hsz.out]; omega)]; rfl, rfl⟩

end Go.Proofs.YtjgbhnbfojkhoaaDoor
