/- Plain mathematics: decimal texts and their values; what is a number's text. It speaks of no program · readLimb, readSize: digits as limbs · readSize: digits as limbs · Plain mathematics for sums, differences and products by limbs. It speaks of no program · fromLast: the iterator over a size's limbs, the highest first · What a call of num makes -/
import Derived.Lib.Strings
import Derived.Lib.IndexBytes
import Derived.Lib.Split
import Derived.RangeFuncNested
import Derived.RangeFuncBound
import Derived.RangeFuncCalls
import Derived.RangeFuncLeaves
import Derived.RangeFuncBox
import Derived.Shelf.Abstract
import Derived.Shelf.RegionOpen
import Derived.WalkKit
import Derived.OwnWalkIn
import Derived.TacticsInMore
import Derived.LoopNIn
import Derived.LoopIn
import Derived.Test.YtcbcjeabpjjhbaaGreatDoorJb01
namespace Go.Proofs.YtcbcjeabpjjhbaaGreatDoor
open Go.Lib

/-- The digits' value. -/
def dval (l : List UInt8) : Nat := l.foldl (fun a c => a * 10 + (c.toNat - 48)) 0
/-- Digits alone. -/
def Digs (l : List UInt8) : Prop := ∀ c ∈ l, 48 ≤ c.toNat ∧ c.toNat ≤ 57

theorem dval_nil : dval [] = 0 := rfl
theorem dval_snoc (l : List UInt8) (c : UInt8) : dval (l ++ [c]) = dval l * 10 + (c.toNat - 48) := by simp [dval, List.foldl_append]
theorem Digs.left {a b : List UInt8} (h : Digs (a ++ b)) : Digs a := fun c hc => h c (List.mem_append_left _ hc)
theorem Digs.right {a b : List UInt8} (h : Digs (a ++ b)) : Digs b := fun c hc => h c (List.mem_append_right _ hc)
theorem Digs.append {a b : List UInt8} (ha : Digs a) (hb : Digs b) : Digs (a ++ b) := fun c hc => by
  rcases List.mem_append.1 hc with h | h
  · exact ha c h
  · exact hb c h
theorem Digs.take {l : List UInt8} (h : Digs l) (k : Nat) : Digs (l.take k) := fun c hc => h c (List.mem_of_mem_take hc)
theorem Digs.drop {l : List UInt8} (h : Digs l) (k : Nat) : Digs (l.drop k) := fun c hc => h c (List.mem_of_mem_drop hc)

theorem head_app {α : Type} {l m : List α} (h : l ≠ []) : (l ++ m).head? = l.head? := by
  match l, h with
  | x :: l, _ => rfl

theorem bytes_len (s : ByteArray) : s.data.toList.length = s.size := by rw [Array.length_toList]; rfl
theorem bytes_at (s : ByteArray) (k : Nat) (h : k < s.size) : s.data.toList[k]'(by rw [bytes_len]; exact h) = s[k] := rfl
theorem bytes_mem (s : ByteArray) (k : Nat) (h : k < s.size) : s[k] ∈ s.data.toList := by rw [← bytes_at s k h]; exact List.getElem_mem _

theorem snoc_ind {α : Type} {P : List α → Prop} (h0 : P []) (h1 : ∀ l c, P l → P (l ++ [c])) (l : List α) : P l := by
  have : ∀ n (l : List α), l.length = n → P l := by
    intro n
    induction n with
    | zero => intro l hl; rw [List.length_eq_zero_iff.1 hl]; exact h0
    | succ n ih =>
      intro l hl
      have hn : l ≠ [] := by intro h; subst h; simp at hl
      rw [← List.dropLast_concat_getLast hn]
      exact h1 _ _ (ih _ (by simp [hl]))
  exact this _ l rfl

theorem dval_append (a b : List UInt8) : dval (a ++ b) = dval a * 10 ^ b.length + dval b := by
  induction b using snoc_ind with
  | h0 => simp [dval_nil]
  | h1 b c ih =>
    rw [← List.append_assoc, dval_snoc, ih, dval_snoc, List.length_append, List.length_singleton, Nat.pow_succ, Nat.add_mul, Nat.mul_assoc, Nat.add_assoc]

theorem dval_lt {l : List UInt8} (h : Digs l) : dval l < 10 ^ l.length := by
  induction l using snoc_ind with
  | h0 => simp [dval_nil]
  | h1 l c ih =>
    have := ih h.left
    have hc := h c (by simp)
    rw [dval_snoc, List.length_append, List.length_singleton, Nat.pow_succ]
    omega

theorem ofNat_toNat {k : Nat} (h : k < 256) : (UInt8.ofNat k).toNat = k := by simp; omega

theorem digs_decDigits (n : Nat) : Digs (decDigits n) := by
  induction n using Nat.strongRecOn with
  | _ n ih =>
    rw [decDigits]
    split
    · intro c hc
      rw [List.mem_singleton] at hc
      subst hc
      rw [ofNat_toNat (by omega)]; omega
    · refine (ih (n / 10) (by omega)).append fun c hc => ?_
      rw [List.mem_singleton] at hc
      subst hc
      rw [ofNat_toNat (by omega)]; omega

theorem dval_decDigits (n : Nat) : dval (decDigits n) = n := by
  induction n using Nat.strongRecOn with
  | _ n ih =>
    rw [decDigits]
    split
    · have := dval_snoc [] (UInt8.ofNat (48 + n))
      rw [List.nil_append] at this
      rw [this, dval_nil, ofNat_toNat (by omega)]; omega
    · rw [dval_snoc, ih (n / 10) (by omega), ofNat_toNat (by omega)]; omega

theorem decDigits_ne (n : Nat) : decDigits n ≠ [] := fun h => by
  have := decDigits_length n
  have h2 := nDigits_pos n
  rw [h] at this; simp at this; omega

/-- A text of digits without a 0 ahead. -/
def Canon (l : List UInt8) : Prop := Digs l ∧ l ≠ [] ∧ (1 < l.length → l.head? ≠ some 48)

theorem decDigits_snoc {n d : Nat} (hn : n ≠ 0) (hd : d < 10) : decDigits (n * 10 + d) = decDigits n ++ [UInt8.ofNat (48 + d)] := by
  rw [decDigits, dif_neg (by omega), show (n * 10 + d) / 10 = n by omega, show (n * 10 + d) % 10 = d by omega]

theorem byte_of {c : UInt8} (h : 48 ≤ c.toNat ∧ c.toNat ≤ 57) : UInt8.ofNat (48 + (c.toNat - 48)) = c := by
  rw [show 48 + (c.toNat - 48) = c.toNat by omega]; simp

/-- A text of digits without a 0 ahead is its value's. -/
theorem decDigits_dval {l : List UInt8} (h : Canon l) : decDigits (dval l) = l := by
  induction l using snoc_ind with
  | h0 => exact absurd rfl h.2.1
  | h1 l c ih =>
    have hc := h.1 c (by simp)
    by_cases hl : l = []
    · subst hl
      have := dval_snoc [] c
      rw [dval_nil] at this
      rw [this, decDigits_one (by omega)]
      simp only [List.nil_append, Nat.zero_mul, Nat.zero_add]
      rw [byte_of hc]
    · have h2 : Canon l := ⟨h.1.left, hl, fun hlen => by
        have := h.2.2 (by simp; omega)
        rwa [head_app hl] at this⟩
      have h3 := ih h2
      have h4 : dval l ≠ 0 := by
        intro h0
        rw [h0] at h3
        have h5 : l = [48] := by rw [← h3, decDigits_one (by omega)]; rfl
        have := h.2.2 (by rw [h5]; simp)
        rw [h5] at this
        simp at this
      rw [dval_snoc, decDigits_snoc h4 (by omega), h3, byte_of hc]

theorem nDigits_le {n k : Nat} (hk : 1 ≤ k) (h : n < 10 ^ k) : nDigits n ≤ k := by
  induction k generalizing n with
  | zero => omega
  | succ k ih =>
    by_cases h10 : n < 10
    · rw [nDigits_small h10]; omega
    · rw [nDigits_big h10]
      rw [Nat.pow_succ] at h
      have : 1 ≤ k := by
        rcases Nat.eq_zero_or_pos k with e | e
        · subst e; simp at h; omega
        · exact e
      have := @ih (n / 10) this (by omega)
      omega

theorem canon_decDigits (n : Nat) : Canon (decDigits n) := by
  refine ⟨digs_decDigits n, decDigits_ne n, ?_⟩
  induction n using Nat.strongRecOn with
  | _ n ih =>
    intro hl
    rw [decDigits_length] at hl
    by_cases h10 : n < 10
    · rw [nDigits_small h10] at hl; omega
    · rw [decDigits, dif_neg h10, head_app (decDigits_ne _)]
      by_cases h : 1 < (decDigits (n / 10)).length
      · exact ih _ (by omega) h
      · have h1 : n / 10 < 10 := by
          by_cases h9 : n / 10 < 10
          · exact h9
          · rw [decDigits_length, nDigits_big h9] at h
            have := nDigits_pos (n / 10 / 10)
            omega
        rw [decDigits_one h1]
        simp only [List.head?_cons, ne_eq, Option.some.injEq]
        intro e
        have := congrArg UInt8.toNat e
        rw [ofNat_toNat (by omega)] at this
        simp at this
        omega

/-- The test of num.Good. -/
def goodB (l : List UInt8) : Bool :=
  let d := trimPrefix l [45]
  decide (d ≠ []) && decide (d.length ≤ 100) && (if d.head? = some 48 then decide (l = [48]) else d.all fun c => decide (48 ≤ c.toNat) && decide (c.toNat ≤ 57))

theorem trim_minus (l : List UInt8) : (∃ r, l = 45 :: r ∧ trimPrefix l [45] = r ∧ hasPrefix l [45] = true) ∨ (l.head? ≠ some 45 ∧ trimPrefix l [45] = l ∧ hasPrefix l [45] = false) := by
  match l with
  | [] => right; simp [trimPrefix, hasPrefix]
  | c :: r =>
    by_cases h : c = 45
    · subst h; left; exact ⟨r, rfl, by simp [trimPrefix, hasPrefix], by simp [hasPrefix]⟩
    · right
      have : hasPrefix (c :: r) [45] = false := by
        unfold hasPrefix
        simp only [List.isPrefixOf, Bool.and_eq_false_iff, beq_eq_false_iff_ne]
        exact Or.inl (fun h' => h h'.symm)
      exact ⟨by simpa using h, by simp [trimPrefix, this], this⟩

/-- The numbers that have at most 100 digits. -/
def Fits (n : Int) : Prop := n.natAbs < 10 ^ 100

theorem itoa_ne (n : Int) : itoa n ≠ [] := by
  unfold itoa
  split
  · simp
  · exact decDigits_ne _

theorem nDigits_ge {n k : Nat} (h : 10 ^ k ≤ n) : k < nDigits n := by
  have h1 := lt_pow_nDigits n
  by_cases h2 : k < nDigits n
  · exact h2
  · exfalso
    have : 10 ^ nDigits n ≤ 10 ^ k := Nat.pow_le_pow_right (by omega) (by omega)
    omega

theorem dec_all (n : Nat) : (decDigits n).all (fun c => decide (48 ≤ c.toNat) && decide (c.toNat ≤ 57)) = true := by
  rw [List.all_eq_true]
  intro c hc
  have := digs_decDigits n c hc
  simp [this]

theorem dec_head0 {n : Nat} (h : (decDigits n).head? = some 48) : n = 0 := by
  have hc := canon_decDigits n
  by_cases hl : 1 < (decDigits n).length
  · exact absurd h (hc.2.2 hl)
  · have h1 : n < 10 := by
      by_cases h9 : n < 10
      · exact h9
      · rw [decDigits_length, nDigits_big h9] at hl
        have := nDigits_pos (n / 10)
        omega
    rw [decDigits_one h1] at h
    simp only [List.head?_cons, Option.some.injEq] at h
    have := congrArg UInt8.toNat h
    rw [ofNat_toNat (by omega)] at this
    simp at this
    omega

theorem dec_minus (n : Nat) : (decDigits n).head? ≠ some 45 := by
  intro h
  have hm : (45 : UInt8) ∈ decDigits n := List.mem_of_mem_head? (by rw [h]; rfl)
  have := digs_decDigits n _ hm
  simp at this

/-- What num.Good takes is the text of a number. -/
theorem good_iff (l : List UInt8) : goodB l = true ↔ ∃ n : Int, Fits n ∧ l = itoa n := by
  constructor
  · intro h
    unfold goodB at h
    simp only [Bool.and_eq_true, decide_eq_true_eq] at h
    obtain ⟨⟨h1, h2⟩, h3⟩ := h
    have main : ∀ d : List UInt8, d ≠ [] → d.length ≤ 100 → d.head? ≠ some 48 → (d.all fun c => decide (48 ≤ c.toNat) && decide (c.toNat ≤ 57)) = true → decDigits (dval d) = d ∧ dval d < 10 ^ 100 ∧ dval d ≠ 0 := by
      intro d a b c e
      have hd : Digs d := fun x hx => by have := List.all_eq_true.1 e x hx; simpa using this
      have e1 := decDigits_dval ⟨hd, a, fun _ => c⟩
      refine ⟨e1, Nat.lt_of_lt_of_le (dval_lt hd) (Nat.pow_le_pow_right (by omega) b), fun h0 => ?_⟩
      rw [h0, decDigits_one (by omega)] at e1
      rw [← e1] at c
      exact c rfl
    rcases trim_minus l with ⟨r, rfl, e1, _⟩ | ⟨h0, e1, _⟩
    · rw [e1] at h1 h2 h3
      by_cases h4 : r.head? = some 48
      · rw [if_pos h4] at h3; simp at h3
      · rw [if_neg h4] at h3
        obtain ⟨a, b, c⟩ := main r h1 h2 h4 h3
        refine ⟨-(dval r : Int), by unfold Fits; omega, ?_⟩
        rw [itoa_neg _ (by omega), a]
    · rw [e1] at h1 h2 h3
      by_cases h4 : l.head? = some 48
      · rw [if_pos h4] at h3
        have h3 : l = [48] := by simpa using h3
        exact ⟨0, by unfold Fits; simp, by rw [h3]; rw [show (0 : Int) = ((0 : Nat) : Int) from rfl, itoa_nonneg, decDigits_one (by omega)]; rfl⟩
      · rw [if_neg h4] at h3
        obtain ⟨a, b, c⟩ := main l h1 h2 h4 h3
        exact ⟨(dval l : Int), by unfold Fits; omega, by rw [itoa_nonneg, a]⟩
  · rintro ⟨n, hn, rfl⟩
    unfold Fits at hn
    have main : ∀ m : Nat, m < 10 ^ 100 → decDigits m ≠ [] ∧ (decDigits m).length ≤ 100 := fun m hm => ⟨decDigits_ne m, by rw [decDigits_length]; exact nDigits_le (by omega) hm⟩
    unfold goodB
    simp only [Bool.and_eq_true, decide_eq_true_eq]
    by_cases h : n < 0
    · obtain ⟨m, rfl⟩ : ∃ m : Nat, n = -(m : Int) := ⟨n.natAbs, by omega⟩
      have hm : m < 10 ^ 100 := by omega
      rw [itoa_neg m (by omega)]
      have e : trimPrefix (45 :: decDigits m) [45] = decDigits m := by simp [trimPrefix, hasPrefix]
      rw [e]
      refine ⟨main m hm, ?_⟩
      rw [if_neg (fun h0 => by have := dec_head0 h0; omega)]
      exact dec_all m
    · obtain ⟨m, rfl⟩ : ∃ m : Nat, n = (m : Int) := ⟨n.natAbs, by omega⟩
      have hm : m < 10 ^ 100 := by omega
      rw [itoa_nonneg]
      have e : trimPrefix (decDigits m) [45] = decDigits m := by
        rcases trim_minus (decDigits m) with ⟨r, e, _⟩ | ⟨_, e, _⟩
        · exact absurd (by rw [e]; rfl) (dec_minus m)
        · exact e
      rw [e]
      refine ⟨main m hm, ?_⟩
      split
      · rename_i h0
        have := dec_head0 h0
        subst this
        rw [decDigits_one (by omega)]; rfl
      · exact dec_all m

end Go.Proofs.YtcbcjeabpjjhbaaGreatDoor
namespace Go.Proofs.YtcbcjeabpjjhbaaGreatDoor
open Go.RowKit

theorem at_take {l : List UInt8} {k : Nat} (h : k < l.length) : l.take (k + 1) = l.take k ++ [l[k]] := by rw [List.take_succ_eq_append_getElem h]

theorem dval_small {l : List UInt8} (h : Digs l) (hl : l.length ≤ 9) : dval l < 1000000000 :=
  Nat.lt_of_lt_of_le (dval_lt h) (Nat.pow_le_pow_right (n := 10) (by omega) hl)

end Go.Proofs.YtcbcjeabpjjhbaaGreatDoor
namespace Go.Proofs.YtcbcjeabpjjhbaaGreatDoor
open Go.RowKit

/-- What readSize has read when the first digits of d are left. -/
def Rd (s d : ByteArray) (ls : List Nat) : Prop := d.data.toList = s.data.toList.take d.size ∧ (s.size = d.size + 9 * ls.length ∨ d.size = 0) ∧ Low ls ∧ lval ls = dval (s.data.toList.drop d.size)

theorem Rd.piece {s d p : ByteArray} {ls : List Nat} (h : Rd s d ls) (hd : Digs s.data.toList) {c : Nat} (hp : p.data.toList = d.data.toList.drop c) (hc9 : d.size ≤ c + 9) :
    Digs p.data.toList ∧ p.data.toList.length ≤ 9 := by
  obtain ⟨h1, _⟩ := h
  rw [hp, h1]
  refine ⟨(hd.take _).drop _, ?_⟩
  rw [List.length_drop, List.length_take]
  omega

theorem Rd.step {s d p d' : ByteArray} {ls : List Nat} (h : Rd s d ls) (hd : Digs s.data.toList) {c : Nat} (hp : p.data.toList = d.data.toList.drop c) (hd' : d'.data.toList = d.data.toList.take c) (hc : c ≤ d.size) (hc9 : c + 9 = d.size ∨ c = 0) (h9 : d.size ≤ c + 9) (h0 : 0 < d.size) (hs : d.size ≤ s.size) :
    Rd s d' (ls ++ [dval p.data.toList]) ∧ d'.size = c := by
  obtain ⟨h1, h2, h3, h4⟩ := h
  have hsz : d'.size = c := by rw [← bytes_len, hd', List.length_take, bytes_len]; omega
  rw [h1] at hp hd'
  refine ⟨⟨?_, ?_, ?_, ?_⟩, hsz⟩
  · rw [hsz, hd', List.take_take, Nat.min_eq_left hc]
  · rw [hsz, List.length_append, List.length_singleton]
    rcases hc9 with e | e
    · left; omega
    · right; exact e
  · refine h3.snoc ?_
    rw [hp]
    exact dval_small ((hd.take _).drop _) (by rw [List.length_drop, List.length_take]; omega)
  · rw [hsz, lval_append, h4, hp]
    have e1 : s.data.toList.drop c = (s.data.toList.take d.size).drop c ++ s.data.toList.drop d.size := by
      rw [← List.drop_append_of_le_length (by rw [List.length_take, bytes_len]; omega), List.take_append_drop]
    rw [e1, dval_append, List.length_drop, bytes_len]
    have e2 : (10 : Nat) ^ (s.size - d.size) = 1000000000 ^ ls.length := by
      rw [show (1000000000 : Nat) = 10 ^ 9 by decide, ← Nat.pow_mul]
      congr 1
      omega
    rw [e2]
    simp only [lval]
    rw [Nat.mul_comm (dval _) _, Nat.mul_zero, Nat.add_zero, Nat.add_comm]

/-- What readSize answers. -/
def Reads (lo : Nat) (w : World) (n : Nat) (e : Ending) (w' : World) : Prop := ∃ v, e = .returned v ∧ Sz lo w' v n ∧ Below lo w w'

end Go.Proofs.YtcbcjeabpjjhbaaGreatDoor
namespace Go.Proofs.YtcbcjeabpjjhbaaGreatDoor

/-- A number's limb at place k. -/
def lim (x k : Nat) : Nat := x / 1000000000 ^ k % 1000000000
/-- What its first k limbs say. -/
def low (x k : Nat) : Nat := x % 1000000000 ^ k

theorem lim_lt (x k : Nat) : lim x k < 1000000000 := Nat.mod_lt _ (by omega)

theorem limbs_getD (x k : Nat) : (limbs x).getD k 0 = lim x k := by
  induction k generalizing x with
  | zero =>
    by_cases h : x = 0
    · subst h; rw [limbs_zero]; simp [lim]
    · rw [limbs_pos h]; simp [lim]
  | succ k ih =>
    by_cases h : x = 0
    · subst h; rw [limbs_zero]; simp [lim]
    · rw [limbs_pos h]
      have := ih (x / 1000000000)
      simp only [List.getD_cons_succ]
      rw [this]
      unfold lim
      rw [Nat.div_div_eq_div_mul, Nat.pow_succ, Nat.mul_comm]

theorem low_zero (x : Nat) : low x 0 = 0 := by unfold low; rw [Nat.pow_zero, Nat.mod_one]
theorem low_succ (x k : Nat) : low x (k + 1) = low x k + 1000000000 ^ k * lim x k := by unfold low lim; rw [Nat.mod_pow_succ]
theorem low_lt (x k : Nat) : low x k < 1000000000 ^ k := Nat.mod_lt _ (Nat.pow_pos (by omega))
theorem low_all {x k : Nat} (h : (limbs x).length ≤ k) : low x k = x := by
  unfold low
  refine Nat.mod_eq_of_lt ?_
  have := lval_lt (low_limbs x)
  rw [lval_limbs] at this
  exact Nat.lt_of_lt_of_le this (Nat.pow_le_pow_right (by omega) h)

theorem carry_eq (P t : Nat) : P * (t % 1000000000) + P * 1000000000 * (t / 1000000000) = P * t := by
  rw [Nat.mul_assoc, ← Nat.mul_add, Nat.add_comm, Nat.div_add_mod]

/-- One limb of a sum. -/
theorem add_step {x y k c : Nat} {ls : List Nat} (hl : ls.length = k) (h : lval ls + 1000000000 ^ k * c = low x k + low y k) :
    lval (ls ++ [(lim x k + lim y k + c) % 1000000000]) + 1000000000 ^ (k + 1) * ((lim x k + lim y k + c) / 1000000000) = low x (k + 1) + low y (k + 1) := by
  rw [lval_append, hl, low_succ, low_succ]
  simp only [lval, Nat.mul_zero, Nat.add_zero]
  have := carry_eq (1000000000 ^ k) (lim x k + lim y k + c)
  rw [Nat.pow_succ]
  rw [Nat.mul_add, Nat.mul_add] at this
  omega

/-- One limb of a difference. -/
theorem sub_step {x y k b : Nat} {ls : List Nat} (hl : ls.length = k) (hb : b ≤ 1) (h : low x k + 1000000000 ^ k * b = lval ls + low y k) :
    low x (k + 1) + 1000000000 ^ (k + 1) * (1 - (1000000000 + lim x k - lim y k - b) / 1000000000) = lval (ls ++ [(1000000000 + lim x k - lim y k - b) % 1000000000]) + low y (k + 1) := by
  have hx := lim_lt x k
  have hy := lim_lt y k
  rw [lval_append, hl, low_succ, low_succ]
  simp only [lval, Nat.mul_zero, Nat.add_zero]
  obtain ⟨t, ht⟩ : ∃ t, 1000000000 + lim x k - lim y k - b = t := ⟨_, rfl⟩
  rw [ht]
  have h1 := carry_eq (1000000000 ^ k) t
  have h2 : t / 1000000000 ≤ 1 := by omega
  rw [Nat.pow_succ, Nat.mul_sub]
  have h3 : lim x k + 1000000000 = t + lim y k + b := by omega
  have h4 : 1000000000 ^ k * lim x k + 1000000000 ^ k * 1000000000 = 1000000000 ^ k * t + 1000000000 ^ k * lim y k + 1000000000 ^ k * b := by
    rw [← Nat.mul_add, h3, Nat.mul_add, Nat.mul_add]
  have h5 : 1000000000 ^ k * 1000000000 * (t / 1000000000) ≤ 1000000000 ^ k * 1000000000 * 1 := Nat.mul_le_mul_left _ h2
  omega

theorem sub_done {x y k b : Nat} {ls : List Nat} (hl : ls.length = k) (hlow : Low ls) (hb : b ≤ 1) (hxy : y ≤ x) (hk : (limbs x).length ≤ k) (h : low x k + 1000000000 ^ k * b = lval ls + low y k) : lval ls = x - y := by
  rw [low_all hk] at h
  have hy : low y k = y := by
    unfold low
    refine Nat.mod_eq_of_lt ?_
    have := low_lt x k
    rw [low_all hk] at this
    omega
  rw [hy] at h
  have := lval_lt hlow
  rw [hl] at this
  rcases (show b = 0 ∨ b = 1 by omega) with rfl | rfl
  · omega
  · omega

theorem set_app {ls : List Nat} {m x : Nat} (hm : 0 < m) : (ls ++ List.replicate m 0).set ls.length x = (ls ++ [x]) ++ List.replicate (m - 1) 0 := by
  obtain ⟨m, rfl⟩ : ∃ n, m = n + 1 := ⟨m - 1, by omega⟩
  simp [List.replicate_succ]

theorem lval_set {l : List Nat} {n x : Nat} (h : n < l.length) : lval (l.set n x) + 1000000000 ^ n * l.getD n 0 = lval l + 1000000000 ^ n * x := by
  induction l generalizing n with
  | nil => simp at h
  | cons y l ih =>
    match n with
    | 0 => simp [lval]; omega
    | n + 1 =>
      have := @ih n (by simpa using h)
      simp only [List.set_cons_succ, lval, List.getD_cons_succ, Nat.pow_succ]
      rw [Nat.mul_comm (1000000000 ^ n) 1000000000, Nat.mul_assoc, Nat.mul_assoc]
      omega

theorem Low.set {l : List Nat} (h : Low l) (n : Nat) {x : Nat} (hx : x < 1000000000) : Low (l.set n x) := fun y hy => by
  rcases List.mem_or_eq_of_mem_set hy with h1 | h1
  · exact h y h1
  · omega
theorem getD_set_ne {l : List Nat} {n m x : Nat} (h : n ≠ m) : (l.set n x).getD m 0 = l.getD m 0 := by simp [List.getD, List.getElem?_set_ne h]

/-- One limb of a row of a product. -/
theorem mul_step {L : List Nat} {A y i j c p : Nat} (hj : i + j < L.length) (h : lval L + 1000000000 ^ (i + j) * c = A + 1000000000 ^ i * (p * low y j)) :
    lval (L.set (i + j) ((L.getD (i + j) 0 + p * lim y j + c) % 1000000000)) + 1000000000 ^ (i + (j + 1)) * ((L.getD (i + j) 0 + p * lim y j + c) / 1000000000) = A + 1000000000 ^ i * (p * low y (j + 1)) := by
  have h1 := lval_set (x := (L.getD (i + j) 0 + p * lim y j + c) % 1000000000) hj
  have h2 := carry_eq (1000000000 ^ (i + j)) (L.getD (i + j) 0 + p * lim y j + c)
  rw [low_succ, ← Nat.add_assoc, Nat.pow_succ, Nat.mul_add p, Nat.mul_add (1000000000 ^ i)]
  have h3 : 1000000000 ^ i * (p * (1000000000 ^ j * lim y j)) = 1000000000 ^ (i + j) * (p * lim y j) := by
    rw [Nat.pow_add, Nat.mul_left_comm p, Nat.mul_assoc]
  rw [h3]
  rw [Nat.mul_add, Nat.mul_add] at h2
  omega

/-- One row of a product. -/
theorem mul_row {L : List Nat} {x y i lb c : Nat} (hi : i + lb < L.length) (hlb : (limbs y).length ≤ lb) (hz : L.getD (i + lb) 0 = 0) (h : lval L + 1000000000 ^ (i + lb) * c = low x i * y + 1000000000 ^ i * (lim x i * low y lb)) :
    lval (L.set (i + lb) c) = low x (i + 1) * y := by
  have h1 := lval_set (x := c) hi
  rw [hz, Nat.mul_zero, Nat.add_zero] at h1
  rw [h1, h, low_all hlb, low_succ, Nat.add_mul, Nat.mul_assoc]

theorem mul_bound {l p q c : Nat} (hl : l < 1000000000) (hp : p < 1000000000) (hq : q < 1000000000) (hc : c < 1000000000) : p * q ≤ 999999998000000001 ∧ (l + p * q + c) / 1000000000 < 1000000000 := by
  have h : p * q ≤ 999999999 * 999999999 := Nat.mul_le_mul (by omega) (by omega)
  constructor
  · omega
  · omega

/-- Fewer limbs: less. -/
theorem len_lt {x y : Nat} (h : (limbs x).length < (limbs y).length) : x < y := by
  have h1 := lval_lt (low_limbs x)
  rw [lval_limbs] at h1
  rcases Nat.lt_or_ge x y with h2 | h2
  · exact h2
  · exfalso
    have := limbs_length (n := y) (k := (limbs x).length) (by omega)
    omega

/-- All from place k on. -/
def high (x k : Nat) : Nat := x / 1000000000 ^ k
theorem high_step (x k : Nat) : high x k = high x (k + 1) * 1000000000 + lim x k := by
  unfold high lim
  rw [Nat.pow_succ, ← Nat.div_div_eq_div_mul]
  omega
theorem high_lt {x y k : Nat} (h : high x k < high y k) : x < y := Nat.lt_of_div_lt_div h
theorem high_zero (x : Nat) : high x 0 = x := by unfold high; simp
theorem high_out {x k : Nat} (h : (limbs x).length ≤ k) : high x k = 0 := by
  unfold high
  have := lval_lt (low_limbs x)
  rw [lval_limbs] at this
  exact Nat.div_eq_of_lt (Nat.lt_of_lt_of_le this (Nat.pow_le_pow_right (by omega) h))
theorem high_same {x y n k : Nat} (hx : (limbs x).length ≤ n) (hy : (limbs y).length ≤ n) (hk : k ≤ n) (h : ∀ j, j < k → lim x (n - 1 - j) = lim y (n - 1 - j)) : high x (n - k) = high y (n - k) := by
  induction k with
  | zero => rw [high_out (by omega), high_out (by omega)]
  | succ k ih =>
    have h1 := ih (by omega) (fun j hj => h j (by omega))
    have h2 := h k (by omega)
    rw [high_step, high_step y, show n - (k + 1) + 1 = n - k by omega, h1, show n - (k + 1) = n - 1 - k by omega, h2]

/-- The limbs of any list whose limbs are low. -/
theorem getD_low {L : List Nat} (h : Low L) (k : Nat) : L.getD k 0 = lim (lval L) k := by
  induction L generalizing k with
  | nil => simp [lim, lval]
  | cons x L ih =>
    have hx := h.head
    match k with
    | 0 => simp only [List.getD_cons_zero, lim, lval, Nat.pow_zero, Nat.div_one]; omega
    | k + 1 =>
      simp only [List.getD_cons_succ]
      rw [ih h.tail k]
      unfold lim
      simp only [lval]
      rw [Nat.pow_succ, Nat.mul_comm (1000000000 ^ k) 1000000000, ← Nat.div_div_eq_div_mul, show (x + 1000000000 * lval L) / 1000000000 = lval L by omega]
theorem limbs_short {L : List Nat} (h : Low L) : (limbs (lval L)).length ≤ L.length := limbs_length (lval_lt h)

theorem lval_zeros (n : Nat) : lval (List.replicate n 0) = 0 := by
  induction n with
  | zero => rfl
  | succ n ih => rw [List.replicate_succ, lval, ih]

end Go.Proofs.YtcbcjeabpjjhbaaGreatDoor
namespace Go.Proofs.YtcbcjeabpjjhbaaGreatDoor
open Go.RowKit Go.Shelf

attribute [local go_sem] Oper.semAt_some

/-- The blocks bs lie as they lay. -/
def KeepB (bs : List Nat) (W W' : World) : Prop := ∀ b ∈ bs, ∀ o, W.heap[b]? = some o → W'.heap[b]? = some o
theorem KeepB.refl (bs : List Nat) (W : World) : KeepB bs W W := fun _ _ _ h => h
theorem KeepB.trans {bs : List Nat} {A B C : World} (h : KeepB bs A B) (k : KeepB bs B C) : KeepB bs A C := fun b hb o ho => k b hb o (h b hb o ho)
theorem KeepB.putObj {bs : List Nat} {w : World} (hs : ∀ b ∈ bs, b < w.heap.size) (W : World) (l : Nat) (o o' : Obj) (hl : w.heap.size ≤ l) (_ : W.heap[l]? = some o) (_ : o.isCells = false) (_ : o.isWalk = false) : KeepB bs W (W.putObj l o') :=
  fun b hb p hp => by have := hs b hb; rw [World.putObj_heap_other (by omega)]; exact hp
theorem KeepB.of_below {bs : List Nat} {W W' : World} (h : Below W.heap.size W W') : KeepB bs W W' := fun b _ o ho => by rw [h.block b (Array.getElem?_eq_some_iff.1 ho).1]; exact ho
theorem KeepB.setCell {bs : List Nat} (W : World) (p : Addr) (v : Value) (h : p.block ∉ bs) : KeepB bs W (W.setCell p v) := fun b hb o ho => by
  rw [Below.heap_setCell _ _ _ _ (fun e => h (by rw [← e]; exact hb))]; exact ho
theorem KeepB.grown {bs : List Nat} {W W' : World} {row : Option Nat} (hg : W.grownBy W' row) (h : ∀ k, row = some k → k ∉ bs) : KeepB bs W W' := fun b hb o ho => by
  rw [hg.block b (Array.getElem?_eq_some_iff.1 ho).1 (fun e => h b e.symm hb)]; exact ho
theorem KeepsFrom.of_below {B : Nat} {W W' : World} (h : Below W.heap.size W W') : KeepsFrom B W W' := ⟨h.size, fun k o _ ho _ => by rw [h.block k (Array.getElem?_eq_some_iff.1 ho).1]; exact ho⟩

theorem Own.keepB {lo : Nat} {w w' : World} {v : Value} {l : List Nat} {bs : List Nat} (h : Own lo w v l) (hb : KeepB bs w w') (hv : ∀ g, v.ownBlock = some g → g ∈ bs) : Own lo w' v l := by
  obtain ⟨h1, h2⟩ := h
  refine ⟨h1, ?_⟩
  rcases h2 with h2 | ⟨g, cap, cur, h2, h3, h4, h5⟩
  · exact .inl h2
  · refine .inr ⟨g, cap, cur, h2, h3, hb g (hv g (by rw [h2]; rfl)) _ h4, h5⟩

/-- What has come when k rounds are over. -/
def upto {α : Type} (f : Nat → α) (k : Nat) : List α := (List.range k).map f
theorem upto_succ {α : Type} (f : Nat → α) (k : Nat) : upto f (k + 1) = upto f k ++ [f k] := by simp [upto, List.range_succ]
theorem upto_length {α : Type} (f : Nat → α) (k : Nat) : (upto f k).length = k := by simp [upto]

/-- A place of n. -/
def Place (n : Nat) : Type := { k : Nat // k < n }
/-- The places, the highest first: the first k of them. -/
def downs (n k : Nat) : List Nat := upto (fun j => n - 1 - j) k
/-- What a round of fromLast is handed: the place, and its limb. -/
def encL {n : Nat} (L : List Nat) (k : Place n) : Array Value := #[.int .i64 (k.1 : Int), .int .u64 ((L.getD k.1 0 : Nat) : Int)]
/-- The places that have come. -/
def places {n : Nat} (l : List (Place n)) : List Nat := l.map fun k => k.1

end Go.Proofs.YtcbcjeabpjjhbaaGreatDoor
namespace Go.Proofs.YtcbcjeabpjjhbaaGreatDoor
open Go.RowKit
def Makes (lo : Nat) (w : World) (n : Nat) (e : Ending) (w' : World) : Prop := ∃ v, e = .returned v ∧ Sz lo w' v n ∧ Below lo w w'

end Go.Proofs.YtcbcjeabpjjhbaaGreatDoor
