/- Lists in strict order: one for each set; what is put in one by one · Plain mathematics for package num: numbers as limbs of nine digits, the lowest first, and as decimal texts. It speaks of no program · A size of package num in memory: a slice value that owns the cells of its limbs · num's small functions: limb, trimmed, readLimb: each only reads · Plain mathematics: decimal texts and their values; what is a number's text. It speaks of no program · readLimb, readSize: digits as limbs · readSize: digits as limbs · Plain mathematics for sums, differences and products by limbs. It speaks of no program · fromLast: the iterator over a size's limbs, the highest first · What a call of num makes -/
import Derived.Lib.Hide
import Derived.Lib.ItoaNum
import Derived.Lib.ItoaMem
import Derived.Test.YtnmfoedfllmclaaGreatDoorProg
import Derived.WalkKit
import Derived.WalkSpells
import Derived.WalkLawsBesides
import Derived.OneCell
import Derived.Lib.Strings
import Derived.Lib.IndexBytes
import Derived.Lib.Split
import Derived.RangeFuncNested
import Derived.RangeFuncBound
import Derived.RangeFuncCalls
import Derived.RangeFuncLeaves
import Derived.RangeFuncBox
import Derived.Shelf.Abstract
import Derived.Shelf.RegionOpen
import Derived.OwnWalkIn
import Derived.TacticsInMore
import Derived.LoopNIn
import Derived.LoopIn
namespace Go.Proofs.YtnmfoedfllmclaaGreatDoor
set_option linter.unusedVariables false

/-- Two lists in strict order with the same members are one. -/
theorem sorted_one {β : Type} {lt : β → β → Prop} (hi : ∀ a, ¬ lt a a) (ht : ∀ a b c, lt a b → lt b c → lt a c) : ∀ {l m : List β}, l.Perm m → l.Pairwise lt → m.Pairwise lt → l = m
  | [], m, hp, _, _ => by rw [List.nil_perm.1 hp]
  | a :: l, [], hp, _, _ => by have := hp.length_eq; simp at this
  | a :: l, b :: m, hp, h1, h2 => by
    rw [List.pairwise_cons] at h1 h2
    have ha : a ∈ b :: m := hp.subset (by simp)
    have hb : b ∈ a :: l := hp.symm.subset (by simp)
    have he : a = b := by
      rcases List.mem_cons.1 ha with e | ha
      · exact e
      · rcases List.mem_cons.1 hb with e | hb
        · exact e.symm
        · exact absurd (ht _ _ _ (h1.1 b hb) (h2.1 a ha)) (hi a)
    subst he
    rw [sorted_one hi ht hp.cons_inv h1.2 h2.2]

/-- A pair put in its place. -/
def insP {κ α : Type} (lt : κ → κ → Bool) (p : κ × α) : List (κ × α) → List (κ × α)
  | [] => [p]
  | q :: l => if lt p.1 q.1 = true then p :: q :: l else q :: insP lt p l
theorem insP_perm {κ α : Type} (lt : κ → κ → Bool) (p : κ × α) : ∀ l : List (κ × α), (insP lt p l).Perm (p :: l)
  | [] => List.Perm.refl _
  | q :: l => by
    unfold insP
    split
    · exact List.Perm.refl _
    · exact ((insP_perm lt p l).cons q).trans (List.Perm.swap p q l)
theorem insP_mem {κ α : Type} {lt : κ → κ → Bool} {p x : κ × α} {l : List (κ × α)} : x ∈ insP lt p l ↔ x = p ∨ x ∈ l := by rw [(insP_perm lt p l).mem_iff, List.mem_cons]
/-- In strict order as before, if the key isn't there. -/
theorem insP_sorted {κ α : Type} {lt : κ → κ → Bool} (ht : ∀ a b c, lt a b = true → lt b c = true → lt a c = true) (hto : ∀ a b, a ≠ b → lt a b = true ∨ lt b a = true) (p : κ × α) : ∀ l : List (κ × α), (∀ q ∈ l, q.1 ≠ p.1) → l.Pairwise (fun a b => lt a.1 b.1 = true) → (insP lt p l).Pairwise (fun a b => lt a.1 b.1 = true)
  | [], _, _ => by simp [insP]
  | q :: l, hn, hs => by
    rw [List.pairwise_cons] at hs
    unfold insP
    split
    · rename_i h
      rw [List.pairwise_cons, List.pairwise_cons]
      refine ⟨fun x hx => ?_, hs⟩
      rcases List.mem_cons.1 hx with rfl | hx
      · exact h
      · exact ht _ _ _ h (hs.1 x hx)
    · rename_i h
      rw [List.pairwise_cons]
      refine ⟨fun x hx => ?_, insP_sorted ht hto p l (fun x hx => hn x (by simp [hx])) hs.2⟩
      rcases insP_mem.1 hx with rfl | hx
      · rcases hto q.1 x.1 (hn q (by simp)) with h1 | h1
        · exact h1
        · exact absurd h1 h
      · exact hs.1 x hx
/-- One by one, as long as no key comes twice. -/
def putAll {κ α : Type} (lt : κ → κ → Bool) [DecidableEq κ] : List (κ × α) → List (κ × α) → Option (List (κ × α))
  | acc, [] => some acc
  | acc, p :: l => if p.1 ∈ acc.map Prod.fst then none else putAll lt (insP lt p acc) l
theorem putAll_some {κ α : Type} {lt : κ → κ → Bool} [DecidableEq κ] (ht : ∀ a b c, lt a b = true → lt b c = true → lt a c = true) (hto : ∀ a b, a ≠ b → lt a b = true ∨ lt b a = true) : ∀ (l acc z : List (κ × α)), putAll lt acc l = some z → acc.Pairwise (fun a b => lt a.1 b.1 = true) → z.Pairwise (fun a b => lt a.1 b.1 = true) ∧ z.Perm (acc ++ l)
  | [], acc, z, h, hs => by
    unfold putAll at h
    cases h
    exact ⟨hs, by simp⟩
  | p :: l, acc, z, h, hs => by
    unfold putAll at h
    split at h
    · cases h
    · rename_i hn
      obtain ⟨h1, h2⟩ := putAll_some ht hto l _ z h (insP_sorted ht hto p acc (fun q hq e => hn (by rw [← e]; exact List.mem_map.2 ⟨q, hq, rfl⟩)) hs)
      exact ⟨h1, h2.trans (((insP_perm lt p acc).append_right l).trans (List.perm_middle.symm))⟩
theorem putAll_none {κ α : Type} {lt : κ → κ → Bool} [DecidableEq κ] : ∀ (l acc : List (κ × α)), putAll lt acc l = none → (acc.map Prod.fst).Nodup → ¬ ((acc ++ l).map Prod.fst).Nodup
  | [], acc, h, _ => by unfold putAll at h; cases h
  | p :: l, acc, h, hd => by
    unfold putAll at h
    split at h
    · rename_i hm
      intro hn
      rw [List.map_append, List.map_cons, List.nodup_append] at hn
      exact hn.2.2 p.1 hm p.1 (by simp) rfl
    · rename_i hm
      have hp : ((insP lt p acc).map Prod.fst).Perm (p.1 :: acc.map Prod.fst) := (insP_perm lt p acc).map Prod.fst
      have hd2 : ((insP lt p acc).map Prod.fst).Nodup := hp.nodup_iff.2 (List.nodup_cons.2 ⟨hm, hd⟩)
      intro hn
      refine putAll_none l _ h hd2 ?_
      have hq : (((insP lt p acc) ++ l).map Prod.fst).Perm ((acc ++ p :: l).map Prod.fst) := (((insP_perm lt p acc).append_right l).trans (List.perm_middle.symm)).map Prod.fst
      exact hq.nodup_iff.2 hn
end Go.Proofs.YtnmfoedfllmclaaGreatDoor
namespace Go.Proofs.YtnmfoedfllmclaaGreatDoor
open Go.Lib

/-- A number's limbs, the lowest first; 0 has none. -/
def limbs (n : Nat) : List Nat := if h : n = 0 then [] else (n % 1000000000) :: limbs (n / 1000000000)
termination_by n
decreasing_by omega

theorem limbs_zero : limbs 0 = [] := by rw [limbs]; simp
theorem limbs_pos {n : Nat} (h : n ≠ 0) : limbs n = (n % 1000000000) :: limbs (n / 1000000000) := by rw [limbs]; simp [h]

theorem getD_in {l : List Nat} {i : Nat} (h : i < l.length) : l.getD i 0 = l[i] := by simp [List.getD, h]
theorem getD_out {l : List Nat} {i : Nat} (h : l.length ≤ i) : l.getD i 0 = 0 := by simp [List.getD, h]
/-- No limb is too great. -/
def Low (l : List Nat) : Prop := ∀ x ∈ l, x < 1000000000
theorem Low.head {x : Nat} {l : List Nat} (h : Low (x :: l)) : x < 1000000000 := h x List.mem_cons_self
theorem Low.take {l : List Nat} (h : Low l) (k : Nat) : Low (l.take k) := fun x hx => h x (List.mem_of_mem_take hx)
theorem Low.drop {l : List Nat} (h : Low l) (k : Nat) : Low (l.drop k) := fun x hx => h x (List.mem_of_mem_drop hx)
theorem Low.getD {l : List Nat} (h : Low l) (i : Nat) : l.getD i 0 < 1000000000 := by
  by_cases hi : i < l.length
  · rw [getD_in hi]; exact h _ (List.getElem_mem hi)
  · rw [getD_out (by omega)]; omega
theorem limbs_length {n k : Nat} (h : n < 1000000000 ^ k) : (limbs n).length ≤ k := by
  induction k generalizing n with
  | zero =>
    obtain rfl : n = 0 := by simp at h; omega
    rw [limbs_zero]; simp
  | succ k ih =>
    by_cases h0 : n = 0
    · subst h0; rw [limbs_zero]; simp
    · rw [limbs_pos h0, List.length_cons]
      have := @ih (n / 1000000000) (by rw [Nat.pow_succ] at h; omega)
      omega

end Go.Proofs.YtnmfoedfllmclaaGreatDoor
namespace Go.Proofs.YtnmfoedfllmclaaGreatDoor
open Go.RowKit

/-- The cells of limbs. -/
def u64s (l : List Nat) : List Value := l.map fun x : Nat => Value.int .u64 (x : Int)
/-- The slice value v owns the limbs l, in a block from lo on (or it is nil, and there are none). -/
def Own (lo : Nat) (w : World) (v : Value) (l : List Nat) : Prop := w.ownsRow lo 100 1 v l.length (u64s l)
/-- The slice value v is the size n. -/
def Sz (lo : Nat) (w : World) (v : Value) (n : Nat) : Prop := Own lo w v (limbs n)

theorem Own.lt {lo : Nat} {w : World} {v : Value} {l : List Nat} (h : Own lo w v l) {k : Nat} (hk : v.ownBlock = some k) : lo ≤ k ∧ k < w.heap.size := World.ownsRow.lt h k hk
theorem Own.below {lo : Nat} {w w' : World} {v : Value} {l : List Nat} (h : Own lo w v l) (hb : Below w.heap.size w w') : Own lo w' v l := by
  obtain ⟨h1, h2⟩ := h
  refine ⟨h1, ?_⟩
  rcases h2 with h2 | ⟨g, cap, cur, h2, h3, h4, h5⟩
  · exact .inl h2
  · refine .inr ⟨g, cap, cur, h2, h3, ?_, h5⟩
    rw [hb.block g (Array.getElem?_eq_some_iff.1 h4).1]; exact h4
theorem Own.mono {lo lo' : Nat} {w : World} {v : Value} {l : List Nat} (h : Own lo w v l) (hl : lo' ≤ lo) : Own lo' w v l := by
  obtain ⟨h1, h2⟩ := h
  refine ⟨h1, ?_⟩
  rcases h2 with h2 | ⟨g, cap, cur, h2, h3, h4, h5⟩
  · exact .inl h2
  · exact .inr ⟨g, cap, cur, h2, by omega, h4, h5⟩
theorem Sz.below {lo : Nat} {w w' : World} {v : Value} {n : Nat} (h : Sz lo w v n) (hb : Below w.heap.size w w') : Sz lo w' v n := Own.below h hb
theorem Sz.mono {lo lo' : Nat} {w : World} {v : Value} {n : Nat} (h : Sz lo w v n) (hl : lo' ≤ lo) : Sz lo' w v n := Own.mono h hl

/-- An owned row is some slice. -/
theorem row_shape {lo : Nat} {w : World} {e : TypeId} {k : Nat} {v : Value} {n : Nat} {xs : List Value} (h : w.ownsRow lo e k v n xs) : ∃ ad cap, v = .slice ad n cap := by
  rcases h.2 with ⟨rfl, h2⟩ | ⟨g, cap, cur, rfl, _⟩
  · exact ⟨none, 0, by rw [h2]⟩
  · exact ⟨_, _, rfl⟩

theorem Own.nil {lo : Nat} {w : World} : Own lo w (.slice none 0 0) [] := ⟨rfl, .inl ⟨rfl, rfl⟩⟩

theorem Own.row {lo : Nat} {w : World} {v : Value} {l : List Nat} (h : Own lo w v l) : w.ownsRow lo 100 1 v l.length (u64s l) := h
/-- A store into one of the cells. -/
theorem Own.set {lo : Nat} {w : World} {g cap : Nat} {n : Nat} {l : List Nat} (h : Own lo w (.slice (some ⟨g, 0, none⟩) n cap) l) (hn : n = l.length) (j x : Nat) : Own lo (w.setCell ⟨g, j, none⟩ (.int .u64 (x : Int))) (.slice (some ⟨g, 0, none⟩) n cap) (l.set j x) := by
  subst hn
  have h1 := (World.ownsRow.stored h j (.int .u64 (x : Int))).1
  unfold Own
  rw [List.length_set]
  have e : u64s (l.set j x) = (u64s l).set j (.int .u64 (x : Int)) := by unfold u64s; rw [List.map_set]
  rw [e]
  exact h1
theorem Own.frozen {lo : Nat} {w : World} {g cap : Nat} {n : Nat} {l : List Nat} (h : Own lo w (.slice (some ⟨g, 0, none⟩) n cap) l) (hn : n = l.length) (j : Nat) : w.frozen? ⟨g, j, none⟩ = false := by
  subst hn
  exact World.ownsRow.frozenAt h j
theorem Own.made {lo : Nat} {w : World} {v : Value} {n : Nat} (h : w.ownsRow lo 100 1 v n (madeCells #[.int .u64 0] (n * 1)).toList) : Own lo w v (List.replicate n 0) := by
  unfold Own
  rw [List.length_replicate]
  have e : u64s (List.replicate n 0) = List.replicate n (.int .u64 0) := by unfold u64s; rw [List.map_replicate]; rfl
  rw [e]
  rw [toList_madeCells_one, Nat.mul_one] at h
  exact h

/-- What is owned stays owned where what was there stays. -/
theorem row_below {lo : Nat} {e : TypeId} {k n : Nat} {w w' : World} {v : Value} {xs : List Value} (h : w.ownsRow lo e k v n xs) (hb : Below w.heap.size w w') : w'.ownsRow lo e k v n xs := by
  obtain ⟨h1, h2⟩ := h
  refine ⟨h1, ?_⟩
  rcases h2 with h2 | ⟨g, cap, cur, h2, h3, h4, h5⟩
  · exact .inl h2
  · refine .inr ⟨g, cap, cur, h2, h3, ?_, h5⟩
    rw [hb.block g (Array.getElem?_eq_some_iff.1 h4).1]; exact h4

theorem cell_box (w : World) (x : Value) (t : TypeId) : ∀ (j : Nat) (u : Value), [x][j]? = some u → (w.alloc (.cells #[x] t)).cell? ((⟨w.heap.size, 0, none⟩ : Addr).add j) = some u := by
  intro j u hj
  match j, hj with
  | 0, hj => simp at hj; subst hj; simp [Addr.add]

end Go.Proofs.YtnmfoedfllmclaaGreatDoor
namespace Go.Proofs.YtnmfoedfllmclaaGreatDoor
open Go.RowKit

end Go.Proofs.YtnmfoedfllmclaaGreatDoor
namespace Go.Proofs.YtnmfoedfllmclaaGreatDoor
open Go.Lib

/-- The digits' value. -/
def dval (l : List UInt8) : Nat := l.foldl (fun a c => a * 10 + (c.toNat - 48)) 0
/-- Digits alone. -/
def Digs (l : List UInt8) : Prop := ∀ c ∈ l, 48 ≤ c.toNat ∧ c.toNat ≤ 57

theorem dval_nil : dval [] = 0 := rfl
theorem dval_snoc (l : List UInt8) (c : UInt8) : dval (l ++ [c]) = dval l * 10 + (c.toNat - 48) := by simp [dval, List.foldl_append]
theorem Digs.left {a b : List UInt8} (h : Digs (a ++ b)) : Digs a := fun c hc => h c (List.mem_append_left _ hc)
theorem Digs.right {a b : List UInt8} (h : Digs (a ++ b)) : Digs b := fun c hc => h c (List.mem_append_right _ hc)
theorem Digs.append {a b : List UInt8} (ha : Digs a) (hb : Digs b) : Digs (a ++ b) := fun c hc => by
  rcases List.mem_append.1 hc with h | h
  · exact ha c h
  · exact hb c h
theorem Digs.take {l : List UInt8} (h : Digs l) (k : Nat) : Digs (l.take k) := fun c hc => h c (List.mem_of_mem_take hc)
theorem Digs.drop {l : List UInt8} (h : Digs l) (k : Nat) : Digs (l.drop k) := fun c hc => h c (List.mem_of_mem_drop hc)

theorem head_app {α : Type} {l m : List α} (h : l ≠ []) : (l ++ m).head? = l.head? := by
  match l, h with
  | x :: l, _ => rfl

theorem bytes_len (s : ByteArray) : s.data.toList.length = s.size := by rw [Array.length_toList]; rfl
theorem bytes_at (s : ByteArray) (k : Nat) (h : k < s.size) : s.data.toList[k]'(by rw [bytes_len]; exact h) = s[k] := rfl
theorem bytes_mem (s : ByteArray) (k : Nat) (h : k < s.size) : s[k] ∈ s.data.toList := by rw [← bytes_at s k h]; exact List.getElem_mem _

theorem snoc_ind {α : Type} {P : List α → Prop} (h0 : P []) (h1 : ∀ l c, P l → P (l ++ [c])) (l : List α) : P l := by
  have : ∀ n (l : List α), l.length = n → P l := by
    intro n
    induction n with
    | zero => intro l hl; rw [List.length_eq_zero_iff.1 hl]; exact h0
    | succ n ih =>
      intro l hl
      have hn : l ≠ [] := by intro h; subst h; simp at hl
      rw [← List.dropLast_concat_getLast hn]
      exact h1 _ _ (ih _ (by simp [hl]))
  exact this _ l rfl

theorem dval_lt {l : List UInt8} (h : Digs l) : dval l < 10 ^ l.length := by
  induction l using snoc_ind with
  | h0 => simp [dval_nil]
  | h1 l c ih =>
    have := ih h.left
    have hc := h c (by simp)
    rw [dval_snoc, List.length_append, List.length_singleton, Nat.pow_succ]
    omega

theorem ofNat_toNat {k : Nat} (h : k < 256) : (UInt8.ofNat k).toNat = k := by simp; omega

theorem digs_decDigits (n : Nat) : Digs (decDigits n) := by
  induction n using Nat.strongRecOn with
  | _ n ih =>
    rw [decDigits]
    split
    · intro c hc
      rw [List.mem_singleton] at hc
      subst hc
      rw [ofNat_toNat (by omega)]; omega
    · refine (ih (n / 10) (by omega)).append fun c hc => ?_
      rw [List.mem_singleton] at hc
      subst hc
      rw [ofNat_toNat (by omega)]; omega

theorem dval_decDigits (n : Nat) : dval (decDigits n) = n := by
  induction n using Nat.strongRecOn with
  | _ n ih =>
    rw [decDigits]
    split
    · have := dval_snoc [] (UInt8.ofNat (48 + n))
      rw [List.nil_append] at this
      rw [this, dval_nil, ofNat_toNat (by omega)]; omega
    · rw [dval_snoc, ih (n / 10) (by omega), ofNat_toNat (by omega)]; omega

theorem decDigits_ne (n : Nat) : decDigits n ≠ [] := fun h => by
  have := decDigits_length n
  have h2 := nDigits_pos n
  rw [h] at this; simp at this; omega

/-- A text of digits without a 0 ahead. -/
def Canon (l : List UInt8) : Prop := Digs l ∧ l ≠ [] ∧ (1 < l.length → l.head? ≠ some 48)

theorem decDigits_snoc {n d : Nat} (hn : n ≠ 0) (hd : d < 10) : decDigits (n * 10 + d) = decDigits n ++ [UInt8.ofNat (48 + d)] := by
  rw [decDigits, dif_neg (by omega), show (n * 10 + d) / 10 = n by omega, show (n * 10 + d) % 10 = d by omega]

theorem byte_of {c : UInt8} (h : 48 ≤ c.toNat ∧ c.toNat ≤ 57) : UInt8.ofNat (48 + (c.toNat - 48)) = c := by
  rw [show 48 + (c.toNat - 48) = c.toNat by omega]; simp

/-- A text of digits without a 0 ahead is its value's. -/
theorem decDigits_dval {l : List UInt8} (h : Canon l) : decDigits (dval l) = l := by
  induction l using snoc_ind with
  | h0 => exact absurd rfl h.2.1
  | h1 l c ih =>
    have hc := h.1 c (by simp)
    by_cases hl : l = []
    · subst hl
      have := dval_snoc [] c
      rw [dval_nil] at this
      rw [this, decDigits_one (by omega)]
      simp only [List.nil_append, Nat.zero_mul, Nat.zero_add]
      rw [byte_of hc]
    · have h2 : Canon l := ⟨h.1.left, hl, fun hlen => by
        have := h.2.2 (by simp; omega)
        rwa [head_app hl] at this⟩
      have h3 := ih h2
      have h4 : dval l ≠ 0 := by
        intro h0
        rw [h0] at h3
        have h5 : l = [48] := by rw [← h3, decDigits_one (by omega)]; rfl
        have := h.2.2 (by rw [h5]; simp)
        rw [h5] at this
        simp at this
      rw [dval_snoc, decDigits_snoc h4 (by omega), h3, byte_of hc]

theorem nDigits_le {n k : Nat} (hk : 1 ≤ k) (h : n < 10 ^ k) : nDigits n ≤ k := by
  induction k generalizing n with
  | zero => omega
  | succ k ih =>
    by_cases h10 : n < 10
    · rw [nDigits_small h10]; omega
    · rw [nDigits_big h10]
      rw [Nat.pow_succ] at h
      have : 1 ≤ k := by
        rcases Nat.eq_zero_or_pos k with e | e
        · subst e; simp at h; omega
        · exact e
      have := @ih (n / 10) this (by omega)
      omega

theorem canon_decDigits (n : Nat) : Canon (decDigits n) := by
  refine ⟨digs_decDigits n, decDigits_ne n, ?_⟩
  induction n using Nat.strongRecOn with
  | _ n ih =>
    intro hl
    rw [decDigits_length] at hl
    by_cases h10 : n < 10
    · rw [nDigits_small h10] at hl; omega
    · rw [decDigits, dif_neg h10, head_app (decDigits_ne _)]
      by_cases h : 1 < (decDigits (n / 10)).length
      · exact ih _ (by omega) h
      · have h1 : n / 10 < 10 := by
          by_cases h9 : n / 10 < 10
          · exact h9
          · rw [decDigits_length, nDigits_big h9] at h
            have := nDigits_pos (n / 10 / 10)
            omega
        rw [decDigits_one h1]
        simp only [List.head?_cons, ne_eq, Option.some.injEq]
        intro e
        have := congrArg UInt8.toNat e
        rw [ofNat_toNat (by omega)] at this
        simp at this
        omega

/-- The test of num.Good. -/
def goodB (l : List UInt8) : Bool :=
  let d := trimPrefix l [45]
  decide (d ≠ []) && decide (d.length ≤ 100) && (if d.head? = some 48 then decide (l = [48]) else d.all fun c => decide (48 ≤ c.toNat) && decide (c.toNat ≤ 57))

theorem trim_minus (l : List UInt8) : (∃ r, l = 45 :: r ∧ trimPrefix l [45] = r ∧ hasPrefix l [45] = true) ∨ (l.head? ≠ some 45 ∧ trimPrefix l [45] = l ∧ hasPrefix l [45] = false) := by
  match l with
  | [] => right; simp [trimPrefix, hasPrefix]
  | c :: r =>
    by_cases h : c = 45
    · subst h; left; exact ⟨r, rfl, by simp [trimPrefix, hasPrefix], by simp [hasPrefix]⟩
    · right
      have : hasPrefix (c :: r) [45] = false := by
        unfold hasPrefix
        simp only [List.isPrefixOf, Bool.and_eq_false_iff, beq_eq_false_iff_ne]
        exact Or.inl (fun h' => h h'.symm)
      exact ⟨by simpa using h, by simp [trimPrefix, this], this⟩

/-- The numbers that have at most 100 digits. -/
def Fits (n : Int) : Prop := n.natAbs < 10 ^ 100

theorem dec_all (n : Nat) : (decDigits n).all (fun c => decide (48 ≤ c.toNat) && decide (c.toNat ≤ 57)) = true := by
  rw [List.all_eq_true]
  intro c hc
  have := digs_decDigits n c hc
  simp [this]

theorem dec_head0 {n : Nat} (h : (decDigits n).head? = some 48) : n = 0 := by
  have hc := canon_decDigits n
  by_cases hl : 1 < (decDigits n).length
  · exact absurd h (hc.2.2 hl)
  · have h1 : n < 10 := by
      by_cases h9 : n < 10
      · exact h9
      · rw [decDigits_length, nDigits_big h9] at hl
        have := nDigits_pos (n / 10)
        omega
    rw [decDigits_one h1] at h
    simp only [List.head?_cons, Option.some.injEq] at h
    have := congrArg UInt8.toNat h
    rw [ofNat_toNat (by omega)] at this
    simp at this
    omega

theorem dec_minus (n : Nat) : (decDigits n).head? ≠ some 45 := by
  intro h
  have hm : (45 : UInt8) ∈ decDigits n := List.mem_of_mem_head? (by rw [h]; rfl)
  have := digs_decDigits n _ hm
  simp at this

/-- What num.Good takes is the text of a number. -/
theorem good_iff (l : List UInt8) : goodB l = true ↔ ∃ n : Int, Fits n ∧ l = itoa n := by
  constructor
  · intro h
    unfold goodB at h
    simp only [Bool.and_eq_true, decide_eq_true_eq] at h
    obtain ⟨⟨h1, h2⟩, h3⟩ := h
    have main : ∀ d : List UInt8, d ≠ [] → d.length ≤ 100 → d.head? ≠ some 48 → (d.all fun c => decide (48 ≤ c.toNat) && decide (c.toNat ≤ 57)) = true → decDigits (dval d) = d ∧ dval d < 10 ^ 100 ∧ dval d ≠ 0 := by
      intro d a b c e
      have hd : Digs d := fun x hx => by have := List.all_eq_true.1 e x hx; simpa using this
      have e1 := decDigits_dval ⟨hd, a, fun _ => c⟩
      refine ⟨e1, Nat.lt_of_lt_of_le (dval_lt hd) (Nat.pow_le_pow_right (by omega) b), fun h0 => ?_⟩
      rw [h0, decDigits_one (by omega)] at e1
      rw [← e1] at c
      exact c rfl
    rcases trim_minus l with ⟨r, rfl, e1, _⟩ | ⟨h0, e1, _⟩
    · rw [e1] at h1 h2 h3
      by_cases h4 : r.head? = some 48
      · rw [if_pos h4] at h3; simp at h3
      · rw [if_neg h4] at h3
        obtain ⟨a, b, c⟩ := main r h1 h2 h4 h3
        refine ⟨-(dval r : Int), by unfold Fits; omega, ?_⟩
        rw [itoa_neg _ (by omega), a]
    · rw [e1] at h1 h2 h3
      by_cases h4 : l.head? = some 48
      · rw [if_pos h4] at h3
        have h3 : l = [48] := by simpa using h3
        exact ⟨0, by unfold Fits; simp, by rw [h3]; rw [show (0 : Int) = ((0 : Nat) : Int) from rfl, itoa_nonneg, decDigits_one (by omega)]; rfl⟩
      · rw [if_neg h4] at h3
        obtain ⟨a, b, c⟩ := main l h1 h2 h4 h3
        exact ⟨(dval l : Int), by unfold Fits; omega, by rw [itoa_nonneg, a]⟩
  · rintro ⟨n, hn, rfl⟩
    unfold Fits at hn
    have main : ∀ m : Nat, m < 10 ^ 100 → decDigits m ≠ [] ∧ (decDigits m).length ≤ 100 := fun m hm => ⟨decDigits_ne m, by rw [decDigits_length]; exact nDigits_le (by omega) hm⟩
    unfold goodB
    simp only [Bool.and_eq_true, decide_eq_true_eq]
    by_cases h : n < 0
    · obtain ⟨m, rfl⟩ : ∃ m : Nat, n = -(m : Int) := ⟨n.natAbs, by omega⟩
      have hm : m < 10 ^ 100 := by omega
      rw [itoa_neg m (by omega)]
      have e : trimPrefix (45 :: decDigits m) [45] = decDigits m := by simp [trimPrefix, hasPrefix]
      rw [e]
      refine ⟨main m hm, ?_⟩
      rw [if_neg (fun h0 => by have := dec_head0 h0; omega)]
      exact dec_all m
    · obtain ⟨m, rfl⟩ : ∃ m : Nat, n = (m : Int) := ⟨n.natAbs, by omega⟩
      have hm : m < 10 ^ 100 := by omega
      rw [itoa_nonneg]
      have e : trimPrefix (decDigits m) [45] = decDigits m := by
        rcases trim_minus (decDigits m) with ⟨r, e, _⟩ | ⟨_, e, _⟩
        · exact absurd (by rw [e]; rfl) (dec_minus m)
        · exact e
      rw [e]
      refine ⟨main m hm, ?_⟩
      split
      · rename_i h0
        have := dec_head0 h0
        subst this
        rw [decDigits_one (by omega)]; rfl
      · exact dec_all m

end Go.Proofs.YtnmfoedfllmclaaGreatDoor
namespace Go.Proofs.YtnmfoedfllmclaaGreatDoor
open Go.RowKit

end Go.Proofs.YtnmfoedfllmclaaGreatDoor
namespace Go.Proofs.YtnmfoedfllmclaaGreatDoor
open Go.RowKit

end Go.Proofs.YtnmfoedfllmclaaGreatDoor
namespace Go.Proofs.YtnmfoedfllmclaaGreatDoor

/-- What its first k limbs say. -/
def low (x k : Nat) : Nat := x % 1000000000 ^ k

theorem Low.set {l : List Nat} (h : Low l) (n : Nat) {x : Nat} (hx : x < 1000000000) : Low (l.set n x) := fun y hy => by
  rcases List.mem_or_eq_of_mem_set hy with h1 | h1
  · exact h y h1
  · omega
end Go.Proofs.YtnmfoedfllmclaaGreatDoor
namespace Go.Proofs.YtnmfoedfllmclaaGreatDoor
open Go.RowKit Go.Shelf

attribute [local go_sem] Oper.semAt_some

/-- The blocks bs lie as they lay. -/
def KeepB (bs : List Nat) (W W' : World) : Prop := ∀ b ∈ bs, ∀ o, W.heap[b]? = some o → W'.heap[b]? = some o
theorem KeepB.refl (bs : List Nat) (W : World) : KeepB bs W W := fun _ _ _ h => h
theorem KeepB.trans {bs : List Nat} {A B C : World} (h : KeepB bs A B) (k : KeepB bs B C) : KeepB bs A C := fun b hb o ho => k b hb o (h b hb o ho)
theorem KeepB.setCell {bs : List Nat} (W : World) (p : Addr) (v : Value) (h : p.block ∉ bs) : KeepB bs W (W.setCell p v) := fun b hb o ho => by
  rw [Below.heap_setCell _ _ _ _ (fun e => h (by rw [← e]; exact hb))]; exact ho
theorem KeepB.grown {bs : List Nat} {W W' : World} {row : Option Nat} (hg : W.grownBy W' row) (h : ∀ k, row = some k → k ∉ bs) : KeepB bs W W' := fun b hb o ho => by
  rw [hg.block b (Array.getElem?_eq_some_iff.1 ho).1 (fun e => h b e.symm hb)]; exact ho
/-- A place of n. -/
def Place (n : Nat) : Type := { k : Nat // k < n }
/-- The places that have come. -/
def places {n : Nat} (l : List (Place n)) : List Nat := l.map fun k => k.1

end Go.Proofs.YtnmfoedfllmclaaGreatDoor
namespace Go.Proofs.YtnmfoedfllmclaaGreatDoor
open Go.RowKit
end Go.Proofs.YtnmfoedfllmclaaGreatDoor
