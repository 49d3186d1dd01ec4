/- Lists in strict order: one for each set; what is put in one by one · Plain mathematics for package num: numbers as limbs of nine digits, the lowest first, and as decimal texts. It speaks of no program · A size of package num in memory: a slice value that owns the cells of its limbs · num's small functions: limb, trimmed, readLimb: each only reads -/
import Derived.Lib.Hide
import Derived.Lib.ItoaNum
import Derived.Lib.ItoaMem
import Derived.Test.YtcbcjeabpjjhbaaGreatDoorProg
import Derived.WalkKit
import Derived.WalkSpells
import Derived.WalkLawsBesides
import Derived.OneCell
namespace Go.Proofs.YtcbcjeabpjjhbaaGreatDoor
set_option linter.unusedVariables false

/-- Two lists in strict order with the same members are one. -/
theorem sorted_one {β : Type} {lt : β → β → Prop} (hi : ∀ a, ¬ lt a a) (ht : ∀ a b c, lt a b → lt b c → lt a c) : ∀ {l m : List β}, l.Perm m → l.Pairwise lt → m.Pairwise lt → l = m
  | [], m, hp, _, _ => by rw [List.nil_perm.1 hp]
  | a :: l, [], hp, _, _ => by have := hp.length_eq; simp at this
  | a :: l, b :: m, hp, h1, h2 => by
    rw [List.pairwise_cons] at h1 h2
    have ha : a ∈ b :: m := hp.subset (by simp)
    have hb : b ∈ a :: l := hp.symm.subset (by simp)
    have he : a = b := by
      rcases List.mem_cons.1 ha with e | ha
      · exact e
      · rcases List.mem_cons.1 hb with e | hb
        · exact e.symm
        · exact absurd (ht _ _ _ (h1.1 b hb) (h2.1 a ha)) (hi a)
    subst he
    rw [sorted_one hi ht hp.cons_inv h1.2 h2.2]

/-- A pair put in its place. -/
def insP {κ α : Type} (lt : κ → κ → Bool) (p : κ × α) : List (κ × α) → List (κ × α)
  | [] => [p]
  | q :: l => if lt p.1 q.1 = true then p :: q :: l else q :: insP lt p l
theorem insP_perm {κ α : Type} (lt : κ → κ → Bool) (p : κ × α) : ∀ l : List (κ × α), (insP lt p l).Perm (p :: l)
  | [] => List.Perm.refl _
  | q :: l => by
    unfold insP
    split
    · exact List.Perm.refl _
    · exact ((insP_perm lt p l).cons q).trans (List.Perm.swap p q l)
theorem insP_mem {κ α : Type} {lt : κ → κ → Bool} {p x : κ × α} {l : List (κ × α)} : x ∈ insP lt p l ↔ x = p ∨ x ∈ l := by rw [(insP_perm lt p l).mem_iff, List.mem_cons]
/-- In strict order as before, if the key isn't there. -/
theorem insP_sorted {κ α : Type} {lt : κ → κ → Bool} (ht : ∀ a b c, lt a b = true → lt b c = true → lt a c = true) (hto : ∀ a b, a ≠ b → lt a b = true ∨ lt b a = true) (p : κ × α) : ∀ l : List (κ × α), (∀ q ∈ l, q.1 ≠ p.1) → l.Pairwise (fun a b => lt a.1 b.1 = true) → (insP lt p l).Pairwise (fun a b => lt a.1 b.1 = true)
  | [], _, _ => by simp [insP]
  | q :: l, hn, hs => by
    rw [List.pairwise_cons] at hs
    unfold insP
    split
    · rename_i h
      rw [List.pairwise_cons, List.pairwise_cons]
      refine ⟨fun x hx => ?_, hs⟩
      rcases List.mem_cons.1 hx with rfl | hx
      · exact h
      · exact ht _ _ _ h (hs.1 x hx)
    · rename_i h
      rw [List.pairwise_cons]
      refine ⟨fun x hx => ?_, insP_sorted ht hto p l (fun x hx => hn x (by simp [hx])) hs.2⟩
      rcases insP_mem.1 hx with rfl | hx
      · rcases hto q.1 x.1 (hn q (by simp)) with h1 | h1
        · exact h1
        · exact absurd h1 h
      · exact hs.1 x hx
/-- One by one, as long as no key comes twice. -/
def putAll {κ α : Type} (lt : κ → κ → Bool) [DecidableEq κ] : List (κ × α) → List (κ × α) → Option (List (κ × α))
  | acc, [] => some acc
  | acc, p :: l => if p.1 ∈ acc.map Prod.fst then none else putAll lt (insP lt p acc) l
theorem putAll_some {κ α : Type} {lt : κ → κ → Bool} [DecidableEq κ] (ht : ∀ a b c, lt a b = true → lt b c = true → lt a c = true) (hto : ∀ a b, a ≠ b → lt a b = true ∨ lt b a = true) : ∀ (l acc z : List (κ × α)), putAll lt acc l = some z → acc.Pairwise (fun a b => lt a.1 b.1 = true) → z.Pairwise (fun a b => lt a.1 b.1 = true) ∧ z.Perm (acc ++ l)
  | [], acc, z, h, hs => by
    unfold putAll at h
    cases h
    exact ⟨hs, by simp⟩
  | p :: l, acc, z, h, hs => by
    unfold putAll at h
    split at h
    · cases h
    · rename_i hn
      obtain ⟨h1, h2⟩ := putAll_some ht hto l _ z h (insP_sorted ht hto p acc (fun q hq e => hn (by rw [← e]; exact List.mem_map.2 ⟨q, hq, rfl⟩)) hs)
      exact ⟨h1, h2.trans (((insP_perm lt p acc).append_right l).trans (List.perm_middle.symm))⟩
theorem putAll_none {κ α : Type} {lt : κ → κ → Bool} [DecidableEq κ] : ∀ (l acc : List (κ × α)), putAll lt acc l = none → (acc.map Prod.fst).Nodup → ¬ ((acc ++ l).map Prod.fst).Nodup
  | [], acc, h, _ => by unfold putAll at h; cases h
  | p :: l, acc, h, hd => by
    unfold putAll at h
    split at h
    · rename_i hm
      intro hn
      rw [List.map_append, List.map_cons, List.nodup_append] at hn
      exact hn.2.2 p.1 hm p.1 (by simp) rfl
    · rename_i hm
      have hp : ((insP lt p acc).map Prod.fst).Perm (p.1 :: acc.map Prod.fst) := (insP_perm lt p acc).map Prod.fst
      have hd2 : ((insP lt p acc).map Prod.fst).Nodup := hp.nodup_iff.2 (List.nodup_cons.2 ⟨hm, hd⟩)
      intro hn
      refine putAll_none l _ h hd2 ?_
      have hq : (((insP lt p acc) ++ l).map Prod.fst).Perm ((acc ++ p :: l).map Prod.fst) := (((insP_perm lt p acc).append_right l).trans (List.perm_middle.symm)).map Prod.fst
      exact hq.nodup_iff.2 hn
end Go.Proofs.YtcbcjeabpjjhbaaGreatDoor
namespace Go.Proofs.YtcbcjeabpjjhbaaGreatDoor
open Go.Lib

/-- A number's limbs, the lowest first; 0 has none. -/
def limbs (n : Nat) : List Nat := if h : n = 0 then [] else (n % 1000000000) :: limbs (n / 1000000000)
termination_by n
decreasing_by omega

/-- What limbs say. -/
def lval : List Nat → Nat
  | [] => 0
  | x :: r => x + 1000000000 * lval r

theorem limbs_zero : limbs 0 = [] := by rw [limbs]; simp
theorem limbs_pos {n : Nat} (h : n ≠ 0) : limbs n = (n % 1000000000) :: limbs (n / 1000000000) := by rw [limbs]; simp [h]

theorem lval_limbs (n : Nat) : lval (limbs n) = n := by
  induction n using Nat.strongRecOn with
  | _ n ih =>
    by_cases h : n = 0
    · subst h; rw [limbs_zero]; rfl
    · rw [limbs_pos h, lval, ih (n / 1000000000) (by omega)]; omega

theorem limbs_lt (n : Nat) : ∀ x ∈ limbs n, x < 1000000000 := by
  induction n using Nat.strongRecOn with
  | _ n ih =>
    by_cases h : n = 0
    · subst h; rw [limbs_zero]; simp
    · rw [limbs_pos h]
      intro x hx
      rcases List.mem_cons.1 hx with rfl | hx
      · omega
      · exact ih (n / 1000000000) (by omega) x hx

theorem getD_in {l : List Nat} {i : Nat} (h : i < l.length) : l.getD i 0 = l[i] := by simp [List.getD, h]
theorem getD_out {l : List Nat} {i : Nat} (h : l.length ≤ i) : l.getD i 0 = 0 := by simp [List.getD, h]
/-- No limb is too great. -/
def Low (l : List Nat) : Prop := ∀ x ∈ l, x < 1000000000
theorem Low.tail {x : Nat} {l : List Nat} (h : Low (x :: l)) : Low l := fun y hy => h y (List.mem_cons_of_mem _ hy)
theorem Low.head {x : Nat} {l : List Nat} (h : Low (x :: l)) : x < 1000000000 := h x List.mem_cons_self
theorem Low.take {l : List Nat} (h : Low l) (k : Nat) : Low (l.take k) := fun x hx => h x (List.mem_of_mem_take hx)
theorem Low.drop {l : List Nat} (h : Low l) (k : Nat) : Low (l.drop k) := fun x hx => h x (List.mem_of_mem_drop hx)
theorem Low.snoc {l : List Nat} (h : Low l) {x : Nat} (hx : x < 1000000000) : Low (l ++ [x]) := fun y hy => by
  rcases List.mem_append.1 hy with hy | hy
  · exact h y hy
  · simp at hy; omega
theorem Low.getD {l : List Nat} (h : Low l) (i : Nat) : l.getD i 0 < 1000000000 := by
  by_cases hi : i < l.length
  · rw [getD_in hi]; exact h _ (List.getElem_mem hi)
  · rw [getD_out (by omega)]; omega
theorem low_limbs (n : Nat) : Low (limbs n) := limbs_lt n

theorem lval_append (a b : List Nat) : lval (a ++ b) = lval a + 1000000000 ^ a.length * lval b := by
  induction a with
  | nil => simp [lval]
  | cons x a ih => simp only [List.cons_append, lval, ih, List.length_cons, Nat.pow_succ, Nat.mul_add]; rw [Nat.mul_comm (1000000000 ^ a.length) 1000000000, Nat.mul_assoc]; omega

theorem lval_lt {l : List Nat} (h : Low l) : lval l < 1000000000 ^ l.length := by
  induction l with
  | nil => simp [lval]
  | cons x l ih =>
    have := ih h.tail
    have := h.head
    simp only [lval, List.length_cons, Nat.pow_succ]
    omega

/-- Limbs of which the last isn't 0 are the number's. -/
theorem limbs_lval {l : List Nat} (h : Low l) (hl : ∀ (hn : l ≠ []), l.getLast hn ≠ 0) : limbs (lval l) = l := by
  induction l with
  | nil => exact limbs_zero
  | cons x l ih =>
    have hx := h.head
    by_cases hn : l = []
    · subst hn
      have : x ≠ 0 := hl (by simp)
      simp only [lval]
      rw [limbs_pos (by omega), show (x + 1000000000 * 0) / 1000000000 = 0 by omega, limbs_zero, show (x + 1000000000 * 0) % 1000000000 = x by omega]
    · have e := ih h.tail (fun hn' => by have := hl (by simp); rwa [List.getLast_cons hn'] at this)
      have hp : lval l ≠ 0 := fun h0 => by rw [h0, limbs_zero] at e; exact hn e.symm
      simp only [lval]
      rw [limbs_pos (by omega), show (x + 1000000000 * lval l) / 1000000000 = lval l by omega, show (x + 1000000000 * lval l) % 1000000000 = x by omega, e]

theorem limbs_last (n : Nat) : ∀ (hn : limbs n ≠ []), (limbs n).getLast hn ≠ 0 := by
  induction n using Nat.strongRecOn with
  | _ n ih =>
    intro hn
    by_cases h : n = 0
    · subst h; exact absurd limbs_zero hn
    · have e := limbs_pos h
      by_cases h2 : n / 1000000000 = 0
      · have e2 : limbs n = [n % 1000000000] := by rw [e, h2, limbs_zero]
        simp only [e2, List.getLast_singleton]
        omega
      · have e3 : limbs (n / 1000000000) ≠ [] := by rw [limbs_pos h2]; simp
        have := ih (n / 1000000000) (by omega) e3
        simp only [e, List.getLast_cons e3]
        exact this

theorem limbs_nil {n : Nat} : limbs n = [] ↔ n = 0 := ⟨fun h => by by_cases h0 : n = 0; exact h0; rw [limbs_pos h0] at h; simp at h, fun h => by subst h; exact limbs_zero⟩

theorem limbs_length {n k : Nat} (h : n < 1000000000 ^ k) : (limbs n).length ≤ k := by
  induction k generalizing n with
  | zero =>
    obtain rfl : n = 0 := by simp at h; omega
    rw [limbs_zero]; simp
  | succ k ih =>
    by_cases h0 : n = 0
    · subst h0; rw [limbs_zero]; simp
    · rw [limbs_pos h0, List.length_cons]
      have := @ih (n / 1000000000) (by rw [Nat.pow_succ] at h; omega)
      omega

theorem limbs_length_lt {n k : Nat} (h : 1000000000 ^ k ≤ n) : k < (limbs n).length := by
  by_cases hk : k < (limbs n).length
  · exact hk
  · exfalso
    have h1 := lval_lt (low_limbs n)
    rw [lval_limbs] at h1
    have h2 : 1000000000 ^ (limbs n).length ≤ 1000000000 ^ k := Nat.pow_le_pow_right (by omega) (by omega)
    omega

/-- One limb more, taken from the front. -/
theorem lval_take_succ {l : List Nat} {k : Nat} (h : k < l.length) : lval (l.take (k + 1)) = lval (l.take k) + 1000000000 ^ k * l.getD k 0 := by
  rw [List.take_succ_eq_append_getElem h, lval_append, List.length_take, Nat.min_eq_left (by omega), getD_in h]
  simp [lval]
theorem lval_split (l : List Nat) (k : Nat) (h : k ≤ l.length) : lval l = lval (l.take k) + 1000000000 ^ k * lval (l.drop k) := by
  have := lval_append (l.take k) (l.drop k)
  rw [List.take_append_drop, List.length_take, Nat.min_eq_left h] at this
  exact this
theorem lval_drop {l : List Nat} {k : Nat} (h : k < l.length) : lval (l.drop k) = l.getD k 0 + 1000000000 * lval (l.drop (k + 1)) := by
  rw [List.drop_eq_getElem_cons h, lval, getD_in h]

/-- A last limb that is 0 says nothing. -/
theorem lval_take_pred {l : List Nat} {k : Nat} (h : k < l.length) (h0 : l.getD k 0 = 0) : lval (l.take k) = lval (l.take (k + 1)) := by
  rw [lval_take_succ h, h0]; simp

end Go.Proofs.YtcbcjeabpjjhbaaGreatDoor
namespace Go.Proofs.YtcbcjeabpjjhbaaGreatDoor
open Go.RowKit

/-- The cells of limbs. -/
def u64s (l : List Nat) : List Value := l.map fun x : Nat => Value.int .u64 (x : Int)
theorem u64s_length (l : List Nat) : (u64s l).length = l.length := by simp [u64s]
theorem u64s_append (a b : List Nat) : u64s (a ++ b) = u64s a ++ u64s b := by simp [u64s]
theorem u64s_take (l : List Nat) (k : Nat) : (u64s l).take k = u64s (l.take k) := by simp [u64s, List.map_take]
theorem u64s_at {l : List Nat} {j : Nat} (h : j < l.length) : (u64s l)[j]? = some (.int .u64 ((l.getD j 0 : Nat) : Int)) := by
  simp [u64s, h]

/-- The slice value v owns the limbs l, in a block from lo on (or it is nil, and there are none). -/
def Own (lo : Nat) (w : World) (v : Value) (l : List Nat) : Prop := w.ownsRow lo 100 1 v l.length (u64s l)
/-- The slice value v is the size n. -/
def Sz (lo : Nat) (w : World) (v : Value) (n : Nat) : Prop := Own lo w v (limbs n)

theorem Own.lt {lo : Nat} {w : World} {v : Value} {l : List Nat} (h : Own lo w v l) {k : Nat} (hk : v.ownBlock = some k) : lo ≤ k ∧ k < w.heap.size := World.ownsRow.lt h k hk
theorem Own.below {lo : Nat} {w w' : World} {v : Value} {l : List Nat} (h : Own lo w v l) (hb : Below w.heap.size w w') : Own lo w' v l := by
  obtain ⟨h1, h2⟩ := h
  refine ⟨h1, ?_⟩
  rcases h2 with h2 | ⟨g, cap, cur, h2, h3, h4, h5⟩
  · exact .inl h2
  · refine .inr ⟨g, cap, cur, h2, h3, ?_, h5⟩
    rw [hb.block g (Array.getElem?_eq_some_iff.1 h4).1]; exact h4
theorem Own.mono {lo lo' : Nat} {w : World} {v : Value} {l : List Nat} (h : Own lo w v l) (hl : lo' ≤ lo) : Own lo' w v l := by
  obtain ⟨h1, h2⟩ := h
  refine ⟨h1, ?_⟩
  rcases h2 with h2 | ⟨g, cap, cur, h2, h3, h4, h5⟩
  · exact .inl h2
  · exact .inr ⟨g, cap, cur, h2, by omega, h4, h5⟩
theorem Sz.below {lo : Nat} {w w' : World} {v : Value} {n : Nat} (h : Sz lo w v n) (hb : Below w.heap.size w w') : Sz lo w' v n := Own.below h hb
theorem Sz.mono {lo lo' : Nat} {w : World} {v : Value} {n : Nat} (h : Sz lo w v n) (hl : lo' ≤ lo) : Sz lo' w v n := Own.mono h hl

/-- What a walk reads of an owned slice: its length, and its cells where there are some. -/
theorem Own.view {lo : Nat} {w : World} {v : Value} {l : List Nat} (h : Own lo w v l) :
    ∃ ad cap, v = .slice ad l.length cap ∧ l.length ≤ cap ∧ cap ≤ maxLen ∧ (0 < l.length → ∃ g, ad = some ⟨g, 0, none⟩ ∧ lo ≤ g ∧ g < w.heap.size ∧ ∀ j, j < l.length → w.cell? ⟨g, j, none⟩ = some (.int .u64 ((l.getD j 0 : Nat) : Int))) := by
  have h0 := h
  obtain ⟨h1, h2⟩ := h
  rcases h2 with ⟨rfl, h2⟩ | ⟨g, cap, cur, rfl, h3, h4, h5, h6, h7⟩
  · exact ⟨none, 0, by rw [h2], by omega, by unfold maxLen; omega, fun h => by omega⟩
  · refine ⟨_, cap, rfl, h5, h6, fun _ => ⟨g, rfl, h3, (Array.getElem?_eq_some_iff.1 h4).1, fun j hj => ?_⟩⟩
    have := World.ownsRow.cells h0 (g := g) rfl j _ (u64s_at hj)
    rwa [Lib.add_plain, Nat.zero_add] at this

/-- Fewer limbs of the same slice. -/
theorem Own.cut {lo : Nat} {w : World} {ad : Option Addr} {n cap : Nat} {l : List Nat} (h : Own lo w (.slice ad n cap) l) {k : Nat} (hk : k ≤ l.length) : Own lo w (.slice ad k cap) (l.take k) := by
  obtain ⟨h1, h2⟩ := h
  refine ⟨by rw [u64s_length, Nat.mul_one], ?_⟩
  have e : (l.take k).length = k := by rw [List.length_take]; omega
  rcases h2 with ⟨h2, h3⟩ | ⟨g, cap', cur, h2, h3, h4, h5, h6, h7, h8⟩
  · left
    cases h2
    rw [e]
    have : k = 0 := by omega
    subst this
    exact ⟨rfl, rfl⟩
  · right
    cases h2
    refine ⟨g, _, cur, ?_, h3, h4, by rw [e]; omega, h6, h7, ?_⟩
    · rw [e]
    · rw [e, ← u64s_take, ← h8, List.take_take, Nat.mul_one, Nat.mul_one, Nat.min_eq_left hk]

/-- An owned row is some slice. -/
theorem row_shape {lo : Nat} {w : World} {e : TypeId} {k : Nat} {v : Value} {n : Nat} {xs : List Value} (h : w.ownsRow lo e k v n xs) : ∃ ad cap, v = .slice ad n cap := by
  rcases h.2 with ⟨rfl, h2⟩ | ⟨g, cap, cur, rfl, _⟩
  · exact ⟨none, 0, by rw [h2]⟩
  · exact ⟨_, _, rfl⟩

theorem Own.nil {lo : Nat} {w : World} : Own lo w (.slice none 0 0) [] := ⟨rfl, .inl ⟨rfl, rfl⟩⟩

theorem Own.row {lo : Nat} {w : World} {v : Value} {l : List Nat} (h : Own lo w v l) : w.ownsRow lo 100 1 v l.length (u64s l) := h
theorem Own.snoc {lo : Nat} {w : World} {v : Value} {l : List Nat} {x : Nat} (h : w.ownsRow lo 100 1 v (l.length + 1) (u64s l ++ [.int .u64 (x : Int)])) : Own lo w v (l ++ [x]) := by
  unfold Own
  rw [u64s_append, List.length_append, List.length_singleton]
  exact h

/-- A store into one of the cells. -/
theorem Own.set {lo : Nat} {w : World} {g cap : Nat} {n : Nat} {l : List Nat} (h : Own lo w (.slice (some ⟨g, 0, none⟩) n cap) l) (hn : n = l.length) (j x : Nat) : Own lo (w.setCell ⟨g, j, none⟩ (.int .u64 (x : Int))) (.slice (some ⟨g, 0, none⟩) n cap) (l.set j x) := by
  subst hn
  have h1 := (World.ownsRow.stored h j (.int .u64 (x : Int))).1
  unfold Own
  rw [List.length_set]
  have e : u64s (l.set j x) = (u64s l).set j (.int .u64 (x : Int)) := by unfold u64s; rw [List.map_set]
  rw [e]
  exact h1
theorem Own.frozen {lo : Nat} {w : World} {g cap : Nat} {n : Nat} {l : List Nat} (h : Own lo w (.slice (some ⟨g, 0, none⟩) n cap) l) (hn : n = l.length) (j : Nat) : w.frozen? ⟨g, j, none⟩ = false := by
  subst hn
  exact World.ownsRow.frozenAt h j
theorem Own.made {lo : Nat} {w : World} {v : Value} {n : Nat} (h : w.ownsRow lo 100 1 v n (madeCells #[.int .u64 0] (n * 1)).toList) : Own lo w v (List.replicate n 0) := by
  unfold Own
  rw [List.length_replicate]
  have e : u64s (List.replicate n 0) = List.replicate n (.int .u64 0) := by unfold u64s; rw [List.map_replicate]; rfl
  rw [e]
  rw [toList_madeCells_one, Nat.mul_one] at h
  exact h

theorem Tryz.infoU64 : (Tryz.prog.info? 100).map (fun i => (i.zero, i.size, i.bytes)) = some (some (.int .u64 0), 1, 8) := by kernel_rfl

theorem Tryz.infoU8 : (Tryz.prog.info? 5).map (fun i => (i.zero, i.size, i.bytes)) = some (some (.int .u8 0), 1, 1) := by kernel_rfl
/-- What is owned stays owned where what was there stays. -/
theorem row_below {lo : Nat} {e : TypeId} {k n : Nat} {w w' : World} {v : Value} {xs : List Value} (h : w.ownsRow lo e k v n xs) (hb : Below w.heap.size w w') : w'.ownsRow lo e k v n xs := by
  obtain ⟨h1, h2⟩ := h
  refine ⟨h1, ?_⟩
  rcases h2 with h2 | ⟨g, cap, cur, h2, h3, h4, h5⟩
  · exact .inl h2
  · refine .inr ⟨g, cap, cur, h2, h3, ?_, h5⟩
    rw [hb.block g (Array.getElem?_eq_some_iff.1 h4).1]; exact h4

theorem cell_box (w : World) (x : Value) (t : TypeId) : ∀ (j : Nat) (u : Value), [x][j]? = some u → (w.alloc (.cells #[x] t)).cell? ((⟨w.heap.size, 0, none⟩ : Addr).add j) = some u := by
  intro j u hj
  match j, hj with
  | 0, hj => simp at hj; subst hj; simp [Addr.add]

end Go.Proofs.YtcbcjeabpjjhbaaGreatDoor
namespace Go.Proofs.YtcbcjeabpjjhbaaGreatDoor
open Go.RowKit

/-- What trimmed answers: limbs without 0s at the end, of the same number. -/
def Trim (lo : Nat) (w : World) (l : List Nat) (e : Ending) (w' : World) : Prop := ∃ v', e = .returned v' ∧ Sz lo w v' (lval l) ∧ w = w'

theorem trim_done {lo : Nat} {w : World} {ad : Option Addr} {cap k : Nat} {l : List Nat} (h : Own lo w (.slice ad k cap) (l.take k)) (hlow : Low l) (hk : k ≤ l.length) (hv : lval (l.take k) = lval l) (hz : 0 < k → l.getD (k - 1) 0 ≠ 0) : Sz lo w (.slice ad k cap) (lval l) := by
  have e : limbs (lval l) = l.take k := by
    rw [← hv]
    refine limbs_lval (hlow.take k) fun hn => ?_
    have hk0 : 0 < k := by
      rcases Nat.eq_zero_or_pos k with h0 | h0
      · subst h0; simp at hn
      · exact h0
    have := hz hk0
    rw [getD_in (by omega)] at this
    rw [List.getLast_eq_getElem]
    simp only [List.getElem_take, List.length_take, Nat.min_eq_left hk]
    exact this
  unfold Sz
  rw [e]
  exact h

end Go.Proofs.YtcbcjeabpjjhbaaGreatDoor
