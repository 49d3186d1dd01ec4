/- The order of values, as of trees: it turns round, goes through, and says 0 just of the same · cmp.Compare of strings, slices.Compare of lists of strings · A key put or dropped in its place: the document's way and the program's are one · value.Object of any items: what it has made -/
import Derived.Handy
import Derived.Test.YtnmfoedfllmclaaGreatDoorJr02
import Derived.Test.YtnmfoedfllmclaaGreatDoorJr03
import Derived.Test.YtnmfoedfllmclaaGreatDoorJr04
import Derived.Test.YtnmfoedfllmclaaGreatDoorJr05
import Derived.Test.YtnmfoedfllmclaaGreatDoorJr06
namespace Go.Proofs.YtnmfoedfllmclaaGreatDoor
open Go.RowKit
set_option linter.unusedVariables false

def cmpB (a b : Bool) : Int := if a = b then 0 else if b then -1 else 1
def cmpS (a b : ByteArray) : Int := Lib.compareBytes a.data.toList b.data.toList
def cmpKs : List ByteArray → List ByteArray → Int
  | [], [] => 0
  | [], _ :: _ => -1
  | _ :: _, [] => 1
  | a :: l, b :: m => if cmpS a b = 0 then cmpKs l m else cmpS a b
mutual
def cmpT : VT → VT → Int
  | .node k b t its ks, .node k' b' t' its' ks' =>
    if k = k' then (if k = 2 then cmpB b b' else if k = 3 then sgnI (textVal t.data.toList) (textVal t'.data.toList) else if k = 4 then cmpS t t' else if cmpKs ks ks' = 0 then cmpL its its' else cmpKs ks ks') else sgnI k k'
def cmpL : List VT → List VT → Int
  | [], [] => 0
  | [], _ :: _ => -1
  | _ :: _, [] => 1
  | x :: l, y :: m => if cmpT x y = 0 then cmpL l m else cmpT x y
end

/-! ### It turns round -/
theorem cmpB_anti (a b : Bool) : cmpB b a = - cmpB a b := by cases a <;> cases b <;> rfl
theorem sgnI_anti (a b : Int) : sgnI b a = - sgnI a b := by unfold sgnI; repeat' split <;> omega
theorem bytes_anti : ∀ a b : List UInt8, Lib.compareBytes b a = - Lib.compareBytes a b
  | [], [] => rfl
  | [], _ :: _ => rfl
  | _ :: _, [] => rfl
  | x :: l, y :: m => by
    unfold Lib.compareBytes
    have ih := bytes_anti l m
    by_cases h1 : x < y
    · have h2 : ¬ y < x := UInt8.lt_asymm h1
      rw [if_pos h1, if_neg h2, if_pos h1]; rfl
    · rw [if_neg h1]
      by_cases h2 : y < x
      · rw [if_pos h2, if_pos h2, if_neg h1]
      · rw [if_neg h2, if_neg h2, if_neg h1, ih]
theorem cmpS_anti (a b : ByteArray) : cmpS b a = - cmpS a b := bytes_anti _ _
theorem lex_anti {p q r s : Int} (h1 : q = -p) (h2 : s = -r) : (if q = 0 then s else q) = - (if p = 0 then r else p) := by
  subst h1 h2
  by_cases h : p = 0
  · rw [if_pos (by omega), if_pos h]
  · rw [if_neg (by omega), if_neg h]
theorem cmpKs_anti : ∀ l m : List ByteArray, cmpKs m l = - cmpKs l m
  | [], [] => rfl
  | [], _ :: _ => rfl
  | _ :: _, [] => rfl
  | a :: l, b :: m => by
    unfold cmpKs
    exact lex_anti (cmpS_anti a b) (cmpKs_anti l m)
mutual
theorem cmpT_anti : ∀ a b : VT, cmpT b a = - cmpT a b
  | .node k b t its ks, .node k' b' t' its' ks' => by
    unfold cmpT
    by_cases hk : k = k'
    · subst hk
      rw [if_pos rfl, if_pos rfl]
      by_cases h2 : k = 2
      · rw [if_pos h2, if_pos h2]; exact cmpB_anti _ _
      · rw [if_neg h2, if_neg h2]
        by_cases h3 : k = 3
        · rw [if_pos h3, if_pos h3]; exact sgnI_anti _ _
        · rw [if_neg h3, if_neg h3]
          by_cases h4 : k = 4
          · rw [if_pos h4, if_pos h4]; exact cmpS_anti _ _
          · rw [if_neg h4, if_neg h4]; exact lex_anti (cmpKs_anti _ _) (cmpL_anti its its')
    · rw [if_neg hk, if_neg (fun e => hk e.symm)]; exact sgnI_anti _ _
theorem cmpL_anti : ∀ l m : List VT, cmpL m l = - cmpL l m
  | [], [] => by unfold cmpL; rfl
  | [], _ :: _ => by unfold cmpL; rfl
  | _ :: _, [] => by unfold cmpL; rfl
  | x :: l, y :: m => by
    unfold cmpL
    exact lex_anti (cmpT_anti x y) (cmpL_anti l m)
end

/-! ### It goes through -/
/-- p, q, r: the first to the second, the second to the third, the first to the third. -/
def Thru (p q r : Int) : Prop := (p ≤ 0 → q ≤ 0 → r ≤ 0 ∧ (r = 0 → p = 0 ∧ q = 0)) ∧ (p = 0 → q = 0 → r = 0)
theorem thru_lex {p q r p' q' r' : Int} (h : Thru p q r) (h' : Thru p' q' r') : Thru (if p = 0 then p' else p) (if q = 0 then q' else q) (if r = 0 then r' else r) := by
  obtain ⟨a, b⟩ := h
  obtain ⟨c, d⟩ := h'
  by_cases hp : p = 0
  · by_cases hq : q = 0
    · have hr := b hp hq
      rw [if_pos hp, if_pos hq, if_pos hr]; exact ⟨c, d⟩
    · rw [if_pos hp, if_neg hq]
      refine ⟨fun h1 h2 => ?_, fun h1 h2 => absurd h2 hq⟩
      have := a (by omega) h2
      have hr : r ≠ 0 := fun e => hq (this.2 e).2
      rw [if_neg hr]; exact ⟨this.1, fun e => absurd e hr⟩
  · by_cases hq : q = 0
    · rw [if_neg hp, if_pos hq]
      refine ⟨fun h1 h2 => ?_, fun h1 h2 => absurd h1 hp⟩
      have := a h1 (by omega)
      have hr : r ≠ 0 := fun e => hp (this.2 e).1
      rw [if_neg hr]; exact ⟨this.1, fun e => absurd e hr⟩
    · rw [if_neg hp, if_neg hq]
      refine ⟨fun h1 h2 => ?_, fun h1 h2 => absurd h1 hp⟩
      have := a h1 h2
      have hr : r ≠ 0 := fun e => hp (this.2 e).1
      rw [if_neg hr]; exact ⟨this.1, fun e => absurd e hr⟩
theorem sgnI_thru (a b c : Int) : Thru (sgnI a b) (sgnI b c) (sgnI a c) := by
  unfold Thru sgnI
  refine ⟨fun h1 h2 => ⟨?_, fun h3 => ⟨?_, ?_⟩⟩, fun h1 h2 => ?_⟩ <;> (revert h1 h2) <;> (try revert h3) <;> (repeat' split) <;> omega
theorem cmpB_thru (a b c : Bool) : Thru (cmpB a b) (cmpB b c) (cmpB a c) := by
  cases a <;> cases b <;> cases c <;> (unfold Thru; decide)
theorem bytes_cons (x y : UInt8) (l m : List UInt8) : Lib.compareBytes (x :: l) (y :: m) = if sgnI x.toNat y.toNat = 0 then Lib.compareBytes l m else sgnI x.toNat y.toNat := by
  have e : Lib.compareBytes (x :: l) (y :: m) = if x < y then -1 else if y < x then 1 else Lib.compareBytes l m := by conv => lhs; unfold Lib.compareBytes
  rw [e]
  have h1 : x < y ↔ (x.toNat : Int) < y.toNat := by rw [UInt8.lt_iff_toNat_lt]; omega
  have h2 : y < x ↔ (y.toNat : Int) < x.toNat := by rw [UInt8.lt_iff_toNat_lt]; omega
  unfold sgnI
  by_cases a : x < y
  · rw [if_pos a, if_pos (h1.1 a)]; rfl
  · rw [if_neg a, if_neg (fun e => a (h1.2 e))]
    by_cases b : y < x
    · rw [if_pos b, if_pos (h2.1 b)]; rfl
    · rw [if_neg b, if_neg (fun e => b (h2.2 e))]; rfl
theorem thru_nil {p q r : Int} (hp : p = 0 ∧ q = -1 ∧ r = -1 ∨ p = -1 ∧ q = 1 ∨ p = -1 ∧ r = -1 ∨ p = 1 ∨ q = 1 ∨ p = 0 ∧ q = 0 ∧ r = 0) : Thru p q r := by
  unfold Thru
  omega
theorem bytes_thru : ∀ a b c : List UInt8, Thru (Lib.compareBytes a b) (Lib.compareBytes b c) (Lib.compareBytes a c)
  | [], [], [] => thru_nil (by simp [Lib.compareBytes])
  | [], [], _ :: _ => thru_nil (by simp [Lib.compareBytes])
  | [], _ :: _, [] => thru_nil (by simp [Lib.compareBytes])
  | [], _ :: _, _ :: _ => thru_nil (by simp [Lib.compareBytes])
  | _ :: _, [], [] => thru_nil (by simp [Lib.compareBytes])
  | _ :: _, [], _ :: _ => thru_nil (by simp [Lib.compareBytes])
  | _ :: _, _ :: _, [] => thru_nil (by simp [Lib.compareBytes])
  | x :: l, y :: m, z :: n => by
    rw [bytes_cons, bytes_cons, bytes_cons]
    exact thru_lex (sgnI_thru _ _ _) (bytes_thru l m n)
theorem cmpS_thru (a b c : ByteArray) : Thru (cmpS a b) (cmpS b c) (cmpS a c) := bytes_thru _ _ _
theorem cmpKs_thru : ∀ a b c : List ByteArray, Thru (cmpKs a b) (cmpKs b c) (cmpKs a c)
  | [], [], [] => thru_nil (by simp [cmpKs])
  | [], [], _ :: _ => thru_nil (by simp [cmpKs])
  | [], _ :: _, [] => thru_nil (by simp [cmpKs])
  | [], _ :: _, _ :: _ => thru_nil (by simp [cmpKs])
  | _ :: _, [], [] => thru_nil (by simp [cmpKs])
  | _ :: _, [], _ :: _ => thru_nil (by simp [cmpKs])
  | _ :: _, _ :: _, [] => thru_nil (by simp [cmpKs])
  | x :: l, y :: m, z :: n => by
    unfold cmpKs
    exact thru_lex (cmpS_thru _ _ _) (cmpKs_thru l m n)
theorem thru_kinds {k l m : Int} {p q r : Int} (h : k = l → l = m → Thru p q r) : Thru (if k = l then p else sgnI k l) (if l = m then q else sgnI l m) (if k = m then r else sgnI k m) := by
  by_cases h1 : k = l
  · by_cases h2 : l = m
    · rw [if_pos h1, if_pos h2, if_pos (h1.trans h2)]; exact h h1 h2
    · subst h1
      rw [if_pos rfl, if_neg h2, if_neg h2]
      have : sgnI k m ≠ 0 := by unfold sgnI; repeat' split <;> omega
      exact ⟨fun a b => ⟨b, fun e => absurd e this⟩, fun a b => absurd b this⟩
  · have n1 : sgnI k l ≠ 0 := by unfold sgnI; repeat' split <;> omega
    by_cases h2 : l = m
    · subst h2
      rw [if_neg h1, if_pos rfl, if_neg h1]
      exact ⟨fun a b => ⟨a, fun e => absurd e n1⟩, fun a b => absurd a n1⟩
    · rw [if_neg h1, if_neg h2]
      by_cases h3 : k = m
      · subst h3
        rw [if_pos rfl]
        refine ⟨fun a b => ?_, fun a b => absurd a n1⟩
        unfold sgnI at a b n1
        exfalso
        revert a b n1
        repeat' split <;> omega
      · rw [if_neg h3]
        exact sgnI_thru _ _ _
mutual
theorem cmpT_thru : ∀ a b c : VT, Thru (cmpT a b) (cmpT b c) (cmpT a c)
  | .node k b t its ks, .node k' b' t' its' ks', .node k'' b'' t'' its'' ks'' => by
    unfold cmpT
    refine thru_kinds fun h1 h2 => ?_
    subst h1 h2
    by_cases h2 : k = 2
    · simp only [if_pos h2]; exact cmpB_thru _ _ _
    · simp only [if_neg h2]
      by_cases h3 : k = 3
      · simp only [if_pos h3]; exact sgnI_thru _ _ _
      · simp only [if_neg h3]
        by_cases h4 : k = 4
        · simp only [if_pos h4]; exact cmpS_thru _ _ _
        · simp only [if_neg h4]; exact thru_lex (cmpKs_thru _ _ _) (cmpL_thru its its' its'')
theorem cmpL_thru : ∀ a b c : List VT, Thru (cmpL a b) (cmpL b c) (cmpL a c)
  | [], [], [] => thru_nil (by simp [cmpL])
  | [], [], _ :: _ => thru_nil (by simp [cmpL])
  | [], _ :: _, [] => thru_nil (by simp [cmpL])
  | [], _ :: _, _ :: _ => thru_nil (by simp [cmpL])
  | _ :: _, [], [] => thru_nil (by simp [cmpL])
  | _ :: _, [], _ :: _ => thru_nil (by simp [cmpL])
  | _ :: _, _ :: _, [] => thru_nil (by simp [cmpL])
  | x :: l, y :: m, z :: n => by
    unfold cmpL
    exact thru_lex (cmpT_thru x y z) (cmpL_thru l m n)
end

/-! ### 0 just of the same -/
theorem bytes_zero : ∀ a b : List UInt8, Lib.compareBytes a b = 0 ↔ a = b
  | [], [] => by simp [Lib.compareBytes]
  | [], _ :: _ => by simp [Lib.compareBytes]
  | _ :: _, [] => by simp [Lib.compareBytes]
  | x :: l, y :: m => by
    rw [bytes_cons]
    have hz : sgnI x.toNat y.toNat = 0 ↔ x = y := by
      rw [← UInt8.toNat_inj]
      unfold sgnI
      repeat' split <;> omega
    by_cases h : sgnI x.toNat y.toNat = 0
    · rw [if_pos h, bytes_zero l m]
      simp [hz.1 h]
    · rw [if_neg h]
      refine ⟨fun e => absurd e h, fun e => absurd (hz.2 ?_) h⟩
      simpa using (List.cons.inj e).1
theorem cmpS_zero (a b : ByteArray) : cmpS a b = 0 ↔ (a.toList == b.toList) = true := by
  unfold cmpS
  rw [bytes_zero, beq_iff_eq, ByteArray.toList_eq, ByteArray.toList_eq]
theorem cmpKs_zero : ∀ a b : List ByteArray, cmpKs a b = 0 ↔ textsB a b = true
  | [], [] => by simp [cmpKs, textsB]
  | [], _ :: _ => by simp [cmpKs, textsB]
  | _ :: _, [] => by simp [cmpKs, textsB]
  | x :: l, y :: m => by
    unfold cmpKs textsB
    rw [Bool.and_eq_true, ← cmpS_zero, ← cmpKs_zero l m]
    by_cases h : cmpS x y = 0
    · rw [if_pos h]; simp [h]
    · rw [if_neg h]; simp [h]

/-- What stands in a plain value, kind by kind. -/
theorem alone_cases {k : Int} {b : Bool} {t : ByteArray} {its : List VT} {ks : List ByteArray} (h : aloneT (.node k b t its ks) = true) :
    ((k = 0 ∨ k = 1) ∧ b = false ∧ t.toList = [] ∧ its = [] ∧ ks = []) ∨ (k = 2 ∧ t.toList = [] ∧ its = [] ∧ ks = []) ∨ (k = 3 ∧ b = false ∧ goodB t.data.toList = true ∧ its = [] ∧ ks = []) ∨
    (k = 4 ∧ b = false ∧ t.size ≤ 16384 ∧ its = [] ∧ ks = []) ∨ (k = 5 ∧ b = false ∧ t.toList = [] ∧ ks = []) ∨ (k = 6 ∧ b = false ∧ t.toList = [] ∧ ks.length = its.length ∧ keysOk ks = true) := by
  unfold aloneT at h
  obtain ⟨h1, h2⟩ := Bool.and_eq_true_iff.1 h
  have hb : k ≠ 2 → b = false := fun hk => by
    have : (k == 2) = false := beq_eq_false_iff_ne.2 hk
    rw [this] at h1
    simpa using h1
  by_cases k2 : k = 2
  · subst k2
    simp at h2
    exact .inr (.inl ⟨rfl, h2.1.1, h2.1.2, h2.2⟩)
  · by_cases k01 : k = 0 ∨ k = 1
    · rw [if_pos (by omega)] at h2
      simp at h2
      exact .inl ⟨k01, hb k2, h2.1.1, h2.1.2, h2.2⟩
    · rw [if_neg (by omega)] at h2
      by_cases k3 : k = 3
      · rw [if_pos k3] at h2
        simp at h2
        exact .inr (.inr (.inl ⟨k3, hb k2, h2.1.1, h2.1.2, h2.2⟩))
      · rw [if_neg k3] at h2
        by_cases k4 : k = 4
        · rw [if_pos k4] at h2
          simp at h2
          exact .inr (.inr (.inr (.inl ⟨k4, hb k2, h2.1.1, h2.1.2, h2.2⟩)))
        · rw [if_neg k4] at h2
          by_cases k5 : k = 5
          · rw [if_pos k5] at h2
            simp at h2
            exact .inr (.inr (.inr (.inr (.inl ⟨k5, hb k2, h2.1, h2.2⟩))))
          · rw [if_neg k5] at h2
            by_cases k6 : k = 6
            · rw [if_pos k6] at h2
              simp at h2
              exact .inr (.inr (.inr (.inr (.inr ⟨k6, hb k2, h2.1.1, h2.1.2, h2.2⟩))))
            · rw [if_neg k6] at h2; cases h2
theorem sgnI_zero (a b : Int) : sgnI a b = 0 ↔ a = b := by unfold sgnI; repeat' split <;> omega
theorem good_text_same {s t : ByteArray} (hs : goodB s.data.toList = true) (ht : goodB t.data.toList = true) : textVal s.data.toList = textVal t.data.toList ↔ (s.toList == t.toList) = true := by
  rw [beq_iff_eq]
  refine ⟨fun e => ?_, fun e => ?_⟩
  · have h1 := str_val hs
    rw [e, ← str_val ht] at h1
    rw [h1]
  · rw [ByteArray.toList_eq, ByteArray.toList_eq] at e; rw [e]
mutual
theorem cmpT_zero : ∀ a b : VT, plainT a = true → plainT b = true → (cmpT a b = 0 ↔ sameT a b = true)
  | .node k b t its ks, .node k' b' t' its' ks', ha, hb => by
    unfold plainT at ha hb
    obtain ⟨ha1, ha2⟩ := Bool.and_eq_true_iff.1 ha
    obtain ⟨hb1, hb2⟩ := Bool.and_eq_true_iff.1 hb
    have IH := cmpL_zero its its' ha2 hb2
    unfold cmpT sameT
    by_cases hk : k = k'
    · subst hk
      rw [if_pos rfl, beq_self_eq_true, Bool.true_and]
      rcases alone_cases ha1 with ⟨k0, rfl, e1, rfl, rfl⟩ | ⟨rfl, e1, rfl, rfl⟩ | ⟨rfl, rfl, e1, rfl, rfl⟩ | ⟨rfl, rfl, e1, rfl, rfl⟩ | ⟨rfl, rfl, e1, rfl⟩ | ⟨rfl, rfl, e1, e2, e3⟩ <;>
        rcases alone_cases hb1 with ⟨k0', rfl, f1, rfl, rfl⟩ | ⟨q, f1, rfl, rfl⟩ | ⟨q, rfl, f1, rfl, rfl⟩ | ⟨q, rfl, f1, rfl, rfl⟩ | ⟨q, rfl, f1, rfl⟩ | ⟨q, rfl, f1, f2, f3⟩
      all_goals first | (exfalso; omega) | skip
      · rw [if_neg (by omega), if_neg (by omega), if_neg (by omega), e1, f1]
        simp [cmpKs, cmpL, textsB, sameL]
      · rw [if_pos rfl, e1, f1]
        cases b <;> cases b' <;> simp [cmpB, textsB, sameL]
      · rw [if_neg (by omega), if_pos rfl, sgnI_zero, good_text_same e1 f1]
        simp [textsB, sameL]
      · rw [if_neg (by omega), if_neg (by omega), if_pos rfl, cmpS_zero]
        simp [textsB, sameL]
      · rw [if_neg (by omega), if_neg (by omega), if_neg (by omega), e1, f1]
        simp [cmpKs, textsB, IH]
      · rw [if_neg (by omega), if_neg (by omega), if_neg (by omega), e1, f1, beq_self_eq_true, beq_self_eq_true, Bool.true_and, Bool.true_and, Bool.and_eq_true, ← IH, ← cmpKs_zero]
        by_cases h : cmpKs ks ks' = 0
        · rw [if_pos h]; simp [h]
        · rw [if_neg h]; simp [h]
    · rw [if_neg hk, sgnI_zero]
      have : (k == k') = false := beq_eq_false_iff_ne.2 hk
      simp [this, hk]
theorem cmpL_zero : ∀ l m : List VT, plainL l = true → plainL m = true → (cmpL l m = 0 ↔ sameL l m = true)
  | [], [], _, _ => by simp [cmpL, sameL]
  | [], _ :: _, _, _ => by simp [cmpL, sameL]
  | _ :: _, [], _, _ => by simp [cmpL, sameL]
  | x :: l, y :: m, ha, hb => by
    unfold plainL at ha hb
    obtain ⟨ha1, ha2⟩ := Bool.and_eq_true_iff.1 ha
    obtain ⟨hb1, hb2⟩ := Bool.and_eq_true_iff.1 hb
    have h1 := cmpT_zero x y ha1 hb1
    have h2 := cmpL_zero l m ha2 hb2
    unfold cmpL sameL
    rw [Bool.and_eq_true, ← h1, ← h2]
    by_cases h : cmpT x y = 0
    · rw [if_pos h]; simp [h]
    · rw [if_neg h]; simp [h]
end
end Go.Proofs.YtnmfoedfllmclaaGreatDoor
namespace Go.Proofs.YtnmfoedfllmclaaGreatDoor
open Go.RowKit
set_option linter.unusedVariables false

end Go.Proofs.YtnmfoedfllmclaaGreatDoor
namespace Go.Proofs.YtnmfoedfllmclaaGreatDoor
open Go.RowKit
set_option linter.unusedVariables false

theorem Rising.head {a : ByteArray} {l : List ByteArray} (h : Rising (a :: l)) : ∀ b ∈ l, bLt a b = true := fun b hb => by
  obtain ⟨j, hj, rfl⟩ := List.mem_iff_getElem.1 hb
  have := h 0 (j + 1) (by simp) (by simpa using hj) (by omega)
  simpa using this
theorem dropK_none {key : ByteArray} : ∀ {l : List ByteArray}, (∀ b ∈ l, (b.toList == key.toList) = false) → dropK key l = l
  | [], _ => rfl
  | a :: l, h => by
    unfold dropK
    rw [if_neg (by rw [h a List.mem_cons_self]; decide), dropK_none (fun b hb => h b (List.mem_cons_of_mem _ hb))]
theorem dropI_none {α : Type} {key : ByteArray} : ∀ {l : List ByteArray} {m : List α}, l.length = m.length → (∀ b ∈ l, (b.toList == key.toList) = false) → dropI key l m = m
  | [], [], _, _ => rfl
  | [], _ :: _, h, _ => by simp at h
  | _ :: _, [], h, _ => by simp at h
  | a :: l, y :: m, hl, h => by
    unfold dropI
    rw [if_neg (by rw [h a List.mem_cons_self]; decide), dropI_none (by simpa using hl) (fun b hb => h b (List.mem_cons_of_mem _ hb))]
end Go.Proofs.YtnmfoedfllmclaaGreatDoor
namespace Go.Proofs.YtnmfoedfllmclaaGreatDoor
open Go.RowKit Go.Sort Go.Shelf
set_option linter.unusedVariables false

def keyL (ks : List ByteArray) (ps : List Nat) (k : Nat) : List ByteArray := (ps.take k).map fun p => ks.getD p ⟨#[]⟩
theorem keyL_strings (ks : List ByteArray) (ps : List Nat) (k : Nat) : (keyL ks ps k).map Value.string = keysOf ks ps k := by unfold keyL keysOf; rw [List.map_map]; rfl
theorem keyL_length {ks : List ByteArray} {ps : List Nat} {k : Nat} (h : k ≤ ps.length) : (keyL ks ps k).length = k := by unfold keyL; simp; omega
theorem keyL_succ {ks : List ByteArray} {ps : List Nat} {k : Nat} (h : k < ps.length) : keyL ks ps (k + 1) = keyL ks ps k ++ [ks.getD (ps.getD k 0) ⟨#[]⟩] := by unfold keyL; rw [take_more h, List.map_append]; rfl
def noTree : VT := .node 0 false ⟨#[]⟩ [] []
def treeL (Ts : List VT) (ps : List Nat) (k : Nat) : List VT := (ps.take k).map fun p => Ts.getD p noTree
theorem treeL_succ {Ts : List VT} {ps : List Nat} {k : Nat} (h : k < ps.length) : treeL Ts ps (k + 1) = treeL Ts ps k ++ [Ts.getD (ps.getD k 0) noTree] := by unfold treeL; rw [take_more h, List.map_append]; rfl
/-- An item in memory of its own, behind block L. -/
def FarIt (L : Nat) (wr : World) (kv iv : Value) (e : It) : Prop := ∃ lo hi, L < lo ∧ hi ≤ wr.heap.size ∧ Fresh lo hi wr e.val e.T ∧ (∀ g, kv.ownBlock = some g → g < lo ∨ hi ≤ g) ∧ (∀ g, iv.ownBlock = some g → g < lo ∨ hi ≤ g)
theorem FarIt.go {L : Nat} {wr W' : World} {kv iv kv' iv' : Value} {e : It} (h : FarIt L wr kv iv e) (hs : wr.heap.size ≤ W'.heap.size) (hkeep : ∀ g, L < g → g < wr.heap.size → some g ≠ kv.ownBlock → some g ≠ iv.ownBlock → W'.heap[g]? = wr.heap[g]?) (hk : ∀ g, kv'.ownBlock = some g → kv.ownBlock = some g ∨ wr.heap.size ≤ g) (hi : ∀ g, iv'.ownBlock = some g → iv.ownBlock = some g ∨ wr.heap.size ≤ g) : FarIt L W' kv' iv' e := by
  obtain ⟨lo, hh, h1, h2, h3, h4, h5⟩ := h
  refine ⟨lo, hh, h1, by omega, h3.keep (fun g a b => hkeep g (by omega) (by omega) (fun e => by have := h4 g e.symm; omega) (fun e => by have := h5 g e.symm; omega)) (Nat.le_refl _) (Nat.le_refl _), fun g e => ?_, fun g e => ?_⟩
  · rcases hk g e with h | h
    · exact h4 g h
    · exact .inr (by omega)
  · rcases hi g e with h | h
    · exact h5 g h
    · exact .inr (by omega)
def placeF (w : World) (ps : List Nat) (a : Addr) (u : Value) : Prop := ∃ j, j < ps.length ∧ a = ⟨w.heap.size + 3, j, none⟩ ∧ u = .int .i64 ((ps.getD j 0 : Nat) : Int)
/-- What Object has made: nk keys, ni items yy. -/
structure ObjSt (w wr : World) (ks : List ByteArray) (Ts : List VT) (ps : List Nat) (nk ni : Nat) (kv iv : Value) (yy : List It) : Prop where
  grow : GrowAt w wr w.heap.size (w.heap.size + 1) (w.heap.size + 3) (placeF w ps) (keyL ks ps nk) yy kv iv
  klen : nk ≤ ps.length
  len : yy.length = ni
  trees : yy.map It.T = treeL Ts ps ni
  far : ∀ e ∈ yy, FarIt (w.heap.size + 3) wr kv iv e
section
variable {w wr : World} {ks : List ByteArray} {Ts : List VT} {ps : List Nat} {nk ni : Nat} {kv iv : Value} {yy : List It}
theorem ObjSt.keys (h : ObjSt w wr ks Ts ps nk ni kv iv yy) : wr.ownsRow w.heap.size 9 1 kv nk (keysOf ks ps nk) := by
  have := h.grow.keys
  rwa [keyL_length h.klen, keyL_strings] at this
theorem ObjSt.items (h : ObjSt w wr ks Ts ps nk ni kv iv yy) : wr.ownsRow w.heap.size 26 5 iv ni (yy.flatMap It.cells) := by
  have := h.grow.items
  rwa [h.len] at this
theorem ObjSt.places (h : ObjSt w wr ks Ts ps nk ni kv iv yy) (j : Nat) (hj : j < ps.length) : wr.cell? ⟨w.heap.size + 3, j, none⟩ = some (.int .i64 ((ps.getD j 0 : Nat) : Int)) := h.grow.fix _ _ ⟨j, hj, rfl, rfl⟩
theorem ObjSt.later {W : World} (h : ObjSt w wr ks Ts ps nk ni kv iv yy) (hb : Below wr.heap.size wr W) : ObjSt w W ks Ts ps nk ni kv iv yy :=
  ⟨h.grow.later hb, h.klen, h.len, h.trees, fun e he => (h.far e he).go hb.size (fun g _ hg _ _ => hb.block g hg) (fun g e => .inl e) (fun g e => .inl e)⟩
theorem ObjSt.drewN (h : ObjSt w wr ks Ts ps nk ni kv iv yy) (n : Nat) : ObjSt w (wr.drewN n) ks Ts ps nk ni kv iv yy := h.later ⟨rfl, rfl, rfl, Nat.le_refl _, fun _ _ => rfl⟩
theorem ObjSt.drew (h : ObjSt w wr ks Ts ps nk ni kv iv yy) : ObjSt w wr.drew ks Ts ps nk ni kv iv yy := h.later ⟨rfl, rfl, rfl, Nat.le_refl _, fun _ _ => rfl⟩
theorem ObjSt.key {w3 : World} {g2 cap2 : Nat} {t : ByteArray} {t' : TypeId} (h : ObjSt w wr ks Ts ps nk ni kv iv yy) (hn : nk < ps.length) (ht : ks.getD (ps.getD nk 0) ⟨#[]⟩ = t)
    (hown : w3.ownsRow w.heap.size 9 1 (.slice (some ⟨g2, 0, none⟩) (nk + 1) cap2) (nk + 1) (keysOf ks ps nk ++ [.string t])) (hg : (wr.alloc (.cells #[.string t] t')).grownBy w3 kv.ownBlock) (hat : kv.ownBlock = some g2 ∨ g2 = (wr.alloc (.cells #[.string t] t')).heap.size) (hlt : g2 < w3.heap.size) :
    ObjSt w (w3.setCell ⟨w.heap.size + 1, 4, none⟩ (.slice (some ⟨g2, 0, none⟩) (nk + 1) cap2)) ks Ts ps (nk + 1) ni (.slice (some ⟨g2, 0, none⟩) (nk + 1) cap2) iv yy := by
  have hsz : (wr.alloc (.cells #[.string t] t')).heap.size = wr.heap.size + 1 := by simp
  have hl := keyL_length (ks := ks) h.klen
  have hgr := h.grow.key (by rw [hl, keyL_strings]; exact hown) hg hat hlt
  rw [hl] at hgr
  refine ⟨by rw [keyL_succ hn, ht]; exact hgr, by omega, h.len, h.trees, fun e he => (h.far e he).go ?_ (fun g hLg hgs hk1 hi1 => ?_) (fun g e => ?_) (fun g e => .inl e)⟩
  · have := hg.size; simp; omega
  · rw [Below.heap_setCell _ _ _ _ (by show g ≠ w.heap.size + 1; omega), hg.block g (by omega) hk1]
    exact (below_new wr _).block g hgs
  · obtain rfl : g2 = g := Option.some.inj e
    rcases hat with h | h
    · exact .inl h
    · exact .inr (by omega)
theorem ObjSt.item {wc w3 : World} {g2 cap2 : Nat} {e : It} {a' : Array Value} {t' : TypeId} (h0 : ObjSt w wr ks Ts ps nk ni kv iv yy) (hb : Below wr.heap.size wr wc) (hf : Fresh wr.heap.size wc.heap.size wc e.val e.T) (hn : ni < ps.length) (ht : Ts.getD (ps.getD ni 0) noTree = e.T)
    (hown : w3.ownsRow w.heap.size 26 5 (.slice (some ⟨g2, 0, none⟩) (ni + 1) cap2) (ni + 1) (yy.flatMap It.cells ++ e.cells)) (hg : (wc.alloc (.cells a' t')).grownBy w3 iv.ownBlock) (hat : iv.ownBlock = some g2 ∨ g2 = (wc.alloc (.cells a' t')).heap.size) (hlt : g2 < w3.heap.size) :
    ObjSt w (w3.setCell ⟨w.heap.size + 1, 3, none⟩ (.slice (some ⟨g2, 0, none⟩) (ni + 1) cap2)) ks Ts ps nk (ni + 1) kv (.slice (some ⟨g2, 0, none⟩) (ni + 1) cap2) (yy ++ [e]) := by
  have h := h0.later hb
  have hsz : (wc.alloc (.cells a' t')).heap.size = wc.heap.size + 1 := by simp
  have hL := h0.grow.size
  have hgr := h.grow.item (e := e) (by rw [h.len]; exact hown) hg hat hlt
  rw [h.len] at hgr
  have hkeep : ∀ g, w.heap.size + 3 < g → g < wc.heap.size → some g ≠ iv.ownBlock → (w3.setCell ⟨w.heap.size + 1, 3, none⟩ (.slice (some ⟨g2, 0, none⟩) (ni + 1) cap2)).heap[g]? = wc.heap[g]? := fun g hLg hgs hi1 => by
    rw [Below.heap_setCell _ _ _ _ (by show g ≠ w.heap.size + 1; omega), hg.block g (by omega) hi1]
    exact (below_new wc _).block g hgs
  have hsize : wc.heap.size ≤ (w3.setCell ⟨w.heap.size + 1, 3, none⟩ (.slice (some ⟨g2, 0, none⟩) (ni + 1) cap2)).heap.size := by have := hg.size; simp; omega
  have hio : ∀ g, iv.ownBlock = some g → g < wr.heap.size := fun g e => (World.ownsRow.lt h0.grow.items g e).2
  have hko : ∀ g, kv.ownBlock = some g → g < wr.heap.size := fun g e => (World.ownsRow.lt h0.grow.keys g e).2
  refine ⟨hgr, h.klen, by rw [List.length_append, h.len]; rfl, by rw [List.map_append, h.trees, treeL_succ hn, ht]; rfl, fun x hx => ?_⟩
  rcases List.mem_append.1 hx with hx | hx
  · exact (h.far x hx).go hsize (fun g a b _ c => hkeep g a b c) (fun g e => .inl e) (fun g e => by
      obtain rfl : g2 = g := Option.some.inj e
      rcases hat with h | h
      · exact .inl h
      · exact .inr (by omega))
  · rw [List.mem_singleton] at hx
    subst hx
    refine ⟨wr.heap.size, wc.heap.size, hL, hsize, hf.keep (fun g a b => hkeep g (by omega) b (fun e => by have := hio g e.symm; omega)) (Nat.le_refl _) (Nat.le_refl _), fun g e => .inl (hko g e), fun g e => ?_⟩
    obtain rfl : g2 = g := Option.some.inj e
    rcases hat with h | h
    · exact .inl (hio _ h)
    · exact .inr (by omega)
end
/-- A row of strings in new memory. -/
theorem strsF_row2 {lo : Nat} {W : World} {v : Value} {ks : List ByteArray} (h : W.ownsRow lo 9 1 v ks.length (ks.map Value.string)) (hn : ks.length ≤ 140737488355328) : StrsF lo W.heap.size W v ks := by
  obtain ⟨hx, ⟨rfl, h0⟩ | ⟨g, cap, cur, rfl, hg, hblk, hnc, hcm, hcs, htk⟩⟩ := id h
  · exact ⟨none, 0, by rw [h0], by omega, hn, fun hp => by omega⟩
  · refine ⟨_, cap, rfl, hnc, hn, fun _ => ⟨g, 0, rfl, hg, (Array.getElem?_eq_some_iff.1 hblk).1, fun j hj => ?_, fun j hj => by simp [World.frozen?, hblk]⟩⟩
    have := World.ownsRow.cells h (g := g) rfl j (.string ks[j]) (by rw [List.getElem?_map, List.getElem?_eq_getElem hj]; rfl)
    rwa [Lib.add_plain] at this
theorem itemsF_of_row {lo : Nat} {W : World} {ad : Option Addr} {cap : Nat} {yy : List It} (h : W.ownsRow lo 26 5 (.slice ad yy.length cap) yy.length (yy.flatMap It.cells)) (hsm : yy.length ≤ 1000000) (hf : ∀ e ∈ yy, Fresh lo W.heap.size W e.val e.T) : ItemsF lo W.heap.size W ad cap (yy.map It.T) := by
  have hl : (yy.map It.T).length = yy.length := by simp
  rcases Nat.eq_zero_or_pos yy.length with h0 | h0
  · obtain rfl : yy = [] := List.length_eq_zero_iff.1 h0
    exact ⟨by simp, 0, 0, fun _ => 0, fun _ => false, fun _ => ⟨#[]⟩, fun _ => undef, fun _ => undef, fun h => absurd h (by simp), fun j h => absurd h (by simp), fun j i h => absurd h (by simp), fun j h => absurd h (by simp)⟩
  · obtain ⟨hx, ⟨e1, h2⟩ | ⟨g, cap', cur, e1, hg, hblk, hnc, hcm, hcs, htk⟩⟩ := id h
    · omega
    · cases e1
      have e0 : It := yy[0]
      have hit := items_of_row (B := lo) (W := W) (v := .slice (some ⟨g, 0, none⟩) yy.length cap) h (by omega) (fun e he => (hf e he).at)
      obtain ⟨ad2, cap2, e2, -, -, h4, -⟩ := hit
      cases e2
      obtain ⟨g2, o2, e3, -, h8⟩ := h4 h0
      cases e3
      refine ⟨by rw [hl]; exact hnc, g, 0, fun j => (yy.getD j e0).k, fun j => (yy.getD j e0).b, fun j => (yy.getD j e0).t, fun j => (yy.getD j e0).x, fun j => (yy.getD j e0).y, fun _ => ⟨rfl, hg, (Array.getElem?_eq_some_iff.1 hblk).1⟩, fun j hj => ?_, fun j i _ _ => by simp [World.frozen?, hblk], fun j hj => ?_⟩
      · rw [hl] at hj
        have := h8 j hj
        show Five W g (0 + j * 5) (.int .i64 (yy.getD j e0).k) (.bool (yy.getD j e0).b) (.string (yy.getD j e0).t) (yy.getD j e0).x (yy.getD j e0).y
        rw [show yy.getD j e0 = yy[j] by simp [List.getD, hj]]
        exact this
      · have hj' := hj
        rw [hl] at hj'
        show Fresh lo W.heap.size W (.agg #[.int .i64 (yy.getD j e0).k, .bool (yy.getD j e0).b, .string (yy.getD j e0).t, (yy.getD j e0).x, (yy.getD j e0).y]) _
        rw [show yy.getD j e0 = yy[j] by simp [List.getD, hj'], List.getElem_map]
        exact hf _ (List.getElem_mem hj')
/-- The object, stored into the result. -/
theorem ObjSt.done5 {w wr : World} {ks : List ByteArray} {Ts : List VT} {ps : List Nat} {k : Nat} {adk adi : Option Addr} {capk capi : Nat} {yy : List It} (h : ObjSt w wr ks Ts ps k k (.slice adk k capk) (.slice adi k capi) yy) (hk : k ≤ 1000000) :
    Fresh w.heap.size (set5 wr w.heap.size 0 (.int .i64 6) (.bool false) (.string ⟨#[]⟩) (.slice adi k capi) (.slice adk k capk)).heap.size (set5 wr w.heap.size 0 (.int .i64 6) (.bool false) (.string ⟨#[]⟩) (.slice adi k capi) (.slice adk k capk)) (.agg #[.int .i64 6, .bool false, .string ⟨#[]⟩, .slice adi k capi, .slice adk k capk]) (.node 6 false ⟨#[]⟩ (treeL Ts ps k) (keyL ks ps k)) := by
  have hr := h.grow.ranks
  have hsz := set5_size wr w.heap.size 0 (.int .i64 6) (.bool false) (.string ⟨#[]⟩) (.slice adi k capi) (.slice adk k capk)
  have hk5 := row_set5 h.grow.keys w.heap.size (.int .i64 6) (.bool false) (.string ⟨#[]⟩) (.slice adi k capi) (.slice adk k capk) (fun e => by have := h.grow.kfar _ e; omega)
  have hi5 := row_set5 h.grow.items w.heap.size (.int .i64 6) (.bool false) (.string ⟨#[]⟩) (.slice adi k capi) (.slice adk k capk) (fun e => by have := h.grow.ifar _ e; omega)
  have hoth : ∀ g, g ≠ w.heap.size → (set5 wr w.heap.size 0 (.int .i64 6) (.bool false) (.string ⟨#[]⟩) (.slice adi k capi) (.slice adk k capk)).heap[g]? = wr.heap[g]? := fun g hg => set5_other wr w.heap.size 0 _ _ _ _ _ hg
  obtain ⟨W, hW⟩ : ∃ W, set5 wr w.heap.size 0 (.int .i64 6) (.bool false) (.string ⟨#[]⟩) (.slice adi k capi) (.slice adk k capk) = W := ⟨_, rfl⟩
  have hk5' : W.ownsRow w.heap.size 9 1 (.slice adk k capk) (keyL ks ps k).length ((keyL ks ps k).map Value.string) := by rw [← hW]; exact hk5
  have hi5' : W.ownsRow w.heap.size 26 5 (.slice adi k capi) yy.length (yy.flatMap It.cells) := by rw [← hW]; exact hi5
  rw [hW] at hoth hsz ⊢
  have hkl := keyL_length (ks := ks) h.klen
  have hs := strsF_row2 hk5' (by omega)
  have hl := h.len
  have hi : ItemsF w.heap.size W.heap.size W adi capi (yy.map It.T) := itemsF_of_row (by rw [hl]; have := hi5'; rw [hl] at this; exact this) (by omega) (fun e he => by
    obtain ⟨lo, hh, h1, h2, h3, -, -⟩ := h.far e he
    exact h3.keep (fun g a b => hoth g (by omega)) (by omega) (by omega))
  have htl : (treeL Ts ps k).length = k := by rw [← h.trees, List.length_map, hl]
  rw [h.trees] at hi
  have := fresh_of (k := 6) (b := false) (t := ⟨#[]⟩) (lo0 := w.heap.size) (w3 := W) hs hi (by omega) (fun g _ _ => rfl) (fun g _ _ => rfl) (Nat.le_refl _) (Nat.le_refl _) (Nat.le_refl _) (Nat.le_refl _)
  rw [htl] at this
  exact this
end Go.Proofs.YtnmfoedfllmclaaGreatDoor
