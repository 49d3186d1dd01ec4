/- The order of values, as of trees: it turns round, goes through, and says 0 just of the same · cmp.Compare of strings, slices.Compare of lists of strings · A key put or dropped in its place: the document's way and the program's are one -/
import Derived.Handy
import Derived.Test.YtcbcjeabpjjhbaaGreatDoorJb03
import Derived.Test.YtcbcjeabpjjhbaaGreatDoorJb04
import Derived.Test.YtcbcjeabpjjhbaaGreatDoorJb06
import Derived.Test.YtcbcjeabpjjhbaaGreatDoorJb08
import Derived.Test.YtcbcjeabpjjhbaaGreatDoorJb09
namespace Go.Proofs.YtcbcjeabpjjhbaaGreatDoor
open Go.RowKit
set_option linter.unusedVariables false

def cmpB (a b : Bool) : Int := if a = b then 0 else if b then -1 else 1
def cmpS (a b : ByteArray) : Int := Lib.compareBytes a.data.toList b.data.toList
def cmpKs : List ByteArray → List ByteArray → Int
  | [], [] => 0
  | [], _ :: _ => -1
  | _ :: _, [] => 1
  | a :: l, b :: m => if cmpS a b = 0 then cmpKs l m else cmpS a b
mutual
def cmpT : VT → VT → Int
  | .node k b t its ks, .node k' b' t' its' ks' =>
    if k = k' then (if k = 2 then cmpB b b' else if k = 3 then sgnI (textVal t.data.toList) (textVal t'.data.toList) else if k = 4 then cmpS t t' else if cmpKs ks ks' = 0 then cmpL its its' else cmpKs ks ks') else sgnI k k'
def cmpL : List VT → List VT → Int
  | [], [] => 0
  | [], _ :: _ => -1
  | _ :: _, [] => 1
  | x :: l, y :: m => if cmpT x y = 0 then cmpL l m else cmpT x y
end

/-! ### It turns round -/
theorem cmpB_anti (a b : Bool) : cmpB b a = - cmpB a b := by cases a <;> cases b <;> rfl
theorem sgnI_anti (a b : Int) : sgnI b a = - sgnI a b := by unfold sgnI; repeat' split <;> omega
theorem bytes_anti : ∀ a b : List UInt8, Lib.compareBytes b a = - Lib.compareBytes a b
  | [], [] => rfl
  | [], _ :: _ => rfl
  | _ :: _, [] => rfl
  | x :: l, y :: m => by
    unfold Lib.compareBytes
    have ih := bytes_anti l m
    by_cases h1 : x < y
    · have h2 : ¬ y < x := UInt8.lt_asymm h1
      rw [if_pos h1, if_neg h2, if_pos h1]; rfl
    · rw [if_neg h1]
      by_cases h2 : y < x
      · rw [if_pos h2, if_pos h2, if_neg h1]
      · rw [if_neg h2, if_neg h2, if_neg h1, ih]
theorem cmpS_anti (a b : ByteArray) : cmpS b a = - cmpS a b := bytes_anti _ _
theorem lex_anti {p q r s : Int} (h1 : q = -p) (h2 : s = -r) : (if q = 0 then s else q) = - (if p = 0 then r else p) := by
  subst h1 h2
  by_cases h : p = 0
  · rw [if_pos (by omega), if_pos h]
  · rw [if_neg (by omega), if_neg h]
theorem cmpKs_anti : ∀ l m : List ByteArray, cmpKs m l = - cmpKs l m
  | [], [] => rfl
  | [], _ :: _ => rfl
  | _ :: _, [] => rfl
  | a :: l, b :: m => by
    unfold cmpKs
    exact lex_anti (cmpS_anti a b) (cmpKs_anti l m)
mutual
theorem cmpT_anti : ∀ a b : VT, cmpT b a = - cmpT a b
  | .node k b t its ks, .node k' b' t' its' ks' => by
    unfold cmpT
    by_cases hk : k = k'
    · subst hk
      rw [if_pos rfl, if_pos rfl]
      by_cases h2 : k = 2
      · rw [if_pos h2, if_pos h2]; exact cmpB_anti _ _
      · rw [if_neg h2, if_neg h2]
        by_cases h3 : k = 3
        · rw [if_pos h3, if_pos h3]; exact sgnI_anti _ _
        · rw [if_neg h3, if_neg h3]
          by_cases h4 : k = 4
          · rw [if_pos h4, if_pos h4]; exact cmpS_anti _ _
          · rw [if_neg h4, if_neg h4]; exact lex_anti (cmpKs_anti _ _) (cmpL_anti its its')
    · rw [if_neg hk, if_neg (fun e => hk e.symm)]; exact sgnI_anti _ _
theorem cmpL_anti : ∀ l m : List VT, cmpL m l = - cmpL l m
  | [], [] => by unfold cmpL; rfl
  | [], _ :: _ => by unfold cmpL; rfl
  | _ :: _, [] => by unfold cmpL; rfl
  | x :: l, y :: m => by
    unfold cmpL
    exact lex_anti (cmpT_anti x y) (cmpL_anti l m)
end

theorem bytes_range : ∀ a b : List UInt8, -1 ≤ Lib.compareBytes a b ∧ Lib.compareBytes a b ≤ 1
  | [], [] => by simp [Lib.compareBytes]
  | [], _ :: _ => by simp [Lib.compareBytes]
  | _ :: _, [] => by simp [Lib.compareBytes]
  | x :: l, y :: m => by
    unfold Lib.compareBytes
    have ih := bytes_range l m
    repeat' split <;> omega

theorem cmpKs_range : ∀ l m : List ByteArray, -1 ≤ cmpKs l m ∧ cmpKs l m ≤ 1
  | [], [] => by simp [cmpKs]
  | [], _ :: _ => by simp [cmpKs]
  | _ :: _, [] => by simp [cmpKs]
  | x :: l, y :: m => by
    have h1 := cmpKs_range l m
    have h2 := bytes_range x.data.toList y.data.toList
    unfold cmpKs cmpS
    split <;> omega

/-! ### It goes through -/
/-- p, q, r: the first to the second, the second to the third, the first to the third. -/
def Thru (p q r : Int) : Prop := (p ≤ 0 → q ≤ 0 → r ≤ 0 ∧ (r = 0 → p = 0 ∧ q = 0)) ∧ (p = 0 → q = 0 → r = 0)
theorem thru_lex {p q r p' q' r' : Int} (h : Thru p q r) (h' : Thru p' q' r') : Thru (if p = 0 then p' else p) (if q = 0 then q' else q) (if r = 0 then r' else r) := by
  obtain ⟨a, b⟩ := h
  obtain ⟨c, d⟩ := h'
  by_cases hp : p = 0
  · by_cases hq : q = 0
    · have hr := b hp hq
      rw [if_pos hp, if_pos hq, if_pos hr]; exact ⟨c, d⟩
    · rw [if_pos hp, if_neg hq]
      refine ⟨fun h1 h2 => ?_, fun h1 h2 => absurd h2 hq⟩
      have := a (by omega) h2
      have hr : r ≠ 0 := fun e => hq (this.2 e).2
      rw [if_neg hr]; exact ⟨this.1, fun e => absurd e hr⟩
  · by_cases hq : q = 0
    · rw [if_neg hp, if_pos hq]
      refine ⟨fun h1 h2 => ?_, fun h1 h2 => absurd h1 hp⟩
      have := a h1 (by omega)
      have hr : r ≠ 0 := fun e => hp (this.2 e).1
      rw [if_neg hr]; exact ⟨this.1, fun e => absurd e hr⟩
    · rw [if_neg hp, if_neg hq]
      refine ⟨fun h1 h2 => ?_, fun h1 h2 => absurd h1 hp⟩
      have := a h1 h2
      have hr : r ≠ 0 := fun e => hp (this.2 e).1
      rw [if_neg hr]; exact ⟨this.1, fun e => absurd e hr⟩
theorem sgnI_thru (a b c : Int) : Thru (sgnI a b) (sgnI b c) (sgnI a c) := by
  unfold Thru sgnI
  refine ⟨fun h1 h2 => ⟨?_, fun h3 => ⟨?_, ?_⟩⟩, fun h1 h2 => ?_⟩ <;> (revert h1 h2) <;> (try revert h3) <;> (repeat' split) <;> omega
theorem cmpB_thru (a b c : Bool) : Thru (cmpB a b) (cmpB b c) (cmpB a c) := by
  cases a <;> cases b <;> cases c <;> (unfold Thru; decide)
theorem u8_thru (x y z : UInt8) : Thru (sgnI x.toNat y.toNat) (sgnI y.toNat z.toNat) (sgnI x.toNat z.toNat) := sgnI_thru _ _ _
theorem bytes_cons (x y : UInt8) (l m : List UInt8) : Lib.compareBytes (x :: l) (y :: m) = if sgnI x.toNat y.toNat = 0 then Lib.compareBytes l m else sgnI x.toNat y.toNat := by
  have e : Lib.compareBytes (x :: l) (y :: m) = if x < y then -1 else if y < x then 1 else Lib.compareBytes l m := by conv => lhs; unfold Lib.compareBytes
  rw [e]
  have h1 : x < y ↔ (x.toNat : Int) < y.toNat := by rw [UInt8.lt_iff_toNat_lt]; omega
  have h2 : y < x ↔ (y.toNat : Int) < x.toNat := by rw [UInt8.lt_iff_toNat_lt]; omega
  unfold sgnI
  by_cases a : x < y
  · rw [if_pos a, if_pos (h1.1 a)]; rfl
  · rw [if_neg a, if_neg (fun e => a (h1.2 e))]
    by_cases b : y < x
    · rw [if_pos b, if_pos (h2.1 b)]; rfl
    · rw [if_neg b, if_neg (fun e => b (h2.2 e))]; rfl
theorem thru_nil {p q r : Int} (hp : p = 0 ∧ q = -1 ∧ r = -1 ∨ p = -1 ∧ q = 1 ∨ p = -1 ∧ r = -1 ∨ p = 1 ∨ q = 1 ∨ p = 0 ∧ q = 0 ∧ r = 0) : Thru p q r := by
  unfold Thru
  omega
theorem bytes_thru : ∀ a b c : List UInt8, Thru (Lib.compareBytes a b) (Lib.compareBytes b c) (Lib.compareBytes a c)
  | [], [], [] => thru_nil (by simp [Lib.compareBytes])
  | [], [], _ :: _ => thru_nil (by simp [Lib.compareBytes])
  | [], _ :: _, [] => thru_nil (by simp [Lib.compareBytes])
  | [], _ :: _, _ :: _ => thru_nil (by simp [Lib.compareBytes])
  | _ :: _, [], [] => thru_nil (by simp [Lib.compareBytes])
  | _ :: _, [], _ :: _ => thru_nil (by simp [Lib.compareBytes])
  | _ :: _, _ :: _, [] => thru_nil (by simp [Lib.compareBytes])
  | x :: l, y :: m, z :: n => by
    rw [bytes_cons, bytes_cons, bytes_cons]
    exact thru_lex (sgnI_thru _ _ _) (bytes_thru l m n)
theorem cmpS_thru (a b c : ByteArray) : Thru (cmpS a b) (cmpS b c) (cmpS a c) := bytes_thru _ _ _
theorem cmpKs_thru : ∀ a b c : List ByteArray, Thru (cmpKs a b) (cmpKs b c) (cmpKs a c)
  | [], [], [] => thru_nil (by simp [cmpKs])
  | [], [], _ :: _ => thru_nil (by simp [cmpKs])
  | [], _ :: _, [] => thru_nil (by simp [cmpKs])
  | [], _ :: _, _ :: _ => thru_nil (by simp [cmpKs])
  | _ :: _, [], [] => thru_nil (by simp [cmpKs])
  | _ :: _, [], _ :: _ => thru_nil (by simp [cmpKs])
  | _ :: _, _ :: _, [] => thru_nil (by simp [cmpKs])
  | x :: l, y :: m, z :: n => by
    unfold cmpKs
    exact thru_lex (cmpS_thru _ _ _) (cmpKs_thru l m n)
theorem thru_kinds {k l m : Int} {p q r : Int} (h : k = l → l = m → Thru p q r) : Thru (if k = l then p else sgnI k l) (if l = m then q else sgnI l m) (if k = m then r else sgnI k m) := by
  by_cases h1 : k = l
  · by_cases h2 : l = m
    · rw [if_pos h1, if_pos h2, if_pos (h1.trans h2)]; exact h h1 h2
    · subst h1
      rw [if_pos rfl, if_neg h2, if_neg h2]
      have : sgnI k m ≠ 0 := by unfold sgnI; repeat' split <;> omega
      exact ⟨fun a b => ⟨b, fun e => absurd e this⟩, fun a b => absurd b this⟩
  · have n1 : sgnI k l ≠ 0 := by unfold sgnI; repeat' split <;> omega
    by_cases h2 : l = m
    · subst h2
      rw [if_neg h1, if_pos rfl, if_neg h1]
      exact ⟨fun a b => ⟨a, fun e => absurd e n1⟩, fun a b => absurd a n1⟩
    · rw [if_neg h1, if_neg h2]
      by_cases h3 : k = m
      · subst h3
        rw [if_pos rfl]
        refine ⟨fun a b => ?_, fun a b => absurd a n1⟩
        unfold sgnI at a b n1
        exfalso
        revert a b n1
        repeat' split <;> omega
      · rw [if_neg h3]
        exact sgnI_thru _ _ _
mutual
theorem cmpT_thru : ∀ a b c : VT, Thru (cmpT a b) (cmpT b c) (cmpT a c)
  | .node k b t its ks, .node k' b' t' its' ks', .node k'' b'' t'' its'' ks'' => by
    unfold cmpT
    refine thru_kinds fun h1 h2 => ?_
    subst h1 h2
    by_cases h2 : k = 2
    · simp only [if_pos h2]; exact cmpB_thru _ _ _
    · simp only [if_neg h2]
      by_cases h3 : k = 3
      · simp only [if_pos h3]; exact sgnI_thru _ _ _
      · simp only [if_neg h3]
        by_cases h4 : k = 4
        · simp only [if_pos h4]; exact cmpS_thru _ _ _
        · simp only [if_neg h4]; exact thru_lex (cmpKs_thru _ _ _) (cmpL_thru its its' its'')
theorem cmpL_thru : ∀ a b c : List VT, Thru (cmpL a b) (cmpL b c) (cmpL a c)
  | [], [], [] => thru_nil (by simp [cmpL])
  | [], [], _ :: _ => thru_nil (by simp [cmpL])
  | [], _ :: _, [] => thru_nil (by simp [cmpL])
  | [], _ :: _, _ :: _ => thru_nil (by simp [cmpL])
  | _ :: _, [], [] => thru_nil (by simp [cmpL])
  | _ :: _, [], _ :: _ => thru_nil (by simp [cmpL])
  | _ :: _, _ :: _, [] => thru_nil (by simp [cmpL])
  | x :: l, y :: m, z :: n => by
    unfold cmpL
    exact thru_lex (cmpT_thru x y z) (cmpL_thru l m n)
end

/-! ### 0 just of the same -/
theorem bytes_zero : ∀ a b : List UInt8, Lib.compareBytes a b = 0 ↔ a = b
  | [], [] => by simp [Lib.compareBytes]
  | [], _ :: _ => by simp [Lib.compareBytes]
  | _ :: _, [] => by simp [Lib.compareBytes]
  | x :: l, y :: m => by
    rw [bytes_cons]
    have hz : sgnI x.toNat y.toNat = 0 ↔ x = y := by
      rw [← UInt8.toNat_inj]
      unfold sgnI
      repeat' split <;> omega
    by_cases h : sgnI x.toNat y.toNat = 0
    · rw [if_pos h, bytes_zero l m]
      simp [hz.1 h]
    · rw [if_neg h]
      refine ⟨fun e => absurd e h, fun e => absurd (hz.2 ?_) h⟩
      simpa using (List.cons.inj e).1
theorem cmpS_zero (a b : ByteArray) : cmpS a b = 0 ↔ (a.toList == b.toList) = true := by
  unfold cmpS
  rw [bytes_zero, beq_iff_eq, ByteArray.toList_eq, ByteArray.toList_eq]
theorem cmpKs_zero : ∀ a b : List ByteArray, cmpKs a b = 0 ↔ textsB a b = true
  | [], [] => by simp [cmpKs, textsB]
  | [], _ :: _ => by simp [cmpKs, textsB]
  | _ :: _, [] => by simp [cmpKs, textsB]
  | x :: l, y :: m => by
    unfold cmpKs textsB
    rw [Bool.and_eq_true, ← cmpS_zero, ← cmpKs_zero l m]
    by_cases h : cmpS x y = 0
    · rw [if_pos h]; simp [h]
    · rw [if_neg h]; simp [h]

/-- What stands in a plain value, kind by kind. -/
theorem alone_cases {k : Int} {b : Bool} {t : ByteArray} {its : List VT} {ks : List ByteArray} (h : aloneT (.node k b t its ks) = true) :
    ((k = 0 ∨ k = 1) ∧ b = false ∧ t.toList = [] ∧ its = [] ∧ ks = []) ∨ (k = 2 ∧ t.toList = [] ∧ its = [] ∧ ks = []) ∨ (k = 3 ∧ b = false ∧ goodB t.data.toList = true ∧ its = [] ∧ ks = []) ∨
    (k = 4 ∧ b = false ∧ t.size ≤ 16384 ∧ its = [] ∧ ks = []) ∨ (k = 5 ∧ b = false ∧ t.toList = [] ∧ ks = []) ∨ (k = 6 ∧ b = false ∧ t.toList = [] ∧ ks.length = its.length ∧ keysOk ks = true) := by
  unfold aloneT at h
  obtain ⟨h1, h2⟩ := Bool.and_eq_true_iff.1 h
  have hb : k ≠ 2 → b = false := fun hk => by
    have : (k == 2) = false := beq_eq_false_iff_ne.2 hk
    rw [this] at h1
    simpa using h1
  by_cases k2 : k = 2
  · subst k2
    simp at h2
    exact .inr (.inl ⟨rfl, h2.1.1, h2.1.2, h2.2⟩)
  · by_cases k01 : k = 0 ∨ k = 1
    · rw [if_pos (by omega)] at h2
      simp at h2
      exact .inl ⟨k01, hb k2, h2.1.1, h2.1.2, h2.2⟩
    · rw [if_neg (by omega)] at h2
      by_cases k3 : k = 3
      · rw [if_pos k3] at h2
        simp at h2
        exact .inr (.inr (.inl ⟨k3, hb k2, h2.1.1, h2.1.2, h2.2⟩))
      · rw [if_neg k3] at h2
        by_cases k4 : k = 4
        · rw [if_pos k4] at h2
          simp at h2
          exact .inr (.inr (.inr (.inl ⟨k4, hb k2, h2.1.1, h2.1.2, h2.2⟩)))
        · rw [if_neg k4] at h2
          by_cases k5 : k = 5
          · rw [if_pos k5] at h2
            simp at h2
            exact .inr (.inr (.inr (.inr (.inl ⟨k5, hb k2, h2.1, h2.2⟩))))
          · rw [if_neg k5] at h2
            by_cases k6 : k = 6
            · rw [if_pos k6] at h2
              simp at h2
              exact .inr (.inr (.inr (.inr (.inr ⟨k6, hb k2, h2.1.1, h2.1.2, h2.2⟩))))
            · rw [if_neg k6] at h2; cases h2
theorem sgnI_zero (a b : Int) : sgnI a b = 0 ↔ a = b := by unfold sgnI; repeat' split <;> omega
theorem good_text_same {s t : ByteArray} (hs : goodB s.data.toList = true) (ht : goodB t.data.toList = true) : textVal s.data.toList = textVal t.data.toList ↔ (s.toList == t.toList) = true := by
  rw [beq_iff_eq]
  refine ⟨fun e => ?_, fun e => ?_⟩
  · have h1 := str_val hs
    rw [e, ← str_val ht] at h1
    rw [h1]
  · rw [ByteArray.toList_eq, ByteArray.toList_eq] at e; rw [e]
mutual
theorem cmpT_zero : ∀ a b : VT, plainT a = true → plainT b = true → (cmpT a b = 0 ↔ sameT a b = true)
  | .node k b t its ks, .node k' b' t' its' ks', ha, hb => by
    unfold plainT at ha hb
    obtain ⟨ha1, ha2⟩ := Bool.and_eq_true_iff.1 ha
    obtain ⟨hb1, hb2⟩ := Bool.and_eq_true_iff.1 hb
    have IH := cmpL_zero its its' ha2 hb2
    unfold cmpT sameT
    by_cases hk : k = k'
    · subst hk
      rw [if_pos rfl, beq_self_eq_true, Bool.true_and]
      rcases alone_cases ha1 with ⟨k0, rfl, e1, rfl, rfl⟩ | ⟨rfl, e1, rfl, rfl⟩ | ⟨rfl, rfl, e1, rfl, rfl⟩ | ⟨rfl, rfl, e1, rfl, rfl⟩ | ⟨rfl, rfl, e1, rfl⟩ | ⟨rfl, rfl, e1, e2, e3⟩ <;>
        rcases alone_cases hb1 with ⟨k0', rfl, f1, rfl, rfl⟩ | ⟨q, f1, rfl, rfl⟩ | ⟨q, rfl, f1, rfl, rfl⟩ | ⟨q, rfl, f1, rfl, rfl⟩ | ⟨q, rfl, f1, rfl⟩ | ⟨q, rfl, f1, f2, f3⟩
      all_goals first | (exfalso; omega) | skip
      · rw [if_neg (by omega), if_neg (by omega), if_neg (by omega), e1, f1]
        simp [cmpKs, cmpL, textsB, sameL]
      · rw [if_pos rfl, e1, f1]
        cases b <;> cases b' <;> simp [cmpB, textsB, sameL]
      · rw [if_neg (by omega), if_pos rfl, sgnI_zero, good_text_same e1 f1]
        simp [textsB, sameL]
      · rw [if_neg (by omega), if_neg (by omega), if_pos rfl, cmpS_zero]
        simp [textsB, sameL]
      · rw [if_neg (by omega), if_neg (by omega), if_neg (by omega), e1, f1]
        simp [cmpKs, textsB, IH]
      · rw [if_neg (by omega), if_neg (by omega), if_neg (by omega), e1, f1, beq_self_eq_true, beq_self_eq_true, Bool.true_and, Bool.true_and, Bool.and_eq_true, ← IH, ← cmpKs_zero]
        by_cases h : cmpKs ks ks' = 0
        · rw [if_pos h]; simp [h]
        · rw [if_neg h]; simp [h]
    · rw [if_neg hk, sgnI_zero]
      have : (k == k') = false := beq_eq_false_iff_ne.2 hk
      simp [this, hk]
theorem cmpL_zero : ∀ l m : List VT, plainL l = true → plainL m = true → (cmpL l m = 0 ↔ sameL l m = true)
  | [], [], _, _ => by simp [cmpL, sameL]
  | [], _ :: _, _, _ => by simp [cmpL, sameL]
  | _ :: _, [], _, _ => by simp [cmpL, sameL]
  | x :: l, y :: m, ha, hb => by
    unfold plainL at ha hb
    obtain ⟨ha1, ha2⟩ := Bool.and_eq_true_iff.1 ha
    obtain ⟨hb1, hb2⟩ := Bool.and_eq_true_iff.1 hb
    have h1 := cmpT_zero x y ha1 hb1
    have h2 := cmpL_zero l m ha2 hb2
    unfold cmpL sameL
    rw [Bool.and_eq_true, ← h1, ← h2]
    by_cases h : cmpT x y = 0
    · rw [if_pos h]; simp [h]
    · rw [if_neg h]; simp [h]
end
end Go.Proofs.YtcbcjeabpjjhbaaGreatDoor
namespace Go.Proofs.YtcbcjeabpjjhbaaGreatDoor
open Go.RowKit
set_option linter.unusedVariables false

theorem cmpS_lt {a b : ByteArray} (h : bLt a b = true) : cmpS a b = -1 := by
  have h1 : a.data.toList < b.data.toList := by unfold bLt at h; simpa using h
  have h2 := (compareBytes_neg _ _).2 h1
  have h3 := bytes_range a.data.toList b.data.toList
  unfold cmpS
  omega
theorem cmpS_gt {a b : ByteArray} (h : bLt b a = true) : cmpS a b = 1 := by
  rw [cmpS_anti b a, cmpS_lt h]; rfl
theorem cmpS_eq {a b : ByteArray} (h1 : bLt a b = false) (h2 : bLt b a = false) : cmpS a b = 0 := by
  have n1 : ¬ cmpS a b < 0 := fun h => by
    have := (compareBytes_neg _ _).1 h
    unfold bLt at h1
    simp at h1
    exact h1 this
  have n2 : ¬ cmpS b a < 0 := fun h => by
    have := (compareBytes_neg _ _).1 h
    unfold bLt at h2
    simp at h2
    exact h2 this
  have := cmpS_anti a b
  omega
/-- The rest of a comparison. -/
theorem cmpKs_rest {ks ms : List ByteArray} {j : Nat} (h1 : j < ks.length) (h2 : j < ms.length) : cmpKs (ks.drop j) (ms.drop j) = if cmpS ks[j] ms[j] = 0 then cmpKs (ks.drop (j + 1)) (ms.drop (j + 1)) else cmpS ks[j] ms[j] := by
  rw [List.drop_eq_getElem_cons h1, List.drop_eq_getElem_cons h2]
  conv => lhs; unfold cmpKs
theorem cmpKs_long {ks ms : List ByteArray} {j : Nat} (h1 : j < ks.length) (h2 : ms.length ≤ j) : cmpKs (ks.drop j) (ms.drop j) = 1 := by
  rw [List.drop_eq_getElem_cons h1, List.drop_eq_nil_of_le h2]
  unfold cmpKs; rfl
theorem cmpKs_short {ks ms : List ByteArray} {j : Nat} (h1 : ks.length ≤ j) (h2 : j < ms.length) : cmpKs (ks.drop j) (ms.drop j) = -1 := by
  rw [List.drop_eq_getElem_cons h2, List.drop_eq_nil_of_le h1]
  unfold cmpKs; rfl
theorem cmpKs_done {ks ms : List ByteArray} {j : Nat} (h1 : ks.length ≤ j) (h2 : ms.length ≤ j) : cmpKs (ks.drop j) (ms.drop j) = 0 := by
  rw [List.drop_eq_nil_of_le h1, List.drop_eq_nil_of_le h2]
  unfold cmpKs; rfl

end Go.Proofs.YtcbcjeabpjjhbaaGreatDoor
namespace Go.Proofs.YtcbcjeabpjjhbaaGreatDoor
open Go.RowKit
set_option linter.unusedVariables false

theorem same_of_not {a b : ByteArray} (h1 : bLt a b = false) (h2 : bLt b a = false) : (a.toList == b.toList) = true := (cmpS_zero a b).1 (cmpS_eq h1 h2)
theorem differ_of_lt {a b : ByteArray} (h : bLt a b = true) : (a.toList == b.toList) = false := by
  rw [← Bool.not_eq_true, ← cmpS_zero, cmpS_lt h]; decide
theorem differ_of_gt {a b : ByteArray} (h : bLt b a = true) : (a.toList == b.toList) = false := by
  rw [← Bool.not_eq_true, ← cmpS_zero, cmpS_gt h]; decide
theorem not_lt_of_gt {a b : ByteArray} (h : bLt b a = true) : bLt a b = false := by
  rcases Bool.eq_false_or_eq_true (bLt a b) with h' | h'
  · have := bLt_trans h h'
    rw [bLt_irrefl] at this; cases this
  · exact h'
theorem same_lt {a b c : ByteArray} (h : (a.toList == b.toList) = true) (h2 : bLt a c = true) : bLt b c = true := by
  have e : a.data.toList = b.data.toList := by rw [← ByteArray.toList_eq, ← ByteArray.toList_eq]; exact beq_iff_eq.1 h
  unfold bLt at *
  rw [← e]; exact h2
theorem Rising.tail {a : ByteArray} {l : List ByteArray} (h : Rising (a :: l)) : Rising l := fun i j hi hj hij => by
  have := h (i + 1) (j + 1) (by simpa using hi) (by simpa using hj) (by omega)
  simpa using this
theorem Rising.head {a : ByteArray} {l : List ByteArray} (h : Rising (a :: l)) : ∀ b ∈ l, bLt a b = true := fun b hb => by
  obtain ⟨j, hj, rfl⟩ := List.mem_iff_getElem.1 hb
  have := h 0 (j + 1) (by simp) (by simpa using hj) (by omega)
  simpa using this
theorem dropK_none {key : ByteArray} : ∀ {l : List ByteArray}, (∀ b ∈ l, (b.toList == key.toList) = false) → dropK key l = l
  | [], _ => rfl
  | a :: l, h => by
    unfold dropK
    rw [if_neg (by rw [h a List.mem_cons_self]; decide), dropK_none (fun b hb => h b (List.mem_cons_of_mem _ hb))]
theorem dropI_none {α : Type} {key : ByteArray} : ∀ {l : List ByteArray} {m : List α}, l.length = m.length → (∀ b ∈ l, (b.toList == key.toList) = false) → dropI key l m = m
  | [], [], _, _ => rfl
  | [], _ :: _, h, _ => by simp at h
  | _ :: _, [], h, _ => by simp at h
  | a :: l, y :: m, hl, h => by
    unfold dropI
    rw [if_neg (by rw [h a List.mem_cons_self]; decide), dropI_none (by simpa using hl) (fun b hb => h b (List.mem_cons_of_mem _ hb))]
theorem insK_front {key : ByteArray} : ∀ {l : List ByteArray}, (∀ b ∈ l, bLt key b = true) → insK key l = key :: l
  | [], _ => rfl
  | a :: l, h => by unfold insK; rw [if_pos (h a List.mem_cons_self)]
theorem insI_front {α : Type} {key : ByteArray} {x : α} : ∀ {l : List ByteArray} {m : List α}, l.length = m.length → (∀ b ∈ l, bLt key b = true) → insI key x l m = x :: m
  | [], [], _, _ => rfl
  | [], _ :: _, h, _ => by simp at h
  | _ :: _, [], h, _ => by simp at h
  | a :: l, y :: m, hl, h => by unfold insI; rw [if_pos (h a List.mem_cons_self)]
def one (b : Bool) : Nat := if b then 1 else 0
theorem KeyPlace.tail {a key : ByteArray} {l : List ByteArray} {p : Nat} (h : KeyPlace (a :: l) key (p + 1)) : KeyPlace l key p ∧ bLt a key = true := by
  obtain ⟨h1, h2, h3⟩ := h
  refine ⟨⟨by simpa using h1, fun x hx hxp => ?_, fun x hx hxp => ?_⟩, ?_⟩
  · have := h2 (x + 1) (by simpa using hx) (by omega); simpa using this
  · have := h3 (x + 1) (by simpa using hx) (by omega); simpa using this
  · have := h2 0 (by simp) (by omega); simpa using this
theorem hasAt_tail {a key : ByteArray} {l : List ByteArray} {p : Nat} : hasAt (a :: l) key (p + 1) = hasAt l key p := by unfold hasAt; simp
/-- The document's put is a put in the key's place. -/
theorem put_place {α : Type} {key : ByteArray} {x : α} : ∀ {ks : List ByteArray} {ys : List α} {p : Nat}, ks.length = ys.length → Rising ks → KeyPlace ks key p →
    insK key (dropK key ks) = ks.take p ++ key :: ks.drop (p + one (hasAt ks key p)) ∧ insI key x (dropK key ks) (dropI key ks ys) = ys.take p ++ x :: ys.drop (p + one (hasAt ks key p))
  | [], [], p, _, _, hp => by
    obtain rfl : p = 0 := by have := hp.1; simpa using this
    simp [dropK, dropI, insK, insI]
  | [], _ :: _, _, h, _, _ => by simp at h
  | _ :: _, [], _, h, _, _ => by simp at h
  | a :: l, y :: m, 0, hl, hr, hp => by
    have hl' : l.length = m.length := by simpa using hl
    have hge : bLt a key = false := by have := hp.2.2 0 (by simp) (Nat.le_refl _); simpa using this
    have hh : hasAt (a :: l) key 0 = (a.toList == key.toList) := by unfold hasAt; simp
    cases hs : (a.toList == key.toList)
    · have hgt : bLt key a = true := by
        rcases Bool.eq_false_or_eq_true (bLt key a) with h | h
        · exact h
        · rw [same_of_not hge h] at hs; cases hs
      have hall : ∀ b ∈ a :: l, bLt key b = true := fun b hb => by
        rcases List.mem_cons.1 hb with rfl | hb
        · exact hgt
        · exact bLt_trans hgt (hr.head b hb)
      have hnone : ∀ b ∈ a :: l, (b.toList == key.toList) = false := fun b hb => differ_of_gt (hall b hb)
      rw [dropK_none hnone, dropI_none hl hnone, insK_front hall, insI_front hl hall, hh, hs]
      simp [one]
    · have hall : ∀ b ∈ l, bLt key b = true := fun b hb => same_lt hs (hr.head b hb)
      have hnone : ∀ b ∈ l, (b.toList == key.toList) = false := fun b hb => differ_of_gt (hall b hb)
      have e1 : dropK key (a :: l) = l := by unfold dropK; rw [if_pos hs, dropK_none hnone]
      have e2 : dropI key (a :: l) (y :: m) = m := by unfold dropI; rw [if_pos hs, dropI_none hl' hnone]
      rw [e1, e2, insK_front hall, insI_front hl' hall, hh, hs]
      simp [one]
  | a :: l, y :: m, p + 1, hl, hr, hp => by
    obtain ⟨hp', hlt⟩ := hp.tail
    obtain ⟨i1, i2⟩ := put_place (x := x) (ks := l) (ys := m) (p := p) (by simpa using hl) hr.tail hp'
    have hs := differ_of_lt hlt
    have hng := not_lt_of_gt hlt
    have e1 : dropK key (a :: l) = a :: dropK key l := by conv => lhs; unfold dropK; rw [if_neg (by rw [hs]; decide)]
    have e2 : dropI key (a :: l) (y :: m) = y :: dropI key l m := by conv => lhs; unfold dropI; rw [if_neg (by rw [hs]; decide)]
    have e3 : insK key (a :: dropK key l) = a :: insK key (dropK key l) := by conv => lhs; unfold insK; rw [if_neg (by rw [hng]; decide)]
    have e4 : insI key x (a :: dropK key l) (y :: dropI key l m) = y :: insI key x (dropK key l) (dropI key l m) := by conv => lhs; unfold insI; rw [if_neg (by rw [hng]; decide)]
    rw [e1, e2, e3, e4, i1, i2, hasAt_tail, show p + 1 + one (hasAt l key p) = (p + one (hasAt l key p)) + 1 by omega]
    simp
/-- The document's drop is a drop at the key's place. -/
theorem drop_place {α : Type} {key : ByteArray} : ∀ {ks : List ByteArray} {ys : List α} {p : Nat}, ks.length = ys.length → Rising ks → KeyPlace ks key p →
    dropK key ks = ks.take p ++ ks.drop (p + one (hasAt ks key p)) ∧ dropI key ks ys = ys.take p ++ ys.drop (p + one (hasAt ks key p))
  | [], [], p, _, _, hp => by simp [dropK, dropI]
  | [], _ :: _, _, h, _, _ => by simp at h
  | _ :: _, [], _, h, _, _ => by simp at h
  | a :: l, y :: m, 0, hl, hr, hp => by
    have hl' : l.length = m.length := by simpa using hl
    have hge : bLt a key = false := by have := hp.2.2 0 (by simp) (Nat.le_refl _); simpa using this
    have hh : hasAt (a :: l) key 0 = (a.toList == key.toList) := by unfold hasAt; simp
    cases hs : (a.toList == key.toList)
    · have hgt : bLt key a = true := by
        rcases Bool.eq_false_or_eq_true (bLt key a) with h | h
        · exact h
        · rw [same_of_not hge h] at hs; cases hs
      have hnone : ∀ b ∈ a :: l, (b.toList == key.toList) = false := fun b hb => by
        rcases List.mem_cons.1 hb with rfl | hb
        · exact hs
        · exact differ_of_gt (bLt_trans hgt (hr.head b hb))
      rw [dropK_none hnone, dropI_none hl hnone, hh, hs]
      simp [one]
    · have hnone : ∀ b ∈ l, (b.toList == key.toList) = false := fun b hb => differ_of_gt (same_lt hs (hr.head b hb))
      have e1 : dropK key (a :: l) = l := by unfold dropK; rw [if_pos hs, dropK_none hnone]
      have e2 : dropI key (a :: l) (y :: m) = m := by unfold dropI; rw [if_pos hs, dropI_none hl' hnone]
      rw [e1, e2, hh, hs]
      simp [one]
  | a :: l, y :: m, p + 1, hl, hr, hp => by
    obtain ⟨hp', hlt⟩ := hp.tail
    obtain ⟨i1, i2⟩ := drop_place (ks := l) (ys := m) (p := p) (by simpa using hl) hr.tail hp'
    have hs := differ_of_lt hlt
    have e1 : dropK key (a :: l) = a :: dropK key l := by conv => lhs; unfold dropK; rw [if_neg (by rw [hs]; decide)]
    have e2 : dropI key (a :: l) (y :: m) = y :: dropI key l m := by conv => lhs; unfold dropI; rw [if_neg (by rw [hs]; decide)]
    rw [e1, e2, i1, i2, hasAt_tail, show p + 1 + one (hasAt l key p) = (p + one (hasAt l key p)) + 1 by omega]
    simp
/-- Where the key is not, it is nowhere. -/
theorem none_of_place {key : ByteArray} {ks : List ByteArray} {p : Nat} (hr : Rising ks) (hp : KeyPlace ks key p) (h : hasAt ks key p = false) : ∀ i (hi : i < ks.length), (ks[i].toList == key.toList) = false := fun i hi => by
  rcases Nat.lt_trichotomy i p with h1 | h1 | h1
  · exact differ_of_lt (hp.2.1 i hi h1)
  · subst h1
    rw [hasAt_in hi] at h; exact h
  · have hpl : p < ks.length := by omega
    have h2 := hr p i hpl hi h1
    have h3 := hp.2.2 p hpl (Nat.le_refl _)
    exact differ_of_gt (bLt_trans' h2 h3)
/-- Where the key is, there alone it is. -/
theorem place_only {key : ByteArray} {ks : List ByteArray} {i j : Nat} (hr : Rising ks) (hi : i < ks.length) (hj : j < ks.length) (h1 : (ks[i].toList == key.toList) = true) (h2 : (ks[j].toList == key.toList) = true) : i = j := by
  have e : (ks[i].toList == ks[j].toList) = true := by rw [beq_iff_eq] at *; rw [h1, h2]
  rcases Nat.lt_trichotomy i j with h | h | h
  · rw [differ_of_lt (hr i j hi hj h)] at e; cases e
  · exact h
  · rw [differ_of_gt (hr j i hj hi h)] at e; cases e
theorem keysOk_rising : ∀ {ks : List ByteArray}, keysOk ks = true → Rising ks
  | [], _ => fun i j hi _ _ => by simp at hi
  | [a], _ => fun i j hi hj hij => by simp at hi hj; omega
  | a :: b :: l, h => by
    unfold keysOk at h
    obtain ⟨h1, h2⟩ := Bool.and_eq_true_iff.1 h
    obtain ⟨-, h3⟩ := Bool.and_eq_true_iff.1 h1
    have ih := keysOk_rising h2
    intro i j hi hj hij
    have hhead : ∀ c ∈ b :: l, bLt a c = true := fun c hc => by
      rcases List.mem_cons.1 hc with rfl | hc
      · exact h3
      · exact bLt_trans h3 (ih.head c hc)
    match i, j with
    | 0, j + 1 => simpa using hhead _ (List.getElem_mem (by simpa using hj))
    | i + 1, j + 1 =>
      have := ih i j (by simpa using hi) (by simpa using hj) (by omega)
      simpa using this
end Go.Proofs.YtcbcjeabpjjhbaaGreatDoor
