/- value.Cmp of values without items and keys. -/
import Derived.Test.YthmojhfakmdlfaaDoorVVals
import Derived.Test.YthmojhfakmdlfaaDoorShelf
namespace Go.Proofs.YthmojhfakmdlfaaDoor
open Go.RowKit

theorem nanKind_any (a : Int) (w : World) : Calls Tryd.prog 53 #[.int .i64 a] w fun e w' => e = .returned (.bool false) ∧ w = w' := by
  go_enter Tryd.func53, Tryd.ntmps53
  go_wp2
  go_ret
  exact ⟨by simp, rfl⟩
theorem cmpKind_any (a b : Int) (w : World) : Calls Tryd.prog 39 #[.int .i64 a, .int .i64 b] w fun e w' => e = .returned (.int .i64 (sgnI a b)) ∧ w = w' := by
  have HN := Lib.hid (fun x W => nanKind_any x W)
  unfold sgnI
  rcases (show a < b ∨ (¬ a < b ∧ b < a) ∨ (¬ a < b ∧ ¬ b < a) by omega) with h | ⟨h, h'⟩ | ⟨h, h'⟩
  · rw [if_pos h]
    go_enter Tryd.func39, Tryd.ntmps39
    go_wp2_with (go_at_call 53; refine (HN.out _ _).mono ?_; rintro e w' ⟨rfl, rfl⟩)
    go_ret
    exact ⟨rfl, rfl⟩
  · rw [if_neg h, if_pos h']
    go_enter Tryd.func39, Tryd.ntmps39
    go_wp2_with (go_at_call 53; refine (HN.out _ _).mono ?_; rintro e w' ⟨rfl, rfl⟩)
    go_ret
    exact ⟨rfl, rfl⟩
  · rw [if_neg h, if_neg h']
    go_enter Tryd.func39, Tryd.ntmps39
    go_wp2_with (go_at_call 53; refine (HN.out _ _).mono ?_; rintro e w' ⟨rfl, rfl⟩)
    go_ret
    exact ⟨rfl, rfl⟩
set_option maxHeartbeats 1000000 in
theorem vCmp_kinds (k l : Int) (b c : Bool) (s t : ByteArray) (h : k ≠ l) (w : World) : Calls Tryd.prog 24 #[scal k b s, scal l c t] w fun e w' => e = .returned (.int .i64 (sgnI k l)) ∧ Below w.heap.size w w' := by
  have HC := Lib.hid (fun W => cmpKind_any k l W)
  generalize sgnI k l = z at HC ⊢
  have hne : (k == l) = false := beq_eq_false_iff_ne.2 h
  unfold scal
  go_enter Tryd.func24, Tryd.ntmps24
  go_wp2_with (go_at_call 39; refine (HC.out _).mono ?_; rintro e w' ⟨rfl, rfl⟩)
  go_ret
  exact ⟨rfl, ((Below.refl _ _).alloc (Nat.le_refl _) _).alloc (by simp) _⟩
set_option maxHeartbeats 1000000 in
theorem vCmp_ints {a b : Int} (ha : Fits a) (hb : Fits b) (w : World) : Calls Tryd.prog 24 #[scal 3 false (str a), scal 3 false (str b)] w fun e w' => e = .returned (.int .i64 (sgnI a b)) ∧ Below w.heap.size w w' := by
  have HC := Lib.hid (fun W => Cmp_good ha hb (w := W))
  generalize sgnI a b = z at HC ⊢
  generalize str a = s at HC ⊢
  generalize str b = t at HC ⊢
  clear ha hb
  unfold scal
  have hb0 := ((Below.refl w.heap.size w).alloc (Nat.le_refl _) (.cells #[.int .i64 3, .bool false, .string s, .slice none 0 0, .slice none 0 0] 26)).alloc (by simp) (.cells #[.int .i64 3, .bool false, .string t, .slice none 0 0, .slice none 0 0] 26)
  go_enter Tryd.func24, Tryd.ntmps24
  go_wp2_with (go_at_call 41; refine (HC.out _).mono ?_; rintro e w1 ⟨rfl, hb⟩)
  go_ret
  exact ⟨rfl, hb0.trans (hb.mono hb0.size)⟩
set_option maxHeartbeats 1000000 in
theorem vCmp_texts (s t : ByteArray) (w : World) : Calls Tryd.prog 24 #[scal 4 false s, scal 4 false t] w fun e w' => e = .returned (.int .i64 (Lib.compareBytes s.data.toList t.data.toList)) ∧ Below w.heap.size w w' := by
  have HC := Lib.hid (fun W => Tryd.strings_Compare s t W)
  unfold scal
  go_enter Tryd.func24, Tryd.ntmps24
  go_wp2_with (go_at_call 42; refine (HC.out _).mono ?_; rintro e w' ⟨rfl, rfl⟩)
  go_ret
  exact ⟨rfl, ((Below.refl _ _).alloc (Nat.le_refl _) _).alloc (by simp) _⟩
end Go.Proofs.YthmojhfakmdlfaaDoor
