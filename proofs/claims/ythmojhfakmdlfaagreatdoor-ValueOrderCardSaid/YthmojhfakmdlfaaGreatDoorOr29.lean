/- What a good tree is -/
import Derived.Test.YthmojhfakmdlfaaGreatDoorOr22
import Derived.Test.YthmojhfakmdlfaaGreatDoorOr28
namespace Go.Proofs.YthmojhfakmdlfaaGreatDoor
open Go.RowKit
set_option linter.unusedVariables false

/-- A good tree is small. -/
theorem small_good : ∀ (n : Nat) (T : VT), deepT n T = true → plainT T = true → sizeT T ≤ 2000 → smallT T
  | 0, .node k b t its ks, h, _, _ => by unfold deepT at h; cases h
  | n + 1, .node k b t its ks, hd, hp, hs => by
    have e : sizeT (.node k b t its ks) = 1 + sizeL its := by unfold sizeT; rfl
    rw [e] at hs
    have hge := sizeL_ge its
    unfold deepT at hd
    unfold plainT at hp
    obtain ⟨hal, hpl⟩ := Bool.and_eq_true_iff.1 hp
    rw [smallT_node]
    refine ⟨by omega, ?_, fun x hx => ?_⟩
    · unfold aloneT at hal
      have hal2 := (Bool.and_eq_true_iff.1 hal).2
      split at hal2
      · simp at hal2; rw [hal2.2]; simp
      · split at hal2
        · simp at hal2; rw [hal2.2]; simp
        · split at hal2
          · simp at hal2; rw [hal2.2]; simp
          · split at hal2
            · simp at hal2; rw [hal2.2]; simp
            · split at hal2
              · simp at hal2; omega
              · cases hal2
    · obtain ⟨j, hj, rfl⟩ := List.mem_iff_getElem.1 hx
      have h1 := sizeL_split its (j + 1)
      have h2 := sizeL_take hj
      exact small_good n _ (deepL_at hj hd) (plainL_at hj hpl) (by omega)
theorem goodT_parts {T : VT} (h : goodT T = true) : sizeT T ≤ 2000 ∧ deepT 24 T = true ∧ plainT T = true := by
  unfold goodT at h
  simp only [Bool.and_eq_true, decide_eq_true_eq] at h
  exact ⟨h.1.1, h.1.2, h.2⟩
theorem goodT_small {T : VT} (h : goodT T = true) : smallT T := by
  obtain ⟨a, b, c⟩ := goodT_parts h
  exact small_good 24 T b c a

end Go.Proofs.YthmojhfakmdlfaaGreatDoor
