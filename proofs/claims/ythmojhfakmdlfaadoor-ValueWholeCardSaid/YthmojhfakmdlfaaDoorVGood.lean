/- value.goodAlone of a tree. -/
import Derived.Test.YthmojhfakmdlfaaDoorVAlone
import Derived.Test.YthmojhfakmdlfaaDoorVSize
namespace Go.Proofs.YthmojhfakmdlfaaDoor
open Go.RowKit
set_option linter.unusedVariables false

theorem alone_any {B : Nat} {w : World} {v : Value} {T : VT} (h : Is B w v T) (W : World) (hb : Below B w W) (hBW : B ≤ W.heap.size) : Calls Tryd.prog 45 #[v] W fun e w' => e = .returned (.bool (aloneT T)) ∧ Below W.heap.size W w' := by
  cases h with
  | mk k b t its ks ad cap kv g o ik ib it ii iv hk hc hnl ha hcell hrec =>
    rw [aloneT_B]
    have hg6 : ∀ W', Below W.heap.size W W' → Calls Tryd.prog 59 #[kv] W' fun e w' => e = .returned (.bool (keysOk ks)) ∧ W' = w' := fun W' hb' => goodKeys_any ((hk.below hb).below (hb'.mono hBW))
    obtain ⟨adk, capk, rfl, -⟩ := hk
    cases b
    · unfold aloneB
      simp only [Bool.not_false, Bool.true_or, Bool.true_and]
      by_cases h0 : k = 0
      · subst h0; rw [if_pos (by simp)]; exact alone_0_false rfl rfl rfl
      · by_cases h1 : k = 1
        · subst h1; rw [if_pos (by simp)]; exact alone_1_false rfl rfl rfl
        · by_cases h2 : k = 2
          · subst h2; rw [if_pos (by simp)]; exact alone_2_false rfl rfl rfl
          · rw [if_neg (by simp [h0, h1, h2])]
            by_cases h3 : k = 3
            · subst h3; rw [if_pos rfl]; exact alone_3 rfl rfl rfl (fun W' => Good_any t W')
            · rw [if_neg h3]
              by_cases h4 : k = 4
              · subst h4; rw [if_pos rfl]; exact alone_4 rfl rfl rfl
              · rw [if_neg h4]
                by_cases h5 : k = 5
                · subst h5; rw [if_pos rfl]; exact alone_5 rfl rfl rfl
                · rw [if_neg h5]
                  by_cases h6 : k = 6
                  · subst h6; rw [if_pos rfl]; exact alone_6 rfl rfl rfl rfl hg6
                  · rw [if_neg h6]
                    exact alone_else rfl rfl rfl (beq_eq_false_iff_ne.2 h0) (beq_eq_false_iff_ne.2 h1) (beq_eq_false_iff_ne.2 h2) (beq_eq_false_iff_ne.2 h3) (beq_eq_false_iff_ne.2 h4) (beq_eq_false_iff_ne.2 h5) (beq_eq_false_iff_ne.2 h6)
    · by_cases h2 : k = 2
      · subst h2
        have e : aloneB 2 true (t.toList == []) (goodB t.data.toList) (decide (t.size ≤ 16384)) ((its.length : Int) == 0) ((ks.length : Int) == 0) ((ks.length : Int) == (its.length : Int)) (keysOk ks) = ((t.toList == []) && ((its.length : Int) == 0) && ((ks.length : Int) == 0)) := by unfold aloneB; simp
        rw [e]
        exact alone_2_true rfl rfl rfl
      · have e : aloneB k true (t.toList == []) (goodB t.data.toList) (decide (t.size ≤ 16384)) ((its.length : Int) == 0) ((ks.length : Int) == 0) ((ks.length : Int) == (its.length : Int)) (keysOk ks) = false := by unfold aloneB; simp [h2]
        rw [e]
        exact alone_truth rfl rfl rfl (beq_eq_false_iff_ne.2 h2)

/-- What goodWithin tells, room for r items more. -/
def within (d r : Nat) (T : VT) : Prop := deepT d T = true ∧ sizeT T ≤ r + 1 ∧ plainT T = true
/-- .. of the first j items. -/
def withinL (d : Nat) (its : List VT) (j : Nat) : Prop := ∀ i (h : i < its.length), i < j → deepT d its[i] = true ∧ plainT its[i] = true
theorem plainL_all : ∀ {l : List VT}, (∀ j (h : j < l.length), plainT l[j] = true) → plainL l = true
  | [], _ => rfl
  | x :: l, h => by
    have h0 : plainT x = true := h 0 (by simp)
    unfold plainL
    rw [h0, plainL_all (fun j hj => h (j + 1) (by simpa using hj))]
    rfl
theorem plainL_at : ∀ {l : List VT} {j : Nat} (h : j < l.length), plainL l = true → plainT l[j] = true
  | x :: l, 0, _, e => by
    unfold plainL at e
    have := (Bool.and_eq_true_iff.1 e).1
    exact this
  | x :: l, j + 1, h, e => by
    unfold plainL at e
    exact plainL_at (l := l) (by simpa using h) (Bool.and_eq_true_iff.1 e).2
theorem within_node {d r : Nat} {k : Int} {b : Bool} {t : ByteArray} {its : List VT} {ks : List ByteArray} : within (d + 1) r (.node k b t its ks) ↔ deepL d its = true ∧ sizeL its ≤ r ∧ aloneT (.node k b t its ks) = true ∧ plainL its = true := by
  unfold within
  have h1 : deepT (d + 1) (.node k b t its ks) = deepL d its := by unfold deepT; rfl
  have h2 : sizeT (.node k b t its ks) = 1 + sizeL its := by unfold sizeT; rfl
  have h3 : plainT (.node k b t its ks) = (aloneT (.node k b t its ks) && plainL its) := by conv => lhs; unfold plainT
  rw [h1, h2, h3, Bool.and_eq_true_iff]
  constructor
  · rintro ⟨a, b, c, d⟩; exact ⟨a, by omega, c, d⟩
  · rintro ⟨a, b, c, d⟩; exact ⟨a, by omega, c, d⟩
theorem not_within_zero {r : Nat} {T : VT} : ¬ within 0 r T := by
  rintro ⟨h, -⟩
  cases T
  unfold deepT at h
  cases h
end Go.Proofs.YthmojhfakmdlfaaDoor
