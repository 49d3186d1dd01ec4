/- bytes.Clone of any bytes. -/
import Derived.Test.YtoipmgdfhmochaaFStep
namespace Go.Proofs.Ytoipmgdfhmochaa
open Go.RowKit Go.Shelf
set_option linter.unusedVariables false
set_option linter.unusedSimpArgs false

theorem nums_len (L : List UInt8) : (numsOf L).length = L.length := by simp
theorem BR.of_row {w : World} {lo : Nat} {v : Value} {L : List UInt8} (hl : L.length ≤ 140737488355328) (h : w.ownsRow lo 5 1 v L.length ((numsOf L).map (Value.int .u8))) : ∃ a c, v = .slice a L.length c ∧ BR w v L := by
  have h' := h
  obtain ⟨-, ⟨rfl, h0⟩ | ⟨g, cap, cur, rfl, h3, h4, h5, -⟩⟩ := h'
  · have : L = [] := List.length_eq_zero_iff.1 h0
    subst this
    exact ⟨none, 0, rfl, BR.nil w⟩
  · refine ⟨_, _, rfl, _, _, rfl, hl, h5, .inr ⟨_, rfl, (Array.getElem?_eq_some_iff.1 h4).1, fun i hi => ?_⟩⟩
    refine h.cells (g := g) rfl i _ ?_
    rw [List.getElem?_map]
    have : (numsOf L)[i]? = some ((numsOf L).getD i 0) := by
      rw [List.getD_eq_getElem?_getD, List.getElem?_eq_getElem (by rw [nums_len]; exact hi)]
      rfl
    rw [this]
    rfl
theorem bclone_any {W : World} {v : Value} {L : List UInt8} (hv : BR W v L) : Calls Try.prog 38 #[v] W fun e w' => ∃ a c, e = .returned (.slice a L.length c) ∧ BR w' (.slice a L.length c) L ∧ Below W.heap.size W w' := by
  obtain ⟨a, c, rfl, h2, h3, h4⟩ := hv
  rcases h4 with ⟨rfl, rfl⟩ | ⟨ad, rfl, h5, h6⟩
  · refine (Try.bytes_Clone_nil _ c W).mono ?_
    rintro e w' ⟨rfl, rfl⟩
    exact ⟨none, 0, rfl, BR.nil _, Below.refl _ _⟩
  · refine (Try.bytes_Clone_at ad L.length c (numsOf L) W (nums_len L) h2 h6).mono ?_
    rintro e w' ⟨v', rfl, ho, -, hb⟩
    obtain ⟨a, c', rfl, hr⟩ := BR.of_row h2 ho
    exact ⟨a, c', rfl, hr, hb⟩
end Go.Proofs.Ytoipmgdfhmochaa
