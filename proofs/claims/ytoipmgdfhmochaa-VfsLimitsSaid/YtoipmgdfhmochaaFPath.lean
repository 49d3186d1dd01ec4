/- Paths; a text's copy. -/
import Derived.Test.YtoipmgdfhmochaaFBase
namespace Go.Proofs.Ytoipmgdfhmochaa
open Go.RowKit Go.Shelf
set_option linter.unusedVariables false
set_option linter.unusedSimpArgs false

theorem clone_any {W : World} (s : ByteArray) (hs : s.size ≤ 281474976710656) : Calls Try.prog 41 #[.string s] W fun e w' => e = .returned (.string s) ∧ Below W.heap.size W w' := by
  have HC := Lib.hid (Try.stringslite_Clone s W hs)
  go_enter Try.func41, Try.ntmps41
  go_wp2_with fail
  go_at_call 55; refine HC.out.mono ?_; rintro r w1 ⟨rfl, hb⟩
  go_wp2_with fail
  go_ret
  exact ⟨rfl, hb⟩
/-- Is a text a path? -/
def goodP (x : List UInt8) : Bool := decide (1 ≤ x.length) && decide (x.length ≤ 64) && !Lib.containsAny x [0, 10, 32]
def AsciiB (s : ByteArray) : Prop := ∀ (j : Nat) b, s.data.toList[j]? = some b → b.toNat < 128
theorem isPath_any {W : World} (s : ByteArray) (ha : AsciiB s) (hs : s.size ≤ 1000000) : Calls Try.prog 44 #[.string s] W fun e w' => e = .returned (.bool (goodP s.data.toList)) ∧ Below W.heap.size W w' := by
  have hl : s.data.toList.length = s.size := by simp
  have HC := Lib.hid (Try.strings_ContainsAny_laid s ⟨#[0, 10, 32]⟩ W (by omega) (by decide) ha (fun j b h => by
    match j, h with
    | 0, h => cases h; decide
    | 1, h => cases h; decide
    | 2, h => cases h; decide
    | j + 3, h => simp at h))
  have HG : Hid (goodP s.data.toList = (decide (1 ≤ s.size) && decide (s.size ≤ 64) && !Lib.containsAny s.data.toList [0, 10, 32])) := Lib.hid (by unfold goodP; rw [hl])
  clear hl ha
  go_enter Try.func44, Try.ntmps44
  by_cases h1 : 1 ≤ s.size
  · have i1 : (1 : Int) ≤ (s.size : Int) := by omega
    have d1 : decide ((1 : Int) ≤ (s.size : Int)) = true := decide_eq_true i1
    by_cases h2 : s.size ≤ 64
    · have i2 : (s.size : Int) ≤ 64 := by omega
      have d2 : decide ((s.size : Int) ≤ 64) = true := decide_eq_true i2
      go_wp2_with fail
      go_at_call 56; refine HC.out.mono ?_; rintro r w1 ⟨rfl, hb⟩
      go_wp2_with fail
      go_ret
      refine ⟨?_, hb⟩
      rw [HG.out, decide_eq_true h1, decide_eq_true h2]
      rfl
    · have i2 : ¬ (s.size : Int) ≤ 64 := by omega
      have d2 : decide ((s.size : Int) ≤ 64) = false := decide_eq_false i2
      go_wp2_with fail
      go_ret
      refine ⟨?_, Below.refl _ _⟩
      rw [HG.out, decide_eq_false h2, Bool.and_false, Bool.false_and]
      rfl
  · have i1 : ¬ (1 : Int) ≤ (s.size : Int) := by omega
    have d1 : decide ((1 : Int) ≤ (s.size : Int)) = false := decide_eq_false i1
    go_wp2_with fail
    go_ret
    refine ⟨?_, Below.refl _ _⟩
    rw [HG.out, decide_eq_false h1, Bool.false_and, Bool.false_and]
    rfl
end Go.Proofs.Ytoipmgdfhmochaa
