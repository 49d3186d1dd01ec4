/- The scanner's has and skip. -/
import Derived.Test.YtpdepdigacpfiaaDoorLBase
import Derived.Test.YtpdepdigacpfiaaDoorLMath
import Derived.Test.YtpdepdigacpfiaaDoorShelf
import Derived.Deep.QuietTactic
import Derived.BigQuiet
import Derived.IntWalk
namespace Go.Proofs.YtpdepdigacpfiaaDoor
open Go.RowKit
set_option linter.unusedVariables false

/-- The rest of a text, from a byte on. -/
def rest (t : ByteArray) (a : Nat) : List UInt8 := t.data.toList.drop a
theorem rest_length (t : ByteArray) (a : Nat) : (rest t a).length = t.size - a := by unfold rest; simp
theorem rest_extract (t : ByteArray) (a : Nat) : (t.extract a t.size).data.toList = rest t a := Lib.extract_to_end t a
theorem below_drewN (W : World) (n : Nat) : Below W.heap.size W (W.drewN n) := ⟨rfl, rfl, rfl, Nat.le_refl _, fun _ _ => rfl⟩

set_option maxRecDepth 100000 in
set_option maxHeartbeats 1000000 in
theorem has_any {W : World} {P a : Nat} {t : ByteArray} (h : Scn W P t a) (p : ByteArray) : Calls Tryd.prog 25 #[.pointer (some ⟨P, 0, none⟩), .string p] W fun e w' => e = .returned (.bool (Lib.hasPrefix (rest t a) p.data.toList)) ∧ Below W.heap.size W w' := by
  obtain ⟨hb, ha, hs⟩ := h
  have c0 := hb.cell 0
  have c1 := hb.cell 1
  have i0 : (0 : Int) ≤ (a : Int) := by omega
  have i1 : (a : Int) ≤ (t.size : Int) := by omega
  have HS := Lib.hid (fun w => Tryd.strings_HasPrefix (t.extract a t.size) p w)
  have HR := Lib.hid (rest_extract t a)
  clear hb ha
  go_enter Tryd.func25, Tryd.ntmps25
  go_wp2_with fail
  go_quiet ((go_at_call 15; exact Calls.quiet_of_same (HS.out _)))
  go_wp2
  go_ret
  rw [HR.out]
  exact ⟨rfl, below_drewN _ _⟩

theorem pre_le {t : ByteArray} {a : Nat} {p : ByteArray} (h : Lib.hasPrefix (rest t a) p.data.toList = true) : p.size ≤ t.size - a := by
  have := List.IsPrefix.length_le (List.isPrefixOf_iff_prefix.1 h)
  rw [rest_length] at this
  simpa using this
set_option maxRecDepth 100000 in
set_option maxHeartbeats 1000000 in
theorem skip_no {W : World} {P a : Nat} {t : ByteArray} (h : Scn W P t a) (p : ByteArray) (hp : Lib.hasPrefix (rest t a) p.data.toList = false) : Calls Tryd.prog 37 #[.pointer (some ⟨P, 0, none⟩), .string p] W fun e w' => e = .returned (.bool false) ∧ Below W.heap.size W w' := by
  have HH := Lib.hid (has_any h p)
  rw [hp] at HH
  clear hp h
  go_enter Tryd.func37, Tryd.ntmps37
  go_wp2_with fail
  go_at_call 25; refine HH.out.mono ?_; rintro e w1 ⟨rfl, hb⟩
  go_wp2
  go_ret
  exact ⟨rfl, hb⟩
set_option maxRecDepth 100000 in
set_option maxHeartbeats 1000000 in
theorem skip_yes {W : World} {P a : Nat} {t : ByteArray} (h : Scn W P t a) (p : ByteArray) (hp : Lib.hasPrefix (rest t a) p.data.toList = true) : Calls Tryd.prog 37 #[.pointer (some ⟨P, 0, none⟩), .string p] W fun e w' => e = .returned (.bool true) ∧ Went W w' P t (a + p.size) := by
  have HH := Lib.hid (has_any h p)
  rw [hp] at HH
  have hle := pre_le hp
  have HS := Lib.hid h
  obtain ⟨hb, ha, hs⟩ := h
  clear hp hb
  go_enter Tryd.func37, Tryd.ntmps37
  go_wp2_with fail
  go_at_call 25; refine HH.out.mono ?_; rintro e w1 ⟨rfl, hb⟩
  have HS1 := Lib.hid (HS.out.below hb)
  have HB := Lib.hid hb
  clear hb
  have c1 := HS1.out.1.cell 1
  have f1 := HS1.out.1.frozen 1
  go_wp2
  go_ret
  refine ⟨rfl, (HS.out.stays HB.out).trans ?_⟩
  have := HS1.out.moves (b := a + p.size) (by omega)
  simpa using this
end Go.Proofs.YtpdepdigacpfiaaDoor
