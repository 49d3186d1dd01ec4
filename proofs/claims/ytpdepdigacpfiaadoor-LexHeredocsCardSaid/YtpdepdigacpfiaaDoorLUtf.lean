/- Scan's first look: the first byte at which no rune begins. -/
import Derived.Test.YtpdepdigacpfiaaDoorLTokens
namespace Go.Proofs.YtpdepdigacpfiaaDoor
open Go.RowKit Go.Shelf
set_option linter.unusedVariables false

/-- The first byte, from one on, at which no rune begins, or the text's length. -/
def badFrom (s : ByteArray) : Nat → Nat → Nat
  | 0, _ => s.size
  | n + 1, pos => if pos < s.size then (if (Utf8.decode s pos).1 = 65533 ∧ Lib.hasPrefix (rest s pos) [239, 191, 189] = false then pos else badFrom s n (pos + (Utf8.decode s pos).2)) else s.size

set_option maxRecDepth 100000 in
set_option maxHeartbeats 4000000 in
theorem bad_any {s : ByteArray} (hs : s.size ≤ 100000) (W : World) : Calls Tryd.prog 13 #[.string s] W fun e w' => e = .returned (.int .i64 ((badFrom s s.size 0 : Nat) : Int)) ∧ Below W.heap.size W w' := by
  obtain ⟨X, hX⟩ : ∃ X, badFrom s s.size 0 = X := ⟨_, rfl⟩
  rw [hX]
  have HX := Lib.hid hX
  have HS := Lib.hid (fun pos w => Tryd.strings_HasPrefix (s.extract pos s.size) ⟨#[239, 191, 189]⟩ w)
  clear hX
  go_enter Tryd.func13, Tryd.ntmps13
  go_wp2_with fail
  go_loopg [2] s.size (fun gf s2 wx => ∃ (pos : Nat), wx.heap[W.heap.size]? = some (.stringIter s pos) ∧ Hid (Below W.heap.size W wx) ∧ Hid (badFrom s gf pos = X) ∧ s.size ≤ pos + gf)
  case atStart => exact ⟨0, World.iter_heap W s 0, Lib.hid ((Below.refl _ W).alloc (Nat.le_refl _) _), HX, by omega⟩
  case round =>
    obtain ⟨pos, hit, HB, HE, hfu⟩ := hrel
    by_cases hps : pos < s.size
    · obtain ⟨g', rfl⟩ : ∃ g', gk = g' + 1 := ⟨gk - 1, by omega⟩
      have hnx : ∀ ty, (Instr.next (.pointer (some ⟨W.heap.size, 0, none⟩)) true ty).run Tryd.prog wr = _ := fun ty => Lib.run_next_any_at wr W.heap.size s pos ty hit hps
      have hwd := Lib.width_pos s pos
      obtain ⟨R, hR⟩ : ∃ R, (Utf8.decode s pos).1 = R := ⟨_, rfl⟩
      obtain ⟨K, hK⟩ : ∃ K, (Utf8.decode s pos).2 = K := ⟨_, rfl⟩
      have HE2 : Hid ((if R = 65533 ∧ Lib.hasPrefix (rest s pos) [239, 191, 189] = false then pos else badFrom s g' (pos + K)) = X) := Lib.hid (by
        have := HE.out
        conv at this => lhs; unfold badFrom
        rw [if_pos hps, hR, hK] at this
        exact this)
      have hRle : R ≤ 1114111 := by rw [← hR]; exact Lib.rune_le s pos
      rw [hR, hK] at hnx
      rw [hK] at hwd
      have hit2 := Lib.iterAt_heap wr W.heap.size s pos (pos + K) hit
      have HB2 := Lib.hid (Lib.below_iterAt HB.out (k := W.heap.size) (Nat.le_refl _) s (pos + K))
      obtain ⟨Y, hWd⟩ : ∃ Y, wr.iterAt W.heap.size s (pos + K) = Y := ⟨_, rfl⟩
      rw [hWd] at hnx hit2 HB2
      clear hR hK hWd
      have i0 : (0 : Int) ≤ (pos : Int) := by omega
      have i1 : (pos : Int) ≤ (s.size : Int) := by omega
      by_cases h1 : R = 65533
      · subst h1
        cases hv : Lib.hasPrefix (rest s pos) [239, 191, 189]
        · have hc : Lib.hasPrefix (s.extract pos s.size).data.toList [239, 191, 189] = false := by rw [rest_extract]; exact hv
          have HX1 : Hid (pos = X) := Lib.hid (by have := HE2.out; rw [hv] at this; simpa using this)
          have HC := Lib.hid (fun w => (HS.out pos w).mono fun e w' h => (⟨h.1.trans (congrArg (fun b => Ending.returned (.bool b)) hc), h.2⟩ : e = .returned (.bool false) ∧ w' = w))
          clear hv hc
          go_wp2_with (go_at_call 15; refine (HC.out _).mono ?_; rintro e w1 ⟨rfl, rfl⟩)
          go_ret
          rw [HX1.out]
          exact ⟨rfl, HB2.out⟩
        · have hc : Lib.hasPrefix (s.extract pos s.size).data.toList [239, 191, 189] = true := by rw [rest_extract]; exact hv
          have HX1 : Hid (badFrom s g' (pos + K) = X) := Lib.hid (by have := HE2.out; rw [hv] at this; simpa using this)
          have HC := Lib.hid (fun w => (HS.out pos w).mono fun e w' h => (⟨h.1.trans (congrArg (fun b => Ending.returned (.bool b)) hc), h.2⟩ : e = .returned (.bool true) ∧ w' = w))
          clear hv hc
          go_wp2_with (go_at_call 15; refine (HC.out _).mono ?_; rintro e w1 ⟨rfl, rfl⟩)
          go_roundg g'
          case measure => omega
          case rel => exact ⟨pos + K, hit2, HB2, HX1, by omega⟩
      · have h2 : ((R : Int) == 65533) = false := beq_eq_false_iff_ne.2 (by omega)
        have HX1 : Hid (badFrom s g' (pos + K) = X) := Lib.hid (by have := HE2.out; rw [if_neg (fun h => h1 h.1)] at this; exact this)
        clear h1
        go_wp2
        go_roundg g'
        case measure => omega
        case rel => exact ⟨pos + K, hit2, HB2, HX1, by omega⟩
    · have hnx : ∀ ty, (Instr.next (.pointer (some ⟨W.heap.size, 0, none⟩)) true ty).run Tryd.prog wr = _ := fun ty => Lib.run_next_end_at wr W.heap.size s pos ty hit hps
      have HX1 : Hid (s.size = X) := Lib.hid (by
        have := HE.out
        rw [show badFrom s gk pos = s.size by cases gk with
          | zero => rfl
          | succ n => unfold badFrom; rw [if_neg hps]] at this
        exact this)
      go_wp2
      go_ret
      rw [HX1.out]
      exact ⟨rfl, HB.out⟩
end Go.Proofs.YtpdepdigacpfiaaDoor
