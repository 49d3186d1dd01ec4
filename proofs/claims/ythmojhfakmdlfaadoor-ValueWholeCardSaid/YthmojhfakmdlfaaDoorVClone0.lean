/- Clone of a scalar. -/
import Derived.Test.YthmojhfakmdlfaaDoorVVals
import Derived.Test.YthmojhfakmdlfaaDoorShelf
namespace Go.Proofs.YthmojhfakmdlfaaDoor
open Go.RowKit

set_option maxRecDepth 100000 in
theorem cloneAll_nil (w : World) : Calls Tryd.prog 35 #[.slice none 0 0] w fun e w' => e = .returned (.slice none 0 0) ∧ w = w' := by
  have he : ∀ W : World, (binOp .eql 23 (.slice none 0 0) (.slice none 0 0)).run Tryd.prog W = .ok (.bool true) W := fun _ => rfl
  go_enter Tryd.func35, Tryd.ntmps35
  go_wp2
  go_ret
  exact ⟨rfl, rfl⟩
theorem cloneKeys_nil (w : World) : Calls Tryd.prog 36 #[.slice none 0 0] w fun e w' => e = .returned (.slice none 0 0) ∧ w = w' :=
  (Tryd.slices_Clone_string_nil 0 0 w).mono fun _ _ ⟨h1, h2⟩ => ⟨h1, h2.symm⟩
set_option maxRecDepth 100000 in
set_option maxHeartbeats 1000000 in
theorem clone_scal (k : Int) (b : Bool) (t : ByteArray) (w : World) : Calls Tryd.prog 22 #[scal k b t] w fun e w' => e = .returned (scal k b t) ∧ Below w.heap.size w w' := by
  have HC := Lib.hid (fun W => cloneKeys_nil W)
  have HA := Lib.hid (fun W => cloneAll_nil W)
  unfold scal
  go_enter Tryd.func22, Tryd.ntmps22
  go_wp2_with (first
    | (go_at_call 36; refine (HC.out _).mono ?_; rintro e w' ⟨rfl, rfl⟩)
    | (go_at_call 35; refine (HA.out _).mono ?_; rintro e w' ⟨rfl, rfl⟩))
  refine bodyPost_ret (v := scal k b t) ?_ rfl ⟨rfl, (below_new _ _).alloc (by simp) _⟩
  simp [results, Tryd.results22, go_sem, scal]
end Go.Proofs.YthmojhfakmdlfaaDoor
