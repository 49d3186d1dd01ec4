/- SyntaxForms, whatever the input -/
import Derived.Test.YtljgggohjigaoaaGreatDoorSf05
namespace Go.Proofs.YtljgggohjigaoaaGreatDoor
open Go.RowKit Go.Shelf
theorem forms_any {W : World} (t : ByteArray) (hW : ReadyP W) : Calls Tryz.prog 3 #[.string t] W fun e w' => e = .returned (.bool true) ∧ Below W.heap.size W w' := by
  cases hp : parseF (t.extract 0 (min t.size 6000)) with
  | error bd => exact forms_bad hp hW
  | ok f => exact forms_ok hp hW
end Go.Proofs.YtljgggohjigaoaaGreatDoor
