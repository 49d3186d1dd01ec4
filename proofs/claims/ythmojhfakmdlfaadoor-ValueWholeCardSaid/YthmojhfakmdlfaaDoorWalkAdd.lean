/- What a call of num makes. -/
import Derived.Test.YthmojhfakmdlfaaDoorMem
import Derived.Test.YthmojhfakmdlfaaDoorMath2
namespace Go.Proofs.YthmojhfakmdlfaaDoor
open Go.RowKit
def Makes (lo : Nat) (w : World) (n : Nat) (e : Ending) (w' : World) : Prop := ∃ v, e = .returned v ∧ Sz lo w' v n ∧ Below lo w w'

end Go.Proofs.YthmojhfakmdlfaaDoor
