/-
  Layer 11: which signatures are formed (the program).
-/
import Derived.Test.YtjkfbeillmeomaaGreatDoorSZSigF
namespace Go.Proofs.YtjkfbeillmeomaaGreatDoor
set_option maxRecDepth 100000
open Go.ChangeShapes Go.WideShapes Go.ChangeAt Go.RowKit
/-- Has a signature the parts that a shape asks for? -/
def formB (L V i : Int) (ps : List Prt) : Bool := rightS L V && decide (0 ≤ i) && decide (i < manyS L V) && decide ((ps.length : Int) = L) && decide (∀ j, j < ps.length → (ps.getD j ([], [])).1.length = 67 ∧ ((ps.getD j ([], [])).2.length : Int) = V)
end Go.Proofs.YtjkfbeillmeomaaGreatDoor
