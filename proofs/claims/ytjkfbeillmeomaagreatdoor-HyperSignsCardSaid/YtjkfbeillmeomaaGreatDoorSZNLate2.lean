/-
  Two components may come late.
-/
import Derived.Test.YtjkfbeillmeomaaGreatDoorSZNLate
namespace Go.Proofs.YtjkfbeillmeomaaGreatDoor
set_option maxRecDepth 100000
open Go.RowKit
section
variable {P : Program} {Q : Exit → Act → World → Prop}
end
end Go.Proofs.YtjkfbeillmeomaaGreatDoor
