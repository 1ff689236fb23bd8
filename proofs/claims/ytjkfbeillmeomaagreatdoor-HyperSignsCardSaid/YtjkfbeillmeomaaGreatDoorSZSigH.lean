/-
  Layer 11: which signatures are formed (the reference).
-/
import Derived.Test.YtjkfbeillmeomaaGreatDoorSZSigG
namespace Go.Proofs.YtjkfbeillmeomaaGreatDoor
set_option maxRecDepth 100000
open Go.ChangeShapes Go.WideShapes Go.ChangeAt Go.RowKit
end Go.Proofs.YtjkfbeillmeomaaGreatDoor
