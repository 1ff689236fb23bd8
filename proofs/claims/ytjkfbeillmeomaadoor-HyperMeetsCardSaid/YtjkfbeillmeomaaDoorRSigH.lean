/-
  Layer 11: which signatures are formed (the reference).
-/
import Derived.Test.YtjkfbeillmeomaaDoorRSigG
namespace Go.Proofs.YtjkfbeillmeomaaDoor
set_option maxRecDepth 100000
open Go.ChangeShapes Go.WideShapes Go.ChangeAt Go.RowKit
end Go.Proofs.YtjkfbeillmeomaaDoor
