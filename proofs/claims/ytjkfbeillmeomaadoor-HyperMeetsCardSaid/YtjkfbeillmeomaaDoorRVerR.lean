/-
  Layer 11: verifying, by the reference; HyperVerifies.
-/
import Derived.Test.YtjkfbeillmeomaaDoorRVer
namespace Go.Proofs.YtjkfbeillmeomaaDoor
set_option maxRecDepth 100000
open Go.ChangeShapes Go.WideShapes Go.ChangeAt Go.RowKit
end Go.Proofs.YtjkfbeillmeomaaDoor
