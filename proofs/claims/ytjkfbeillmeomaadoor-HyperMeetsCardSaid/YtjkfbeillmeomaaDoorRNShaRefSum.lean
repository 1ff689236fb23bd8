/-
  Contract of planchetref01.Sum: the document's answer.
-/
import Derived.Test.YtjkfbeillmeomaaDoorRMShaC
namespace Go.Proofs.YtjkfbeillmeomaaDoor
set_option maxRecDepth 100000
open Go.ChangeShapes Go.WideShapes Go.ChangeAt Go.RowKit
end Go.Proofs.YtjkfbeillmeomaaDoor
