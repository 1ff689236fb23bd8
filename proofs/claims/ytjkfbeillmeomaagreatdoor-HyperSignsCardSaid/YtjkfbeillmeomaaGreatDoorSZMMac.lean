/-
  Mac, MacCode: one text.
-/
import Derived.Test.YtjkfbeillmeomaaGreatDoorSZMDig
import Derived.Test.YtjkfbeillmeomaaGreatDoorSZMNum
import Derived.Test.YtjkfbeillmeomaaGreatDoorSZNFlow
import Derived.Test.YtjkfbeillmeomaaGreatDoorSZNShaRefSum
namespace Go.Proofs.YtjkfbeillmeomaaGreatDoor
set_option maxRecDepth 100000
open Go.ChangeShapes Go.WideShapes Go.ChangeAt Go.RowKit
end Go.Proofs.YtjkfbeillmeomaaGreatDoor
namespace Go.Proofs.YtjkfbeillmeomaaGreatDoor
set_option maxRecDepth 100000
open Go.ChangeShapes Go.WideShapes Go.ChangeAt Go.RowKit
theorem info_text : (Tryz.prog.info? 44).map (fun i => (i.zero, i.size, i.bytes)) = some (some (.slice none 0 0), 1, 24) := by kernel_rfl
end Go.Proofs.YtjkfbeillmeomaaGreatDoor
