/-
  Mac, MacCode: one text.
-/
import Derived.Test.YtjkfbeillmeomaaDoorRMDig
import Derived.Test.YtjkfbeillmeomaaDoorRMNum
import Derived.Test.YtjkfbeillmeomaaDoorRNFlow
import Derived.Test.YtjkfbeillmeomaaDoorRNShaRefSum
namespace Go.Proofs.YtjkfbeillmeomaaDoor
set_option maxRecDepth 100000
open Go.ChangeShapes Go.WideShapes Go.ChangeAt Go.RowKit
end Go.Proofs.YtjkfbeillmeomaaDoor
namespace Go.Proofs.YtjkfbeillmeomaaDoor
set_option maxRecDepth 100000
open Go.ChangeShapes Go.WideShapes Go.ChangeAt Go.RowKit
theorem info_text : (Tryd.prog.info? 81).map (fun i => (i.zero, i.size, i.bytes)) = some (some (.slice none 0 0), 1, 24) := by kernel_rfl
end Go.Proofs.YtjkfbeillmeomaaDoor
