/-
  Mac, MacCode: one text.
-/
import Derived.Test.YthaicocfbmpnmaaDoorLMDig
import Derived.Test.YthaicocfbmpnmaaDoorLMNum
import Derived.Test.YthaicocfbmpnmaaDoorLNFlow
import Derived.Test.YthaicocfbmpnmaaDoorLNShaRefSum
namespace Go.Proofs.YthaicocfbmpnmaaDoor
open Go.ChangeShapes Go.WideShapes Go.ChangeAt Go.RowKit

set_option maxRecDepth 100000 in
theorem size_64 : (Tryd.prog.info? 107).map (·.size) = some 64 := by kernel_rfl
set_option maxRecDepth 100000 in
theorem zsize64 : (byteCells 64 []).size = 64 := byteCells_size 64 [] (by simp)

end Go.Proofs.YthaicocfbmpnmaaDoor

namespace Go.Proofs.YthaicocfbmpnmaaDoor
open Go.ChangeShapes Go.WideShapes Go.ChangeAt Go.RowKit

set_option maxRecDepth 100000 in
theorem info_text : (Tryd.prog.info? 67).map (fun i => (i.zero, i.size, i.bytes)) = some (some (.slice none 0 0), 1, 24) := by kernel_rfl

end Go.Proofs.YthaicocfbmpnmaaDoor
