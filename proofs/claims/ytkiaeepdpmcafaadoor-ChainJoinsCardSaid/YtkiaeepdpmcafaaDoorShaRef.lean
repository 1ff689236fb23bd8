/-
  Contracts of planchetref01: keys; Sum, the document's answer.
-/
import Derived.Test.YtkiaeepdpmcafaaDoorShaRefPad
import Derived.Test.YtkiaeepdpmcafaaDoorShaFin
namespace Go.Proofs.YtkiaeepdpmcafaaDoor
open Go.ChangeShapes Go.WideShapes Go.ChangeAt Go.RowKit

set_option maxHeartbeats 2000000 in
set_option maxRecDepth 100000 in
theorem keys_any (w : World) : Calls Tryd.prog 43 #[] w fun e w' => ∃ g, e = .returned (.slice (some ⟨g, 0, none⟩) 64 64) ∧ w.heap.size ≤ g ∧ Blk w' g (wordCells 64 Sha.keys) 43 ∧ Below w.heap.size w w' := by
  have hk := Blk.new (w := w) rfl (wordCells 64 Sha.keys) 43
  have hb := (Below.refl w.heap.size w).alloc (Nat.le_refl _) (.cells (wordCells 64 Sha.keys) 43 (0, 0))
  have Hk := hid (And.intro hk hb)
  clear hk hb
  go_enter Tryd.func43, Tryd.ntmps43
  go_wp2_with fail
  go_ret
  exact ⟨w.heap.size, rfl, Nat.le_refl _, Hk.out.1, Hk.out.2⟩
end Go.Proofs.YtkiaeepdpmcafaaDoor
