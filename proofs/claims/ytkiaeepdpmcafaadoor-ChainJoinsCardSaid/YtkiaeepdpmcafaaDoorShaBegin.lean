/-
  Contract of sha.begin: a hash to which nothing was written.
-/
import Derived.Test.YtkiaeepdpmcafaaDoorShaFin
namespace Go.Proofs.YtkiaeepdpmcafaaDoor
open Go.ChangeShapes Go.WideShapes Go.ChangeAt Go.RowKit

theorem size_hash : (Tryd.prog.info? 63).map (·.size) = some 73 := by kernel_rfl

/-- the cells of a new hash -/
def newHash : Array Value := (hashCells Sha.start (List.replicate 64 0) 0).toArray

set_option maxHeartbeats 2000000 in
set_option maxRecDepth 100000 in
theorem begin_any (w : World) (tab : ShaTab w) : Calls Tryd.prog 40 #[] w fun e w' => e = .returned (.agg newHash) ∧ Below w.heap.size w w' := by
  have hlt := tab.lt0
  obtain ⟨g0, g1, g2, g3, g4, g5, g6, g7⟩ := tab.start
  have HZ : Hid (Tryd.zeroCells63.size = 73) := hid (by kernel_rfl)
  have HN : Hid (newHash.size = 73) := hid (hashCells_size _ _ _ (by simp))
  go_enter Tryd.func40, Tryd.ntmps40
  go_wp2_with (refine wpList_store_blk rfl 63 _ _ rfl w.heap.size newHash rfl (by kernel_rfl) Tryd.zeroCells63 63 (Blk.new rfl _ _) 73 size_hash HZ.out HN.out (by kernel_rfl) ?_; intro w2 hb2 hk2)
  exact bodyPost_ret (v := .agg newHash) (results_blk Tryd.results40 _ w.heap.size rfl _ 63 hk2 _ Tryd.underlying63 rfl 73 size_hash HN.out) rfl ⟨rfl, hb2.below ((Below.refl _ _).alloc (Nat.le_refl _) _) (by rw [World.size_alloc]; omega) (Nat.le_refl _)⟩
end Go.Proofs.YtkiaeepdpmcafaaDoor
