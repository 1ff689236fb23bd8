/-
  Layer 11: keys, and what is refused: the walks.
-/
import Derived.Test.YtjkfbeillmeomaaDoorQHyper2
namespace Go.Proofs.YtjkfbeillmeomaaDoor
set_option maxRecDepth 100000
open Go.ChangeShapes Go.WideShapes Go.ChangeAt Go.RowKit
theorem zPub_size : zPub.toArray.size = 66 := by decide
theorem zSig_size : zSig.toArray.size = 34 := by decide
set_option maxHeartbeats 4000000 in
theorem key_bad (L V : Int) (vs : Array Value) (w : World) (hr : rightS L V = false) : Calls Tryd.prog 47 #[.agg (shC L V), .agg vs] w fun e w' => e = .returned (.tuple #[.agg (pubC 0 0 zD zD).toArray, .int .i64 1]) ∧ Below w.heap.size w w' := by
  have b1 := (Below.refl w.heap.size w).alloc (Nat.le_refl _) (.cells (shC L V) 63 (0, 0))
  have b2 := b1.alloc b1.size (.cells vs 48 (0, 0))
  have b3 := b2.alloc b2.size (.cells zPub.toArray 68 (0, 0))
  have Ksh := hid (((Blk.new (w := w) (n := w.heap.size) rfl (shC L V) 63).old (.cells vs 48 (0, 0))).old (.cells zPub.toArray 68 (0, 0)))
  have Kse := hid ((Blk.new (w := w.alloc (.cells (shC L V) 63 (0, 0))) (n := w.heap.size + 1) (by simp only [World.size_alloc]) vs 48).old (.cells zPub.toArray 68 (0, 0)))
  have Kr := hid (Blk.new (w := (w.alloc (.cells (shC L V) 63 (0, 0))).alloc (.cells vs 48 (0, 0))) (n := w.heap.size + 1 + 1) (by simp only [World.size_alloc]) zPub.toArray 68)
  have Hb := hid b3
  have hs3 := b3.size
  have HzA := hid zsize
  clear b1 b2 b3
  go_enter Tryd.func47, Tryd.ntmps47
  go_wp2_with (refine wpList_load_blk rfl 63 _ rfl (w.heap.size) rfl _ 63 Ksh.out _ Tryd.underlying63 rfl 2 size_shape rfl ?_)
  refine (hright_b L V false hr _).mono ?_
  rintro e w1 ⟨rfl, bw1⟩
  have HBw1 := hid (Below.on Hb.out bw1)
  have hsw1 := HBw1.out.size
  have Kshw1 := hid (Ksh.out.below bw1)
  have Ksew1 := hid (Kse.out.below bw1)
  have Krw1 := hid (Kr.out.below bw1)
  clear bw1
  go_wp2_with (
      refine wpList_store_blk rfl 68 _ _ rfl (w.heap.size + 1 + 1) (pubC 0 0 zD zD).toArray rfl rfl _ 68 Krw1.out 66 size_public zPub_size zPub_size (pubC_ones _ _ _ _) ?_
      intro w9 hb9 hk9
      have HB9 := hid (hb9.below HBw1.out HBw1.out.size (by omega))
      have HK9 := hid hk9
      clear hb9 hk9)
  exact bodyPost_ret (v := .tuple #[.agg (pubC 0 0 zD zD).toArray, .int .i64 1]) (results_blk_tmp Tryd.results47 _ (w.heap.size + 1 + 1) rfl _ rfl _ 68 HK9.out _ Tryd.underlying68 rfl 66 size_public zPub_size) rfl ⟨rfl, HB9.out⟩
end Go.Proofs.YtjkfbeillmeomaaDoor
