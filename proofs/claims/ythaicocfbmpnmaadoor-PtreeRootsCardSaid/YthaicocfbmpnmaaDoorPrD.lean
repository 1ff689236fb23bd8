/-
  Layer 18: where one comes to by a proof that is not complete.
-/
import Derived.Test.YthaicocfbmpnmaaDoorPrC
namespace Go.Proofs.YthaicocfbmpnmaaDoor
open Go.ChangeShapes Go.WideShapes Go.ChangeAt Go.RowKit

theorem prC_one (d : List Int) (ad : Option Addr) (len cap : Nat) : (prC d (.slice ad len cap)).toArray.all (·.oneCell') = true := all_oneCell_toArray fun u hu => by
  simp only [prC, List.mem_append, List.mem_map, List.mem_singleton] at hu
  rcases hu with ⟨_, _, rfl⟩ | rfl <;> rfl

set_option maxHeartbeats 4000000 in
set_option maxRecDepth 100000 in
theorem climb_bad (x i d : List Int) (ad : Option Addr) (len cap : Nat) (w : World) (hd : Dg d) (hn : ¬ knN d 256 = len) :
    Calls Tryd.prog 29 #[.agg (x.map (Value.int .u8)).toArray, .agg (i.map (Value.int .u8)).toArray, .agg (prC d (.slice ad len cap)).toArray] w fun e w' => e = .returned (.tuple #[.agg (byteCells 32 []), .int .i64 2]) ∧ Below w.heap.size w w' := by
  have b1 := (Below.refl w.heap.size w).alloc (Nat.le_refl _) (.cells (x.map (Value.int .u8)).toArray 23 (0, 0))
  have b2 := b1.alloc b1.size (.cells (i.map (Value.int .u8)).toArray 23 (0, 0))
  have b3 := b2.alloc b2.size (.cells (prC d (.slice ad len cap)).toArray 46 (0, 0))
  have b4 := b3.alloc b3.size (.cells (byteCells 32 []) 23 (0, 0))
  have Kx := hid ((((Blk.new (w := w) (n := w.heap.size) rfl (x.map (Value.int .u8)).toArray 23).old (.cells (i.map (Value.int .u8)).toArray 23 (0, 0))).old (.cells (prC d (.slice ad len cap)).toArray 46 (0, 0))).old (.cells (byteCells 32 []) 23 (0, 0)))
  have Ki := hid (((Blk.new (w := (w.alloc (.cells (x.map (Value.int .u8)).toArray 23 (0, 0)))) (n := w.heap.size + 1) (by simp only [World.size_alloc]) (i.map (Value.int .u8)).toArray 23).old (.cells (prC d (.slice ad len cap)).toArray 46 (0, 0))).old (.cells (byteCells 32 []) 23 (0, 0)))
  have Kp := hid ((Blk.new (w := ((w.alloc (.cells (x.map (Value.int .u8)).toArray 23 (0, 0))).alloc (.cells (i.map (Value.int .u8)).toArray 23 (0, 0)))) (n := w.heap.size + 1 + 1) (by simp only [World.size_alloc]) (prC d (.slice ad len cap)).toArray 46).old (.cells (byteCells 32 []) 23 (0, 0)))
  have Kr := hid (Blk.new (w := (((w.alloc (.cells (x.map (Value.int .u8)).toArray 23 (0, 0))).alloc (.cells (i.map (Value.int .u8)).toArray 23 (0, 0))).alloc (.cells (prC d (.slice ad len cap)).toArray 46 (0, 0)))) (n := w.heap.size + 1 + 1 + 1) (by simp only [World.size_alloc]) (byteCells 32 []) 23)
  have Hb := hid b4
  have hbz := b4.size
  have Hbs := hid (show w.heap.size + 1 + 1 + 1 + 1 = ((((w.alloc (.cells (x.map (Value.int .u8)).toArray 23 (0, 0))).alloc (.cells (i.map (Value.int .u8)).toArray 23 (0, 0))).alloc (.cells (prC d (.slice ad len cap)).toArray 46 (0, 0))).alloc (.cells (byteCells 32 []) 23 (0, 0))).heap.size by simp only [World.size_alloc])
  clear b1 b2 b3 b4 
  go_enter Tryd.func29, Tryd.ntmps29
  go_wp2_with (refine wpList_load_blk rfl 46 _ rfl (w.heap.size + 1 + 1) rfl _ 46 Kp.out _ Tryd.underlying46 rfl 33 size_proof (prC_size hd _) ?_)
  have CK := hid (fun W : World => complete_any d ad len cap W hd)
  rw [decide_eq_false hn] at CK
  refine (CK.out _).mono ?_
  rintro e w1 ⟨rfl, bw1⟩
  have HBw1 := hid (Below.on Hb.out bw1)
  have hsw1 := HBw1.out.size
  have Kxw1 := hid (Kx.out.below bw1)
  have Kiw1 := hid (Ki.out.below bw1)
  have Kpw1 := hid (Kp.out.below bw1)
  have Krw1 := hid (Kr.out.below bw1)
  clear bw1
  go_wp2_with (
      refine wpList_store_blk rfl 23 _ _ rfl (w.heap.size + 1 + 1 + 1) (byteCells 32 []) rfl rfl _ 23 Krw1.out 32 size_digest zsize zsize (by decide +kernel) ?_
      intro w9 hb9 hk9
      have HB9 := hid (hb9.below HBw1.out HBw1.out.size (by omega))
      have HK9 := hid hk9
      clear hb9 hk9)
  exact bodyPost_ret (v := .tuple #[.agg (byteCells 32 []), .int .i64 2]) (results_blk_tmp Tryd.results29 _ (w.heap.size + 1 + 1 + 1) rfl _ rfl _ 23 HK9.out _ Tryd.underlying23 rfl 32 size_digest zsize) rfl ⟨rfl, HB9.out⟩
end Go.Proofs.YthaicocfbmpnmaaDoor
