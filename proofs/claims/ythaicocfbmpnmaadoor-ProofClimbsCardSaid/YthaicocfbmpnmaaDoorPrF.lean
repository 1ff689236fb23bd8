/-
  Layer 18: what a proof leads to.
-/
import Derived.Test.YthaicocfbmpnmaaDoorPrD
namespace Go.Proofs.YthaicocfbmpnmaaDoor
open Go.ChangeShapes Go.WideShapes Go.ChangeAt Go.RowKit


set_option maxHeartbeats 4000000 in
set_option maxRecDepth 100000 in
theorem leads_ok (x o i d T : List Int) (ad : Option Addr) (len cap : Nat) (ns : List (List Int)) (w : World) (hx : Dg x) (ho : Dg o) (hi : Dg i) (hd : Dg d) (hT : Dg T) (hns : DigsAt w ad len cap ns) (tab : ShaTab w)
    (cu : ∀ W : World, DigsAt W ad len cap ns → ShaTab W → Calls Tryd.prog 29 #[.agg (x.map (Value.int .u8)).toArray, .agg (i.map (Value.int .u8)).toArray, .agg (prC d (.slice ad len cap)).toArray] W fun e w' => e = .returned (.tuple #[.agg (T.map (Value.int .u8)).toArray, .int .i64 0]) ∧ Below W.heap.size W w') :
    Calls Tryd.prog 60 #[.agg (x.map (Value.int .u8)).toArray, .agg (o.map (Value.int .u8)).toArray, .agg (i.map (Value.int .u8)).toArray, .agg (prC d (.slice ad len cap)).toArray] w fun e w' => e = .returned (.bool (decide (T = o))) ∧ Below w.heap.size w w' := by
  have b1 := (Below.refl w.heap.size w).alloc (Nat.le_refl _) (.cells (x.map (Value.int .u8)).toArray 23 (0, 0))
  have b2 := b1.alloc b1.size (.cells (o.map (Value.int .u8)).toArray 23 (0, 0))
  have b3 := b2.alloc b2.size (.cells (i.map (Value.int .u8)).toArray 23 (0, 0))
  have b4 := b3.alloc b3.size (.cells (prC d (.slice ad len cap)).toArray 46 (0, 0))
  have Kx := hid ((((Blk.new (w := w) (n := w.heap.size) rfl (x.map (Value.int .u8)).toArray 23).old (.cells (o.map (Value.int .u8)).toArray 23 (0, 0))).old (.cells (i.map (Value.int .u8)).toArray 23 (0, 0))).old (.cells (prC d (.slice ad len cap)).toArray 46 (0, 0)))
  have Ko := hid (((Blk.new (w := (w.alloc (.cells (x.map (Value.int .u8)).toArray 23 (0, 0)))) (n := w.heap.size + 1) (by simp only [World.size_alloc]) (o.map (Value.int .u8)).toArray 23).old (.cells (i.map (Value.int .u8)).toArray 23 (0, 0))).old (.cells (prC d (.slice ad len cap)).toArray 46 (0, 0)))
  have Ki := hid ((Blk.new (w := ((w.alloc (.cells (x.map (Value.int .u8)).toArray 23 (0, 0))).alloc (.cells (o.map (Value.int .u8)).toArray 23 (0, 0)))) (n := w.heap.size + 1 + 1) (by simp only [World.size_alloc]) (i.map (Value.int .u8)).toArray 23).old (.cells (prC d (.slice ad len cap)).toArray 46 (0, 0)))
  have Kp := hid (Blk.new (w := (((w.alloc (.cells (x.map (Value.int .u8)).toArray 23 (0, 0))).alloc (.cells (o.map (Value.int .u8)).toArray 23 (0, 0))).alloc (.cells (i.map (Value.int .u8)).toArray 23 (0, 0)))) (n := w.heap.size + 1 + 1 + 1) (by simp only [World.size_alloc]) (prC d (.slice ad len cap)).toArray 46)
  have Hb := hid b4
  have hbz := b4.size
  have Hbs := hid (show w.heap.size + 1 + 1 + 1 + 1 = ((((w.alloc (.cells (x.map (Value.int .u8)).toArray 23 (0, 0))).alloc (.cells (o.map (Value.int .u8)).toArray 23 (0, 0))).alloc (.cells (i.map (Value.int .u8)).toArray 23 (0, 0))).alloc (.cells (prC d (.slice ad len cap)).toArray 46 (0, 0))).heap.size by simp only [World.size_alloc])
  clear b1 b2 b3 b4 
  go_enter Tryd.func60, Tryd.ntmps60
  go_wp2_with (first
     | (refine wpList_load_blk rfl 23 _ rfl (w.heap.size) rfl _ 23 Kx.out _ Tryd.underlying23 rfl 32 size_digest hx.size ?_)
     | (refine wpList_load_blk rfl 23 _ rfl (w.heap.size + 1 + 1) rfl _ 23 Ki.out _ Tryd.underlying23 rfl 32 size_digest hi.size ?_)
     | (refine wpList_load_blk rfl 46 _ rfl (w.heap.size + 1 + 1 + 1) rfl _ 46 Kp.out _ Tryd.underlying46 rfl 33 size_proof (prC_size hd _) ?_))
  refine (cu _ (hns.below Hb.out) (tab.below Hb.out)).mono ?_
  rintro e w1 ⟨rfl, bw1⟩
  have HBw1 := hid (Below.on Hb.out bw1)
  have hsw1 := HBw1.out.size
  have Kxw1 := hid (Kx.out.below bw1)
  have Kow1 := hid (Ko.out.below bw1)
  have Kiw1 := hid (Ki.out.below bw1)
  have Kpw1 := hid (Kp.out.below bw1)
  clear bw1
  have q1 := fun W => eqD T o hT.len ho.len W
  go_wp2_with (first
     | (
        refine wpList_store_blk rfl 23 _ _ rfl (w1.heap.size) (T.map (Value.int .u8)).toArray rfl rfl _ 23 (Blk.new rfl (byteCells 32 []) _) 32 size_digest zsize hT.size (ints_one _ _) ?_
        intro w2 hbw2 hkw2
        have hw2 := hbw2.below ((Below.refl w1.heap.size w1).alloc (Nat.le_refl _) _) (by simp only [World.size_alloc]; omega) (Nat.le_refl _)
        have HBw2 := hid (Below.on HBw1.out hw2)
        have hsw2 := HBw2.out.size
        have Kxw2 := hid (Kxw1.out.below hw2)
        have hlxw2 := Kxw1.out.lt
        have Kow2 := hid (Kow1.out.below hw2)
        have hlow2 := Kow1.out.lt
        have Kiw2 := hid (Kiw1.out.below hw2)
        have hliw2 := Kiw1.out.lt
        have Kpw2 := hid (Kpw1.out.below hw2)
        have hlpw2 := Kpw1.out.lt
        have Ktw2 := hid hkw2
        have hfw2 : w.heap.size ≤ w1.heap.size := HBw1.out.size
        clear hbw2 hkw2 hw2)
     | (refine wpList_load_blk_if (by first | rfl | go_simp) 23 _ rfl (w1.heap.size) rfl _ 23 Ktw2.out _ Tryd.underlying23 rfl 32 size_digest hT.size ?_)
     | (refine wpList_load_blk_if (by first | rfl | go_simp) 23 _ rfl (w.heap.size + 1) rfl _ 23 Kow2.out _ Tryd.underlying23 rfl 32 size_digest ho.size ?_))
  go_returns
  exact ⟨by first | rfl | simp, HBw2.out⟩

set_option maxHeartbeats 4000000 in
set_option maxRecDepth 100000 in
theorem leads_no (x o i d T : List Int) (ad : Option Addr) (len cap : Nat) (ns : List (List Int)) (w : World) (hx : Dg x) (hi : Dg i) (hd : Dg d) (hT : Dg T) (hns : DigsAt w ad len cap ns) (tab : ShaTab w)
    (cu : ∀ W : World, DigsAt W ad len cap ns → ShaTab W → Calls Tryd.prog 29 #[.agg (x.map (Value.int .u8)).toArray, .agg (i.map (Value.int .u8)).toArray, .agg (prC d (.slice ad len cap)).toArray] W fun e w' => e = .returned (.tuple #[.agg (T.map (Value.int .u8)).toArray, .int .i64 2]) ∧ Below W.heap.size W w') :
    Calls Tryd.prog 60 #[.agg (x.map (Value.int .u8)).toArray, .agg (o.map (Value.int .u8)).toArray, .agg (i.map (Value.int .u8)).toArray, .agg (prC d (.slice ad len cap)).toArray] w fun e w' => e = .returned (.bool false) ∧ Below w.heap.size w w' := by
  have b1 := (Below.refl w.heap.size w).alloc (Nat.le_refl _) (.cells (x.map (Value.int .u8)).toArray 23 (0, 0))
  have b2 := b1.alloc b1.size (.cells (o.map (Value.int .u8)).toArray 23 (0, 0))
  have b3 := b2.alloc b2.size (.cells (i.map (Value.int .u8)).toArray 23 (0, 0))
  have b4 := b3.alloc b3.size (.cells (prC d (.slice ad len cap)).toArray 46 (0, 0))
  have Kx := hid ((((Blk.new (w := w) (n := w.heap.size) rfl (x.map (Value.int .u8)).toArray 23).old (.cells (o.map (Value.int .u8)).toArray 23 (0, 0))).old (.cells (i.map (Value.int .u8)).toArray 23 (0, 0))).old (.cells (prC d (.slice ad len cap)).toArray 46 (0, 0)))
  have Ko := hid (((Blk.new (w := (w.alloc (.cells (x.map (Value.int .u8)).toArray 23 (0, 0)))) (n := w.heap.size + 1) (by simp only [World.size_alloc]) (o.map (Value.int .u8)).toArray 23).old (.cells (i.map (Value.int .u8)).toArray 23 (0, 0))).old (.cells (prC d (.slice ad len cap)).toArray 46 (0, 0)))
  have Ki := hid ((Blk.new (w := ((w.alloc (.cells (x.map (Value.int .u8)).toArray 23 (0, 0))).alloc (.cells (o.map (Value.int .u8)).toArray 23 (0, 0)))) (n := w.heap.size + 1 + 1) (by simp only [World.size_alloc]) (i.map (Value.int .u8)).toArray 23).old (.cells (prC d (.slice ad len cap)).toArray 46 (0, 0)))
  have Kp := hid (Blk.new (w := (((w.alloc (.cells (x.map (Value.int .u8)).toArray 23 (0, 0))).alloc (.cells (o.map (Value.int .u8)).toArray 23 (0, 0))).alloc (.cells (i.map (Value.int .u8)).toArray 23 (0, 0)))) (n := w.heap.size + 1 + 1 + 1) (by simp only [World.size_alloc]) (prC d (.slice ad len cap)).toArray 46)
  have Hb := hid b4
  have hbz := b4.size
  have Hbs := hid (show w.heap.size + 1 + 1 + 1 + 1 = ((((w.alloc (.cells (x.map (Value.int .u8)).toArray 23 (0, 0))).alloc (.cells (o.map (Value.int .u8)).toArray 23 (0, 0))).alloc (.cells (i.map (Value.int .u8)).toArray 23 (0, 0))).alloc (.cells (prC d (.slice ad len cap)).toArray 46 (0, 0))).heap.size by simp only [World.size_alloc])
  clear b1 b2 b3 b4 
  go_enter Tryd.func60, Tryd.ntmps60
  go_wp2_with (first
     | (refine wpList_load_blk rfl 23 _ rfl (w.heap.size) rfl _ 23 Kx.out _ Tryd.underlying23 rfl 32 size_digest hx.size ?_)
     | (refine wpList_load_blk rfl 23 _ rfl (w.heap.size + 1 + 1) rfl _ 23 Ki.out _ Tryd.underlying23 rfl 32 size_digest hi.size ?_)
     | (refine wpList_load_blk rfl 46 _ rfl (w.heap.size + 1 + 1 + 1) rfl _ 46 Kp.out _ Tryd.underlying46 rfl 33 size_proof (prC_size hd _) ?_))
  refine (cu _ (hns.below Hb.out) (tab.below Hb.out)).mono ?_
  rintro e w1 ⟨rfl, bw1⟩
  have HBw1 := hid (Below.on Hb.out bw1)
  have hsw1 := HBw1.out.size
  have Kxw1 := hid (Kx.out.below bw1)
  have Kow1 := hid (Ko.out.below bw1)
  have Kiw1 := hid (Ki.out.below bw1)
  have Kpw1 := hid (Kp.out.below bw1)
  clear bw1
  go_wp2_with (
        refine wpList_store_blk rfl 23 _ _ rfl (w1.heap.size) (T.map (Value.int .u8)).toArray rfl rfl _ 23 (Blk.new rfl (byteCells 32 []) _) 32 size_digest zsize hT.size (ints_one _ _) ?_
        intro w2 hbw2 hkw2
        have hw2 := hbw2.below ((Below.refl w1.heap.size w1).alloc (Nat.le_refl _) _) (by simp only [World.size_alloc]; omega) (Nat.le_refl _)
        have HBw2 := hid (Below.on HBw1.out hw2)
        have hsw2 := HBw2.out.size
        have Kxw2 := hid (Kxw1.out.below hw2)
        have hlxw2 := Kxw1.out.lt
        have Kow2 := hid (Kow1.out.below hw2)
        have hlow2 := Kow1.out.lt
        have Kiw2 := hid (Kiw1.out.below hw2)
        have hliw2 := Kiw1.out.lt
        have Kpw2 := hid (Kpw1.out.below hw2)
        have hlpw2 := Kpw1.out.lt
        have Ktw2 := hid hkw2
        have hfw2 : w.heap.size ≤ w1.heap.size := HBw1.out.size
        clear hbw2 hkw2 hw2)
  go_returns
  exact ⟨by first | rfl | simp, HBw2.out⟩
end Go.Proofs.YthaicocfbmpnmaaDoor
