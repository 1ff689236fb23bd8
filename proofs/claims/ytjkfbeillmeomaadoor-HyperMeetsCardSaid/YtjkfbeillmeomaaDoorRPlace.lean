/-
  Layer 11: places, and the root that a part leads to.
-/
import Derived.Test.YtjkfbeillmeomaaDoorRSigF
namespace Go.Proofs.YtjkfbeillmeomaaDoor
set_option maxRecDepth 100000
open Go.ChangeShapes Go.WideShapes Go.ChangeAt Go.RowKit
theorem size_place : (Tryd.prog.info? 142).map (·.size) = some 4 := by kernel_rfl
/-- What a part of a signature of a digest leads to. -/
@[irreducible] def rootZ (pub : List Int) (V : Nat) (la tr leaf : Int) (o a : List (List Int)) (m : List Int) : List Int :=
  climbZ pub (treeZ la tr) leaf a (compZ pub (ltrZ la tr leaf) 67 0 (rowW (fromP o m pub (otsZ la tr leaf)))) V
set_option maxHeartbeats 4000000 in
theorem within_1 (la0 tr leaf0 la : Int) (w : World) (h0 : 0 ≤ tr) (h1 : tr < 18446744073709551616) :
    Calls Tryd.prog 129 #[.agg #[.int .u32 la0, .int .u64 tr, .int .i64 leaf0, .int .i64 1], .int .u32 la] w fun e w' => e = .returned (.agg #[.int .u32 la, .int .u64 (tr / 2), .int .i64 (tr % 2), .int .i64 1]) ∧ Below w.heap.size w w' := by
  have b1 := (Below.refl w.heap.size w).alloc (Nat.le_refl _) (.cells #[.int .u32 la0, .int .u64 tr, .int .i64 leaf0, .int .i64 1] 142 (0, 0))
  have b2 := b1.alloc b1.size (.cells #[.int .u32 0, .int .u64 0, .int .i64 0, .int .i64 0] 142 (0, 0))
  have Kp := hid ((Blk.new (w := w) (n := w.heap.size) rfl #[.int .u32 la0, .int .u64 tr, .int .i64 leaf0, .int .i64 1] 142).old (.cells #[.int .u32 0, .int .u64 0, .int .i64 0, .int .i64 0] 142 (0, 0)))
  have Kr := hid (Blk.new (w := (w.alloc (.cells #[.int .u32 la0, .int .u64 tr, .int .i64 leaf0, .int .i64 1] 142 (0, 0)))) (n := w.heap.size + 1) (by simp only [World.size_alloc]) #[.int .u32 0, .int .u64 0, .int .i64 0, .int .i64 0] 142)
  have Hb := hid b2
  have hbz := b2.size
  have Hbs := hid (show w.heap.size + 1 + 1 = ((w.alloc (.cells #[.int .u32 la0, .int .u64 tr, .int .i64 leaf0, .int .i64 1] 142 (0, 0))).alloc (.cells #[.int .u32 0, .int .u64 0, .int .i64 0, .int .i64 0] 142 (0, 0))).heap.size by simp only [World.size_alloc])
  clear b1 b2 
  go_enter Tryd.func129, Tryd.ntmps129
  go_wp2_with fail
  refine wp_region_flow 13 (List.range 13) [] [] (by kernel_rfl) (by kernel_rfl) ?_
  apply Exists.intro
  refine ⟨fun w0 hb0 hF0 => ?_, ?_⟩
  · skip
    have y0 : ∀ w', (∃ x : Ext w0, w' = x.at_) → w'.cell? ⟨w.heap.size, 1, none⟩ = some (.int .u64 tr) := fun w' ⟨x, hx⟩ => by rw [hx, ((Kp.out.below hb0).below x.same).cell]; rfl
    have y1 : ∀ w', (∃ x : Ext w0, w' = x.at_) → w'.cell? ⟨w.heap.size, 3, none⟩ = some (.int .i64 1) := fun w' ⟨x, hx⟩ => by rw [hx, ((Kp.out.below hb0).below x.same).cell]; rfl
    have hw : wrap64 (tr % 2) = tr % 2 := by unfold wrap64; omega
    simp only [pick, List.range, List.range.loop, List.getElem?_toArray, List.getElem?_cons_succ, List.getElem?_cons_zero, Option.toList_some, List.cons_append, List.nil_append]
    repeat (first | (go_big_quiet_want; refine quiet_load_one 49 _ rfl ⟨w.heap.size, 1, none⟩ rfl _ y0 _ Tryd.underlying49 rfl ?_; go_big_quiet_on; simp only [Act.put, List.setIfInBounds_toArray, List.set_cons_zero, List.set_cons_succ]) | (go_big_quiet_want; refine quiet_load_one 3 _ rfl ⟨w.heap.size, 3, none⟩ rfl _ y1 _ Tryd.underlying3 rfl ?_; go_big_quiet_on; simp only [Act.put, List.setIfInBounds_toArray, List.set_cons_zero, List.set_cons_succ]) | go_big_quiet_step (fail))
    exact wpQuiet_nil rfl
  refine AlChk.nil ?_
  refine Walk.fin fun w1 hw1 _ _ => ?_
  simp only [List.drop_succ_cons, List.drop_zero]
  have HBw1 := hid (Below.on Hb.out hw1)
  have hsw1 := HBw1.out.size
  have Kpw1 := hid (Kp.out.below hw1)
  have Krw1 := hid (Kr.out.below hw1)
  clear hw1
  have Kpw2 : Hid (Blk ((((w1.setCell ⟨w.heap.size + 1, 0, none⟩ (.int .u32 la)).setCell ⟨w.heap.size + 1, 1, none⟩ (.int .u64 (tr / 2))).setCell ⟨w.heap.size + 1, 2, none⟩ (.int .i64 (tr % 2))).setCell ⟨w.heap.size + 1, 3, none⟩ (.int .i64 1)) (w.heap.size) #[.int .u32 la0, .int .u64 tr, .int .i64 leaf0, .int .i64 1] 142) := hid (Blk.setAll_other (b := w.heap.size + 1) (by have := Kpw1.out.lt; omega) [.int .u32 la, .int .u64 (tr / 2), .int .i64 (tr % 2), .int .i64 1] 0 _ Kpw1.out)
  have q0w2 := (Krw1.out.cell 0).trans (show _ = some _ from rfl)
  have r0w2 := Krw1.out.free 0
  have q1w2 := (Krw1.out.cell 1).trans (show _ = some _ from rfl)
  have r1w2 := Krw1.out.free 1
  have q2w2 := (Krw1.out.cell 2).trans (show _ = some _ from rfl)
  have r2w2 := Krw1.out.free 2
  have q3w2 := (Krw1.out.cell 3).trans (show _ = some _ from rfl)
  have r3w2 := Krw1.out.free 3
  have Krw2 : Hid (Blk ((((w1.setCell ⟨w.heap.size + 1, 0, none⟩ (.int .u32 la)).setCell ⟨w.heap.size + 1, 1, none⟩ (.int .u64 (tr / 2))).setCell ⟨w.heap.size + 1, 2, none⟩ (.int .i64 (tr % 2))).setCell ⟨w.heap.size + 1, 3, none⟩ (.int .i64 1)) (w.heap.size + 1) #[.int .u32 la, .int .u64 (tr / 2), .int .i64 (tr % 2), .int .i64 1] 142) := hid (Blk.setAll_self Krw1.out [.int .u32 la, .int .u64 (tr / 2), .int .i64 (tr % 2), .int .i64 1] rfl)
  have HBw2 : Hid (Below w.heap.size w ((((w1.setCell ⟨w.heap.size + 1, 0, none⟩ (.int .u32 la)).setCell ⟨w.heap.size + 1, 1, none⟩ (.int .u64 (tr / 2))).setCell ⟨w.heap.size + 1, 2, none⟩ (.int .i64 (tr % 2))).setCell ⟨w.heap.size + 1, 3, none⟩ (.int .i64 1))) := hid (Below.setAll (by omega) [.int .u32 la, .int .u64 (tr / 2), .int .i64 (tr % 2), .int .i64 1] 0 _ HBw1.out)
  have hsw2 := HBw2.out.size
  go_wp2_with fail
  exact bodyPost_ret (v := .agg #[.int .u32 la, .int .u64 (tr / 2), .int .i64 (tr % 2), .int .i64 1]) (results_blk Tryd.results129 _ (w.heap.size + 1) rfl _ 142 Krw2.out _ Tryd.underlying142 rfl 4 size_place rfl) rfl ⟨rfl, HBw2.out⟩
set_option maxHeartbeats 4000000 in
theorem within_2 (la0 tr leaf0 la : Int) (w : World) (h0 : 0 ≤ tr) (h1 : tr < 18446744073709551616) :
    Calls Tryd.prog 129 #[.agg #[.int .u32 la0, .int .u64 tr, .int .i64 leaf0, .int .i64 2], .int .u32 la] w fun e w' => e = .returned (.agg #[.int .u32 la, .int .u64 (tr / 4), .int .i64 (tr % 4), .int .i64 2]) ∧ Below w.heap.size w w' := by
  have b1 := (Below.refl w.heap.size w).alloc (Nat.le_refl _) (.cells #[.int .u32 la0, .int .u64 tr, .int .i64 leaf0, .int .i64 2] 142 (0, 0))
  have b2 := b1.alloc b1.size (.cells #[.int .u32 0, .int .u64 0, .int .i64 0, .int .i64 0] 142 (0, 0))
  have Kp := hid ((Blk.new (w := w) (n := w.heap.size) rfl #[.int .u32 la0, .int .u64 tr, .int .i64 leaf0, .int .i64 2] 142).old (.cells #[.int .u32 0, .int .u64 0, .int .i64 0, .int .i64 0] 142 (0, 0)))
  have Kr := hid (Blk.new (w := (w.alloc (.cells #[.int .u32 la0, .int .u64 tr, .int .i64 leaf0, .int .i64 2] 142 (0, 0)))) (n := w.heap.size + 1) (by simp only [World.size_alloc]) #[.int .u32 0, .int .u64 0, .int .i64 0, .int .i64 0] 142)
  have Hb := hid b2
  have hbz := b2.size
  have Hbs := hid (show w.heap.size + 1 + 1 = ((w.alloc (.cells #[.int .u32 la0, .int .u64 tr, .int .i64 leaf0, .int .i64 2] 142 (0, 0))).alloc (.cells #[.int .u32 0, .int .u64 0, .int .i64 0, .int .i64 0] 142 (0, 0))).heap.size by simp only [World.size_alloc])
  clear b1 b2 
  go_enter Tryd.func129, Tryd.ntmps129
  go_wp2_with fail
  refine wp_region_flow 13 (List.range 13) [] [] (by kernel_rfl) (by kernel_rfl) ?_
  apply Exists.intro
  refine ⟨fun w0 hb0 hF0 => ?_, ?_⟩
  · skip
    have y0 : ∀ w', (∃ x : Ext w0, w' = x.at_) → w'.cell? ⟨w.heap.size, 1, none⟩ = some (.int .u64 tr) := fun w' ⟨x, hx⟩ => by rw [hx, ((Kp.out.below hb0).below x.same).cell]; rfl
    have y1 : ∀ w', (∃ x : Ext w0, w' = x.at_) → w'.cell? ⟨w.heap.size, 3, none⟩ = some (.int .i64 2) := fun w' ⟨x, hx⟩ => by rw [hx, ((Kp.out.below hb0).below x.same).cell]; rfl
    have hw : wrap64 (tr % 4) = tr % 4 := by unfold wrap64; omega
    simp only [pick, List.range, List.range.loop, List.getElem?_toArray, List.getElem?_cons_succ, List.getElem?_cons_zero, Option.toList_some, List.cons_append, List.nil_append]
    repeat (first | (go_big_quiet_want; refine quiet_load_one 49 _ rfl ⟨w.heap.size, 1, none⟩ rfl _ y0 _ Tryd.underlying49 rfl ?_; go_big_quiet_on; simp only [Act.put, List.setIfInBounds_toArray, List.set_cons_zero, List.set_cons_succ]) | (go_big_quiet_want; refine quiet_load_one 3 _ rfl ⟨w.heap.size, 3, none⟩ rfl _ y1 _ Tryd.underlying3 rfl ?_; go_big_quiet_on; simp only [Act.put, List.setIfInBounds_toArray, List.set_cons_zero, List.set_cons_succ]) | go_big_quiet_step (fail))
    exact wpQuiet_nil rfl
  refine AlChk.nil ?_
  refine Walk.fin fun w1 hw1 _ _ => ?_
  simp only [List.drop_succ_cons, List.drop_zero]
  have HBw1 := hid (Below.on Hb.out hw1)
  have hsw1 := HBw1.out.size
  have Kpw1 := hid (Kp.out.below hw1)
  have Krw1 := hid (Kr.out.below hw1)
  clear hw1
  have Kpw2 : Hid (Blk ((((w1.setCell ⟨w.heap.size + 1, 0, none⟩ (.int .u32 la)).setCell ⟨w.heap.size + 1, 1, none⟩ (.int .u64 (tr / 4))).setCell ⟨w.heap.size + 1, 2, none⟩ (.int .i64 (tr % 4))).setCell ⟨w.heap.size + 1, 3, none⟩ (.int .i64 2)) (w.heap.size) #[.int .u32 la0, .int .u64 tr, .int .i64 leaf0, .int .i64 2] 142) := hid (Blk.setAll_other (b := w.heap.size + 1) (by have := Kpw1.out.lt; omega) [.int .u32 la, .int .u64 (tr / 4), .int .i64 (tr % 4), .int .i64 2] 0 _ Kpw1.out)
  have q0w2 := (Krw1.out.cell 0).trans (show _ = some _ from rfl)
  have r0w2 := Krw1.out.free 0
  have q1w2 := (Krw1.out.cell 1).trans (show _ = some _ from rfl)
  have r1w2 := Krw1.out.free 1
  have q2w2 := (Krw1.out.cell 2).trans (show _ = some _ from rfl)
  have r2w2 := Krw1.out.free 2
  have q3w2 := (Krw1.out.cell 3).trans (show _ = some _ from rfl)
  have r3w2 := Krw1.out.free 3
  have Krw2 : Hid (Blk ((((w1.setCell ⟨w.heap.size + 1, 0, none⟩ (.int .u32 la)).setCell ⟨w.heap.size + 1, 1, none⟩ (.int .u64 (tr / 4))).setCell ⟨w.heap.size + 1, 2, none⟩ (.int .i64 (tr % 4))).setCell ⟨w.heap.size + 1, 3, none⟩ (.int .i64 2)) (w.heap.size + 1) #[.int .u32 la, .int .u64 (tr / 4), .int .i64 (tr % 4), .int .i64 2] 142) := hid (Blk.setAll_self Krw1.out [.int .u32 la, .int .u64 (tr / 4), .int .i64 (tr % 4), .int .i64 2] rfl)
  have HBw2 : Hid (Below w.heap.size w ((((w1.setCell ⟨w.heap.size + 1, 0, none⟩ (.int .u32 la)).setCell ⟨w.heap.size + 1, 1, none⟩ (.int .u64 (tr / 4))).setCell ⟨w.heap.size + 1, 2, none⟩ (.int .i64 (tr % 4))).setCell ⟨w.heap.size + 1, 3, none⟩ (.int .i64 2))) := hid (Below.setAll (by omega) [.int .u32 la, .int .u64 (tr / 4), .int .i64 (tr % 4), .int .i64 2] 0 _ HBw1.out)
  have hsw2 := HBw2.out.size
  go_wp2_with fail
  exact bodyPost_ret (v := .agg #[.int .u32 la, .int .u64 (tr / 4), .int .i64 (tr % 4), .int .i64 2]) (results_blk Tryd.results129 _ (w.heap.size + 1) rfl _ 142 Krw2.out _ Tryd.underlying142 rfl 4 size_place rfl) rfl ⟨rfl, HBw2.out⟩
set_option maxHeartbeats 4000000 in
theorem within_3 (la0 tr leaf0 la : Int) (w : World) (h0 : 0 ≤ tr) (h1 : tr < 18446744073709551616) :
    Calls Tryd.prog 129 #[.agg #[.int .u32 la0, .int .u64 tr, .int .i64 leaf0, .int .i64 3], .int .u32 la] w fun e w' => e = .returned (.agg #[.int .u32 la, .int .u64 (tr / 8), .int .i64 (tr % 8), .int .i64 3]) ∧ Below w.heap.size w w' := by
  have b1 := (Below.refl w.heap.size w).alloc (Nat.le_refl _) (.cells #[.int .u32 la0, .int .u64 tr, .int .i64 leaf0, .int .i64 3] 142 (0, 0))
  have b2 := b1.alloc b1.size (.cells #[.int .u32 0, .int .u64 0, .int .i64 0, .int .i64 0] 142 (0, 0))
  have Kp := hid ((Blk.new (w := w) (n := w.heap.size) rfl #[.int .u32 la0, .int .u64 tr, .int .i64 leaf0, .int .i64 3] 142).old (.cells #[.int .u32 0, .int .u64 0, .int .i64 0, .int .i64 0] 142 (0, 0)))
  have Kr := hid (Blk.new (w := (w.alloc (.cells #[.int .u32 la0, .int .u64 tr, .int .i64 leaf0, .int .i64 3] 142 (0, 0)))) (n := w.heap.size + 1) (by simp only [World.size_alloc]) #[.int .u32 0, .int .u64 0, .int .i64 0, .int .i64 0] 142)
  have Hb := hid b2
  have hbz := b2.size
  have Hbs := hid (show w.heap.size + 1 + 1 = ((w.alloc (.cells #[.int .u32 la0, .int .u64 tr, .int .i64 leaf0, .int .i64 3] 142 (0, 0))).alloc (.cells #[.int .u32 0, .int .u64 0, .int .i64 0, .int .i64 0] 142 (0, 0))).heap.size by simp only [World.size_alloc])
  clear b1 b2 
  go_enter Tryd.func129, Tryd.ntmps129
  go_wp2_with fail
  refine wp_region_flow 13 (List.range 13) [] [] (by kernel_rfl) (by kernel_rfl) ?_
  apply Exists.intro
  refine ⟨fun w0 hb0 hF0 => ?_, ?_⟩
  · skip
    have y0 : ∀ w', (∃ x : Ext w0, w' = x.at_) → w'.cell? ⟨w.heap.size, 1, none⟩ = some (.int .u64 tr) := fun w' ⟨x, hx⟩ => by rw [hx, ((Kp.out.below hb0).below x.same).cell]; rfl
    have y1 : ∀ w', (∃ x : Ext w0, w' = x.at_) → w'.cell? ⟨w.heap.size, 3, none⟩ = some (.int .i64 3) := fun w' ⟨x, hx⟩ => by rw [hx, ((Kp.out.below hb0).below x.same).cell]; rfl
    have hw : wrap64 (tr % 8) = tr % 8 := by unfold wrap64; omega
    simp only [pick, List.range, List.range.loop, List.getElem?_toArray, List.getElem?_cons_succ, List.getElem?_cons_zero, Option.toList_some, List.cons_append, List.nil_append]
    repeat (first | (go_big_quiet_want; refine quiet_load_one 49 _ rfl ⟨w.heap.size, 1, none⟩ rfl _ y0 _ Tryd.underlying49 rfl ?_; go_big_quiet_on; simp only [Act.put, List.setIfInBounds_toArray, List.set_cons_zero, List.set_cons_succ]) | (go_big_quiet_want; refine quiet_load_one 3 _ rfl ⟨w.heap.size, 3, none⟩ rfl _ y1 _ Tryd.underlying3 rfl ?_; go_big_quiet_on; simp only [Act.put, List.setIfInBounds_toArray, List.set_cons_zero, List.set_cons_succ]) | go_big_quiet_step (fail))
    exact wpQuiet_nil rfl
  refine AlChk.nil ?_
  refine Walk.fin fun w1 hw1 _ _ => ?_
  simp only [List.drop_succ_cons, List.drop_zero]
  have HBw1 := hid (Below.on Hb.out hw1)
  have hsw1 := HBw1.out.size
  have Kpw1 := hid (Kp.out.below hw1)
  have Krw1 := hid (Kr.out.below hw1)
  clear hw1
  have Kpw2 : Hid (Blk ((((w1.setCell ⟨w.heap.size + 1, 0, none⟩ (.int .u32 la)).setCell ⟨w.heap.size + 1, 1, none⟩ (.int .u64 (tr / 8))).setCell ⟨w.heap.size + 1, 2, none⟩ (.int .i64 (tr % 8))).setCell ⟨w.heap.size + 1, 3, none⟩ (.int .i64 3)) (w.heap.size) #[.int .u32 la0, .int .u64 tr, .int .i64 leaf0, .int .i64 3] 142) := hid (Blk.setAll_other (b := w.heap.size + 1) (by have := Kpw1.out.lt; omega) [.int .u32 la, .int .u64 (tr / 8), .int .i64 (tr % 8), .int .i64 3] 0 _ Kpw1.out)
  have q0w2 := (Krw1.out.cell 0).trans (show _ = some _ from rfl)
  have r0w2 := Krw1.out.free 0
  have q1w2 := (Krw1.out.cell 1).trans (show _ = some _ from rfl)
  have r1w2 := Krw1.out.free 1
  have q2w2 := (Krw1.out.cell 2).trans (show _ = some _ from rfl)
  have r2w2 := Krw1.out.free 2
  have q3w2 := (Krw1.out.cell 3).trans (show _ = some _ from rfl)
  have r3w2 := Krw1.out.free 3
  have Krw2 : Hid (Blk ((((w1.setCell ⟨w.heap.size + 1, 0, none⟩ (.int .u32 la)).setCell ⟨w.heap.size + 1, 1, none⟩ (.int .u64 (tr / 8))).setCell ⟨w.heap.size + 1, 2, none⟩ (.int .i64 (tr % 8))).setCell ⟨w.heap.size + 1, 3, none⟩ (.int .i64 3)) (w.heap.size + 1) #[.int .u32 la, .int .u64 (tr / 8), .int .i64 (tr % 8), .int .i64 3] 142) := hid (Blk.setAll_self Krw1.out [.int .u32 la, .int .u64 (tr / 8), .int .i64 (tr % 8), .int .i64 3] rfl)
  have HBw2 : Hid (Below w.heap.size w ((((w1.setCell ⟨w.heap.size + 1, 0, none⟩ (.int .u32 la)).setCell ⟨w.heap.size + 1, 1, none⟩ (.int .u64 (tr / 8))).setCell ⟨w.heap.size + 1, 2, none⟩ (.int .i64 (tr % 8))).setCell ⟨w.heap.size + 1, 3, none⟩ (.int .i64 3))) := hid (Below.setAll (by omega) [.int .u32 la, .int .u64 (tr / 8), .int .i64 (tr % 8), .int .i64 3] 0 _ HBw1.out)
  have hsw2 := HBw2.out.size
  go_wp2_with fail
  exact bodyPost_ret (v := .agg #[.int .u32 la, .int .u64 (tr / 8), .int .i64 (tr % 8), .int .i64 3]) (results_blk Tryd.results129 _ (w.heap.size + 1) rfl _ 142 Krw2.out _ Tryd.underlying142 rfl 4 size_place rfl) rfl ⟨rfl, HBw2.out⟩
set_option maxHeartbeats 4000000 in
theorem within_4 (la0 tr leaf0 la : Int) (w : World) (h0 : 0 ≤ tr) (h1 : tr < 18446744073709551616) :
    Calls Tryd.prog 129 #[.agg #[.int .u32 la0, .int .u64 tr, .int .i64 leaf0, .int .i64 4], .int .u32 la] w fun e w' => e = .returned (.agg #[.int .u32 la, .int .u64 (tr / 16), .int .i64 (tr % 16), .int .i64 4]) ∧ Below w.heap.size w w' := by
  have b1 := (Below.refl w.heap.size w).alloc (Nat.le_refl _) (.cells #[.int .u32 la0, .int .u64 tr, .int .i64 leaf0, .int .i64 4] 142 (0, 0))
  have b2 := b1.alloc b1.size (.cells #[.int .u32 0, .int .u64 0, .int .i64 0, .int .i64 0] 142 (0, 0))
  have Kp := hid ((Blk.new (w := w) (n := w.heap.size) rfl #[.int .u32 la0, .int .u64 tr, .int .i64 leaf0, .int .i64 4] 142).old (.cells #[.int .u32 0, .int .u64 0, .int .i64 0, .int .i64 0] 142 (0, 0)))
  have Kr := hid (Blk.new (w := (w.alloc (.cells #[.int .u32 la0, .int .u64 tr, .int .i64 leaf0, .int .i64 4] 142 (0, 0)))) (n := w.heap.size + 1) (by simp only [World.size_alloc]) #[.int .u32 0, .int .u64 0, .int .i64 0, .int .i64 0] 142)
  have Hb := hid b2
  have hbz := b2.size
  have Hbs := hid (show w.heap.size + 1 + 1 = ((w.alloc (.cells #[.int .u32 la0, .int .u64 tr, .int .i64 leaf0, .int .i64 4] 142 (0, 0))).alloc (.cells #[.int .u32 0, .int .u64 0, .int .i64 0, .int .i64 0] 142 (0, 0))).heap.size by simp only [World.size_alloc])
  clear b1 b2 
  go_enter Tryd.func129, Tryd.ntmps129
  go_wp2_with fail
  refine wp_region_flow 13 (List.range 13) [] [] (by kernel_rfl) (by kernel_rfl) ?_
  apply Exists.intro
  refine ⟨fun w0 hb0 hF0 => ?_, ?_⟩
  · skip
    have y0 : ∀ w', (∃ x : Ext w0, w' = x.at_) → w'.cell? ⟨w.heap.size, 1, none⟩ = some (.int .u64 tr) := fun w' ⟨x, hx⟩ => by rw [hx, ((Kp.out.below hb0).below x.same).cell]; rfl
    have y1 : ∀ w', (∃ x : Ext w0, w' = x.at_) → w'.cell? ⟨w.heap.size, 3, none⟩ = some (.int .i64 4) := fun w' ⟨x, hx⟩ => by rw [hx, ((Kp.out.below hb0).below x.same).cell]; rfl
    have hw : wrap64 (tr % 16) = tr % 16 := by unfold wrap64; omega
    simp only [pick, List.range, List.range.loop, List.getElem?_toArray, List.getElem?_cons_succ, List.getElem?_cons_zero, Option.toList_some, List.cons_append, List.nil_append]
    repeat (first | (go_big_quiet_want; refine quiet_load_one 49 _ rfl ⟨w.heap.size, 1, none⟩ rfl _ y0 _ Tryd.underlying49 rfl ?_; go_big_quiet_on; simp only [Act.put, List.setIfInBounds_toArray, List.set_cons_zero, List.set_cons_succ]) | (go_big_quiet_want; refine quiet_load_one 3 _ rfl ⟨w.heap.size, 3, none⟩ rfl _ y1 _ Tryd.underlying3 rfl ?_; go_big_quiet_on; simp only [Act.put, List.setIfInBounds_toArray, List.set_cons_zero, List.set_cons_succ]) | go_big_quiet_step (fail))
    exact wpQuiet_nil rfl
  refine AlChk.nil ?_
  refine Walk.fin fun w1 hw1 _ _ => ?_
  simp only [List.drop_succ_cons, List.drop_zero]
  have HBw1 := hid (Below.on Hb.out hw1)
  have hsw1 := HBw1.out.size
  have Kpw1 := hid (Kp.out.below hw1)
  have Krw1 := hid (Kr.out.below hw1)
  clear hw1
  have Kpw2 : Hid (Blk ((((w1.setCell ⟨w.heap.size + 1, 0, none⟩ (.int .u32 la)).setCell ⟨w.heap.size + 1, 1, none⟩ (.int .u64 (tr / 16))).setCell ⟨w.heap.size + 1, 2, none⟩ (.int .i64 (tr % 16))).setCell ⟨w.heap.size + 1, 3, none⟩ (.int .i64 4)) (w.heap.size) #[.int .u32 la0, .int .u64 tr, .int .i64 leaf0, .int .i64 4] 142) := hid (Blk.setAll_other (b := w.heap.size + 1) (by have := Kpw1.out.lt; omega) [.int .u32 la, .int .u64 (tr / 16), .int .i64 (tr % 16), .int .i64 4] 0 _ Kpw1.out)
  have q0w2 := (Krw1.out.cell 0).trans (show _ = some _ from rfl)
  have r0w2 := Krw1.out.free 0
  have q1w2 := (Krw1.out.cell 1).trans (show _ = some _ from rfl)
  have r1w2 := Krw1.out.free 1
  have q2w2 := (Krw1.out.cell 2).trans (show _ = some _ from rfl)
  have r2w2 := Krw1.out.free 2
  have q3w2 := (Krw1.out.cell 3).trans (show _ = some _ from rfl)
  have r3w2 := Krw1.out.free 3
  have Krw2 : Hid (Blk ((((w1.setCell ⟨w.heap.size + 1, 0, none⟩ (.int .u32 la)).setCell ⟨w.heap.size + 1, 1, none⟩ (.int .u64 (tr / 16))).setCell ⟨w.heap.size + 1, 2, none⟩ (.int .i64 (tr % 16))).setCell ⟨w.heap.size + 1, 3, none⟩ (.int .i64 4)) (w.heap.size + 1) #[.int .u32 la, .int .u64 (tr / 16), .int .i64 (tr % 16), .int .i64 4] 142) := hid (Blk.setAll_self Krw1.out [.int .u32 la, .int .u64 (tr / 16), .int .i64 (tr % 16), .int .i64 4] rfl)
  have HBw2 : Hid (Below w.heap.size w ((((w1.setCell ⟨w.heap.size + 1, 0, none⟩ (.int .u32 la)).setCell ⟨w.heap.size + 1, 1, none⟩ (.int .u64 (tr / 16))).setCell ⟨w.heap.size + 1, 2, none⟩ (.int .i64 (tr % 16))).setCell ⟨w.heap.size + 1, 3, none⟩ (.int .i64 4))) := hid (Below.setAll (by omega) [.int .u32 la, .int .u64 (tr / 16), .int .i64 (tr % 16), .int .i64 4] 0 _ HBw1.out)
  have hsw2 := HBw2.out.size
  go_wp2_with fail
  exact bodyPost_ret (v := .agg #[.int .u32 la, .int .u64 (tr / 16), .int .i64 (tr % 16), .int .i64 4]) (results_blk Tryd.results129 _ (w.heap.size + 1) rfl _ 142 Krw2.out _ Tryd.underlying142 rfl 4 size_place rfl) rfl ⟨rfl, HBw2.out⟩
theorem within_any (la0 tr leaf0 la : Int) (n : Nat) (w : World) (hn : 1 ≤ n ∧ n ≤ 4) (h0 : 0 ≤ tr) (h1 : tr < 18446744073709551616) :
    Calls Tryd.prog 129 #[.agg #[.int .u32 la0, .int .u64 tr, .int .i64 leaf0, .int .i64 n], .int .u32 la] w fun e w' => e = .returned (.agg #[.int .u32 la, .int .u64 (tr / ((2 ^ n : Nat) : Int)), .int .i64 (tr % ((2 ^ n : Nat) : Int)), .int .i64 n]) ∧ Below w.heap.size w w' := by
  rcases (show n = 1 ∨ n = 2 ∨ n = 3 ∨ n = 4 by omega) with rfl | rfl | rfl | rfl
  · exact within_1 la0 tr leaf0 la w h0 h1
  · exact within_2 la0 tr leaf0 la w h0 h1
  · exact within_3 la0 tr leaf0 la w h0 h1
  · exact within_4 la0 tr leaf0 la w h0 h1
set_option maxHeartbeats 4000000 in
theorem lowest_any (L i : Int) (n : Nat) (w : World) (hn : 1 ≤ n ∧ n ≤ 4) (h0 : 0 ≤ i) (h1 : i < 9223372036854775808) :
    Calls Tryd.prog 101 #[.agg (shC L n), .int .i64 i] w fun e w' => e = .returned (.agg #[.int .u32 0, .int .u64 (i / ((2 ^ n : Nat) : Int)), .int .i64 (i % ((2 ^ n : Nat) : Int)), .int .i64 n]) ∧ Below w.heap.size w w' := by
  have CW := hid (fun W : World => within_any 0 i 0 0 n W hn h0 (by omega))
  generalize ((2 ^ n : Nat) : Int) = p at *
  have b1 := (Below.refl w.heap.size w).alloc (Nat.le_refl _) (.cells (shC L n) 63 (0, 0))
  have b2 := b1.alloc b1.size (.cells #[.int .u32 0, .int .u64 0, .int .i64 0, .int .i64 0] 142 (0, 0))
  have Ksh := hid ((Blk.new (w := w) (n := w.heap.size) rfl (shC L n) 63).old (.cells #[.int .u32 0, .int .u64 0, .int .i64 0, .int .i64 0] 142 (0, 0)))
  have Kr := hid (Blk.new (w := (w.alloc (.cells (shC L n) 63 (0, 0)))) (n := w.heap.size + 1) (by simp only [World.size_alloc]) #[.int .u32 0, .int .u64 0, .int .i64 0, .int .i64 0] 142)
  have Hb := hid b2
  have hbz := b2.size
  have Hbs := hid (show w.heap.size + 1 + 1 = ((w.alloc (.cells (shC L n) 63 (0, 0))).alloc (.cells #[.int .u32 0, .int .u64 0, .int .i64 0, .int .i64 0] 142 (0, 0))).heap.size by simp only [World.size_alloc])
  clear b1 b2 
  go_enter Tryd.func101, Tryd.ntmps101
  have d1 : ((w.alloc (.cells (shC L n) 63 (0, 0))).alloc (.cells #[.int .u32 0, .int .u64 0, .int .i64 0, .int .i64 0] 142 (0, 0))).cell? ⟨w.heap.size, 1, none⟩ = some (.int .i64 n) := by rw [Ksh.out.cell]; rfl
  go_wp2_with fail
  refine (CW.out _).mono ?_
  rintro e w1 ⟨rfl, bw1⟩
  have HBw1 := hid (Below.on Hb.out bw1)
  have hsw1 := HBw1.out.size
  have Kshw1 := hid (Ksh.out.below bw1)
  have Krw1 := hid (Kr.out.below bw1)
  clear bw1
  have Kshw2 : Hid (Blk ((((w1.setCell ⟨w.heap.size + 1, 0, none⟩ (.int .u32 0)).setCell ⟨w.heap.size + 1, 1, none⟩ (.int .u64 (i / p))).setCell ⟨w.heap.size + 1, 2, none⟩ (.int .i64 (i % p))).setCell ⟨w.heap.size + 1, 3, none⟩ (.int .i64 n)) (w.heap.size) (shC L n) 63) := hid (Blk.setAll_other (b := w.heap.size + 1) (by have := Kshw1.out.lt; omega) [.int .u32 0, .int .u64 (i / p), .int .i64 (i % p), .int .i64 n] 0 _ Kshw1.out)
  have q0w2 := (Krw1.out.cell 0).trans (show _ = some _ from rfl)
  have r0w2 := Krw1.out.free 0
  have q1w2 := (Krw1.out.cell 1).trans (show _ = some _ from rfl)
  have r1w2 := Krw1.out.free 1
  have q2w2 := (Krw1.out.cell 2).trans (show _ = some _ from rfl)
  have r2w2 := Krw1.out.free 2
  have q3w2 := (Krw1.out.cell 3).trans (show _ = some _ from rfl)
  have r3w2 := Krw1.out.free 3
  have Krw2 : Hid (Blk ((((w1.setCell ⟨w.heap.size + 1, 0, none⟩ (.int .u32 0)).setCell ⟨w.heap.size + 1, 1, none⟩ (.int .u64 (i / p))).setCell ⟨w.heap.size + 1, 2, none⟩ (.int .i64 (i % p))).setCell ⟨w.heap.size + 1, 3, none⟩ (.int .i64 n)) (w.heap.size + 1) #[.int .u32 0, .int .u64 (i / p), .int .i64 (i % p), .int .i64 n] 142) := hid (Blk.setAll_self Krw1.out [.int .u32 0, .int .u64 (i / p), .int .i64 (i % p), .int .i64 n] rfl)
  have HBw2 : Hid (Below w.heap.size w ((((w1.setCell ⟨w.heap.size + 1, 0, none⟩ (.int .u32 0)).setCell ⟨w.heap.size + 1, 1, none⟩ (.int .u64 (i / p))).setCell ⟨w.heap.size + 1, 2, none⟩ (.int .i64 (i % p))).setCell ⟨w.heap.size + 1, 3, none⟩ (.int .i64 n))) := hid (Below.setAll (by omega) [.int .u32 0, .int .u64 (i / p), .int .i64 (i % p), .int .i64 n] 0 _ HBw1.out)
  have hsw2 := HBw2.out.size
  go_wp2_with fail
  exact bodyPost_ret (v := .agg #[.int .u32 0, .int .u64 (i / p), .int .i64 (i % p), .int .i64 n]) (results_blk Tryd.results101 _ (w.heap.size + 1) rfl _ 142 Krw2.out _ Tryd.underlying142 rfl 4 size_place rfl) rfl ⟨rfl, HBw2.out⟩
set_option maxHeartbeats 4000000 in
theorem above_pl (la tr leaf : Int) (n : Nat) (w : World) (hn : 1 ≤ n ∧ n ≤ 4) (hla : 0 ≤ la ∧ la < 100) (h0 : 0 ≤ tr) (h1 : tr < 18446744073709551616) :
    Calls Tryd.prog 103 #[.agg #[.int .u32 la, .int .u64 tr, .int .i64 leaf, .int .i64 n]] w fun e w' => e = .returned (.agg #[.int .u32 (la + 1), .int .u64 (tr / ((2 ^ n : Nat) : Int)), .int .i64 (tr % ((2 ^ n : Nat) : Int)), .int .i64 n]) ∧ Below w.heap.size w w' := by
  have CW := hid (fun W : World => within_any la tr leaf (la + 1) n W hn h0 h1)
  generalize ((2 ^ n : Nat) : Int) = p at *
  have b1 := (Below.refl w.heap.size w).alloc (Nat.le_refl _) (.cells #[.int .u32 la, .int .u64 tr, .int .i64 leaf, .int .i64 n] 142 (0, 0))
  have b2 := b1.alloc b1.size (.cells #[.int .u32 0, .int .u64 0, .int .i64 0, .int .i64 0] 142 (0, 0))
  have Kp := hid ((Blk.new (w := w) (n := w.heap.size) rfl #[.int .u32 la, .int .u64 tr, .int .i64 leaf, .int .i64 n] 142).old (.cells #[.int .u32 0, .int .u64 0, .int .i64 0, .int .i64 0] 142 (0, 0)))
  have Kr := hid (Blk.new (w := (w.alloc (.cells #[.int .u32 la, .int .u64 tr, .int .i64 leaf, .int .i64 n] 142 (0, 0)))) (n := w.heap.size + 1) (by simp only [World.size_alloc]) #[.int .u32 0, .int .u64 0, .int .i64 0, .int .i64 0] 142)
  have Hb := hid b2
  have hbz := b2.size
  have Hbs := hid (show w.heap.size + 1 + 1 = ((w.alloc (.cells #[.int .u32 la, .int .u64 tr, .int .i64 leaf, .int .i64 n] 142 (0, 0))).alloc (.cells #[.int .u32 0, .int .u64 0, .int .i64 0, .int .i64 0] 142 (0, 0))).heap.size by simp only [World.size_alloc])
  clear b1 b2 
  go_enter Tryd.func103, Tryd.ntmps103
  have d0 : ((w.alloc (.cells #[.int .u32 la, .int .u64 tr, .int .i64 leaf, .int .i64 n] 142 (0, 0))).alloc (.cells #[.int .u32 0, .int .u64 0, .int .i64 0, .int .i64 0] 142 (0, 0))).cell? ⟨w.heap.size, 0, none⟩ = some (.int .u32 la) := by rw [Kp.out.cell]; rfl
  go_wp2_with (refine wpList_load_blk rfl 142 _ rfl (w.heap.size) rfl _ 142 Kp.out _ Tryd.underlying142 rfl 4 size_place rfl ?_)
  refine (CW.out _).mono ?_
  rintro e w1 ⟨rfl, bw1⟩
  have HBw1 := hid (Below.on Hb.out bw1)
  have hsw1 := HBw1.out.size
  have Kpw1 := hid (Kp.out.below bw1)
  have Krw1 := hid (Kr.out.below bw1)
  clear bw1
  have Kpw2 : Hid (Blk ((((w1.setCell ⟨w.heap.size + 1, 0, none⟩ (.int .u32 (la + 1))).setCell ⟨w.heap.size + 1, 1, none⟩ (.int .u64 (tr / p))).setCell ⟨w.heap.size + 1, 2, none⟩ (.int .i64 (tr % p))).setCell ⟨w.heap.size + 1, 3, none⟩ (.int .i64 n)) (w.heap.size) #[.int .u32 la, .int .u64 tr, .int .i64 leaf, .int .i64 n] 142) := hid (Blk.setAll_other (b := w.heap.size + 1) (by have := Kpw1.out.lt; omega) [.int .u32 (la + 1), .int .u64 (tr / p), .int .i64 (tr % p), .int .i64 n] 0 _ Kpw1.out)
  have q0w2 := (Krw1.out.cell 0).trans (show _ = some _ from rfl)
  have r0w2 := Krw1.out.free 0
  have q1w2 := (Krw1.out.cell 1).trans (show _ = some _ from rfl)
  have r1w2 := Krw1.out.free 1
  have q2w2 := (Krw1.out.cell 2).trans (show _ = some _ from rfl)
  have r2w2 := Krw1.out.free 2
  have q3w2 := (Krw1.out.cell 3).trans (show _ = some _ from rfl)
  have r3w2 := Krw1.out.free 3
  have Krw2 : Hid (Blk ((((w1.setCell ⟨w.heap.size + 1, 0, none⟩ (.int .u32 (la + 1))).setCell ⟨w.heap.size + 1, 1, none⟩ (.int .u64 (tr / p))).setCell ⟨w.heap.size + 1, 2, none⟩ (.int .i64 (tr % p))).setCell ⟨w.heap.size + 1, 3, none⟩ (.int .i64 n)) (w.heap.size + 1) #[.int .u32 (la + 1), .int .u64 (tr / p), .int .i64 (tr % p), .int .i64 n] 142) := hid (Blk.setAll_self Krw1.out [.int .u32 (la + 1), .int .u64 (tr / p), .int .i64 (tr % p), .int .i64 n] rfl)
  have HBw2 : Hid (Below w.heap.size w ((((w1.setCell ⟨w.heap.size + 1, 0, none⟩ (.int .u32 (la + 1))).setCell ⟨w.heap.size + 1, 1, none⟩ (.int .u64 (tr / p))).setCell ⟨w.heap.size + 1, 2, none⟩ (.int .i64 (tr % p))).setCell ⟨w.heap.size + 1, 3, none⟩ (.int .i64 n))) := hid (Below.setAll (by omega) [.int .u32 (la + 1), .int .u64 (tr / p), .int .i64 (tr % p), .int .i64 n] 0 _ HBw1.out)
  have hsw2 := HBw2.out.size
  go_wp2_with fail
  exact bodyPost_ret (v := .agg #[.int .u32 (la + 1), .int .u64 (tr / p), .int .i64 (tr % p), .int .i64 n]) (results_blk Tryd.results103 _ (w.heap.size + 1) rfl _ 142 Krw2.out _ Tryd.underlying142 rfl 4 size_place rfl) rfl ⟨rfl, HBw2.out⟩
set_option maxHeartbeats 4000000 in
theorem ots_pl (la tr leaf n : Int) (w : World) (htr : 0 ≤ tr ∧ tr < 18446744073709551616) (hi : 0 ≤ leaf ∧ leaf < 4294967296) :
    Calls Tryd.prog 130 #[.agg #[.int .u32 la, .int .u64 tr, .int .i64 leaf, .int .i64 n]] w fun e w' => e = .returned (.agg ((otsZ la tr leaf).map (Value.int .u32)).toArray) ∧ Below w.heap.size w w' := by
  have b1 := (Below.refl w.heap.size w).alloc (Nat.le_refl _) (.cells #[.int .u32 la, .int .u64 tr, .int .i64 leaf, .int .i64 n] 142 (0, 0))
  have b2 := b1.alloc b1.size (.cells (zA.map (Value.int .u32)).toArray 26 (0, 0))
  have Kp := hid ((Blk.new (w := w) (n := w.heap.size) rfl #[.int .u32 la, .int .u64 tr, .int .i64 leaf, .int .i64 n] 142).old (.cells (zA.map (Value.int .u32)).toArray 26 (0, 0)))
  have Kr := hid (Blk.new (w := (w.alloc (.cells #[.int .u32 la, .int .u64 tr, .int .i64 leaf, .int .i64 n] 142 (0, 0)))) (n := w.heap.size + 1) (by simp only [World.size_alloc]) (zA.map (Value.int .u32)).toArray 26)
  have Hb := hid b2
  have hbz := b2.size
  have Hbs := hid (show w.heap.size + 1 + 1 = ((w.alloc (.cells #[.int .u32 la, .int .u64 tr, .int .i64 leaf, .int .i64 n] 142 (0, 0))).alloc (.cells (zA.map (Value.int .u32)).toArray 26 (0, 0))).heap.size by simp only [World.size_alloc])
  clear b1 b2 
  go_enter Tryd.func130, Tryd.ntmps130
  have d0 : ((w.alloc (.cells #[.int .u32 la, .int .u64 tr, .int .i64 leaf, .int .i64 n] 142 (0, 0))).alloc (.cells (zA.map (Value.int .u32)).toArray 26 (0, 0))).cell? ⟨w.heap.size, 0, none⟩ = some (.int .u32 la) := by rw [Kp.out.cell]; rfl
  have d1 : ((w.alloc (.cells #[.int .u32 la, .int .u64 tr, .int .i64 leaf, .int .i64 n] 142 (0, 0))).alloc (.cells (zA.map (Value.int .u32)).toArray 26 (0, 0))).cell? ⟨w.heap.size, 1, none⟩ = some (.int .u64 tr) := by rw [Kp.out.cell]; rfl
  have d2 : ((w.alloc (.cells #[.int .u32 la, .int .u64 tr, .int .i64 leaf, .int .i64 n] 142 (0, 0))).alloc (.cells (zA.map (Value.int .u32)).toArray 26 (0, 0))).cell? ⟨w.heap.size, 2, none⟩ = some (.int .i64 leaf) := by rw [Kp.out.cell]; rfl
  go_wp2_with fail
  refine (ots_list la tr leaf _ htr.1 htr.2).mono ?_
  rintro e w1 ⟨rfl, bw1⟩
  have HBw1 := hid (Below.on Hb.out bw1)
  have hsw1 := HBw1.out.size
  have Kpw1 := hid (Kp.out.below bw1)
  have Krw1 := hid (Kr.out.below bw1)
  clear bw1
  go_wp2_with (
      refine wpList_store_blk rfl 26 _ _ rfl (w.heap.size + 1) ((otsZ la tr leaf).map (Value.int .u32)).toArray rfl rfl _ 26 Krw1.out 8 sizeAdrs rfl rfl (ints_one _ _) ?_
      intro w9 hb9 hk9
      have HB9 := hid (hb9.below HBw1.out HBw1.out.size (by omega))
      have HK9 := hid hk9
      clear hb9 hk9)
  exact bodyPost_ret (v := .agg ((otsZ la tr leaf).map (Value.int .u32)).toArray) (results_blk Tryd.results130 _ (w.heap.size + 1) rfl _ 26 HK9.out _ Tryd.underlying26 rfl 8 sizeAdrs rfl) rfl ⟨rfl, HB9.out⟩
theorem Dg.root {pub : List Int} {V : Nat} {la tr leaf : Int} {o a : List (List Int)} {m : List Int} (ho : ∀ d ∈ o, Dg d) : Dg (rootZ pub V la tr leaf o a m) := by
  unfold rootZ
  exact Dg.climb (compZ_dg _ _ 67 0 _ (rowW_each (Dg.fromP ho _ _ _)) (by rw [rowW_length]; omega) (by rw [rowW_length]; omega)) _
set_option maxHeartbeats 4000000 in
theorem root_good (la tr leaf : Int) (n : Nat) (o a : List (List Int)) (oa : Option Addr) (oc : Nat) (aa : Option Addr) (ac : Nat) (m pub : List Int) (w : World) (hO : DigsAt w oa 67 oc o) (hA : DigsAt w aa n ac a) (hm : Dg m) (hpub : Dg pub) (hla : 0 ≤ la ∧ la < 4294967296) (htr : 0 ≤ tr ∧ tr < 18446744073709551616) (hr : rightZ n leaf = true) (tab : ShaTab w) :
    Calls Tryd.prog 102 #[.agg #[.int .u32 la, .int .u64 tr, .int .i64 leaf, .int .i64 n], .agg #[.slice oa 67 oc, .slice aa n ac], .agg (m.map (Value.int .u8)).toArray, .agg (pub.map (Value.int .u8)).toArray] w fun e w' => e = .returned (.tuple #[.agg ((rootZ pub n la tr leaf o a m).map (Value.int .u8)).toArray, .bool true]) ∧ Below w.heap.size w w' := by
  have hr2 := hr
  simp only [rightZ, decide_eq_true_eq] at hr2
  have hle : 0 ≤ leaf ∧ leaf < 4294967296 := by
    rcases (show n = 1 ∨ n = 2 ∨ n = 3 ∨ n = 4 by omega) with rfl | rfl | rfl | rfl <;> simp at hr2 <;> omega
  clear hr2
  have HO := hid hO
  have HAu := hid hA
  have HA := hid (Aw.ots hla htr hle)
  have HT := hid (Aw.ltr hla htr hle)
  have HR := hid (Dg.root (pub := pub) (V := n) (la := la) (tr := tr) (leaf := leaf) (a := a) (m := m) hO.each)
  have HLF := hid (compZ_dg pub (ltrZ la tr leaf) 67 0 _ (rowW_each (Dg.fromP hO.each m pub (otsZ la tr leaf))) (by rw [rowW_length]; omega) (by rw [rowW_length]; omega))
  have CC := hid (fun (pa : Option Addr) (pc : Nat) (W : World) (h : DigsAt W pa 67 pc (rowW (fromP o m pub (otsZ la tr leaf)))) (t : ShaTab W) => compress_good pa 67 pc (rowW (fromP o m pub (otsZ la tr leaf))) pub (ltrZ la tr leaf) W h (by omega) hpub HT.out t)
  have CL := hid (fun (W : World) (h : DigsAt W aa n ac a) (t : ShaTab W) => climb_good (compZ pub (ltrZ la tr leaf) 67 0 (rowW (fromP o m pub (otsZ la tr leaf)))) pub aa n ac a leaf la tr W HLF.out hpub h hla htr hr t)
  rw [show climbZ pub (treeZ la tr) leaf a (compZ pub (ltrZ la tr leaf) 67 0 (rowW (fromP o m pub (otsZ la tr leaf)))) n = rootZ pub n la tr leaf o a m by unfold rootZ; rfl] at CL
  generalize rootZ pub n la tr leaf o a m = R at *
  generalize compZ pub (ltrZ la tr leaf) 67 0 (rowW (fromP o m pub (otsZ la tr leaf))) = lf at *
  clear hO hA
  have b1 := (Below.refl w.heap.size w).alloc (Nat.le_refl _) (.cells #[.int .u32 la, .int .u64 tr, .int .i64 leaf, .int .i64 n] 142 (0, 0))
  have b2 := b1.alloc b1.size (.cells #[.slice oa 67 oc, .slice aa n ac] 88 (0, 0))
  have b3 := b2.alloc b2.size (.cells (m.map (Value.int .u8)).toArray 23 (0, 0))
  have b4 := b3.alloc b3.size (.cells (pub.map (Value.int .u8)).toArray 23 (0, 0))
  have b5 := b4.alloc b4.size (.cells (byteCells 32 []) 23 (0, 0))
  have Kp := hid (((((Blk.new (w := w) (n := w.heap.size) rfl #[.int .u32 la, .int .u64 tr, .int .i64 leaf, .int .i64 n] 142).old (.cells #[.slice oa 67 oc, .slice aa n ac] 88 (0, 0))).old (.cells (m.map (Value.int .u8)).toArray 23 (0, 0))).old (.cells (pub.map (Value.int .u8)).toArray 23 (0, 0))).old (.cells (byteCells 32 []) 23 (0, 0)))
  have Kx := hid ((((Blk.new (w := (w.alloc (.cells #[.int .u32 la, .int .u64 tr, .int .i64 leaf, .int .i64 n] 142 (0, 0)))) (n := w.heap.size + 1) (by simp only [World.size_alloc]) #[.slice oa 67 oc, .slice aa n ac] 88).old (.cells (m.map (Value.int .u8)).toArray 23 (0, 0))).old (.cells (pub.map (Value.int .u8)).toArray 23 (0, 0))).old (.cells (byteCells 32 []) 23 (0, 0)))
  have Km := hid (((Blk.new (w := ((w.alloc (.cells #[.int .u32 la, .int .u64 tr, .int .i64 leaf, .int .i64 n] 142 (0, 0))).alloc (.cells #[.slice oa 67 oc, .slice aa n ac] 88 (0, 0)))) (n := w.heap.size + 1 + 1) (by simp only [World.size_alloc]) (m.map (Value.int .u8)).toArray 23).old (.cells (pub.map (Value.int .u8)).toArray 23 (0, 0))).old (.cells (byteCells 32 []) 23 (0, 0)))
  have Ku := hid ((Blk.new (w := (((w.alloc (.cells #[.int .u32 la, .int .u64 tr, .int .i64 leaf, .int .i64 n] 142 (0, 0))).alloc (.cells #[.slice oa 67 oc, .slice aa n ac] 88 (0, 0))).alloc (.cells (m.map (Value.int .u8)).toArray 23 (0, 0)))) (n := w.heap.size + 1 + 1 + 1) (by simp only [World.size_alloc]) (pub.map (Value.int .u8)).toArray 23).old (.cells (byteCells 32 []) 23 (0, 0)))
  have Kr := hid (Blk.new (w := ((((w.alloc (.cells #[.int .u32 la, .int .u64 tr, .int .i64 leaf, .int .i64 n] 142 (0, 0))).alloc (.cells #[.slice oa 67 oc, .slice aa n ac] 88 (0, 0))).alloc (.cells (m.map (Value.int .u8)).toArray 23 (0, 0))).alloc (.cells (pub.map (Value.int .u8)).toArray 23 (0, 0)))) (n := w.heap.size + 1 + 1 + 1 + 1) (by simp only [World.size_alloc]) (byteCells 32 []) 23)
  have Hb := hid b5
  have hbz := b5.size
  have Hbs := hid (show w.heap.size + 1 + 1 + 1 + 1 + 1 = (((((w.alloc (.cells #[.int .u32 la, .int .u64 tr, .int .i64 leaf, .int .i64 n] 142 (0, 0))).alloc (.cells #[.slice oa 67 oc, .slice aa n ac] 88 (0, 0))).alloc (.cells (m.map (Value.int .u8)).toArray 23 (0, 0))).alloc (.cells (pub.map (Value.int .u8)).toArray 23 (0, 0))).alloc (.cells (byteCells 32 []) 23 (0, 0))).heap.size by simp only [World.size_alloc])
  have Htab := hid tab
  clear b1 b2 b3 b4 b5 tab 
  go_enter Tryd.func102, Tryd.ntmps102
  go_wp2_with fail
  refine wp_region_late 10 9 10 [0, 1, 2, 3, 4, 5] [] [(.c 6, [7, 8, 9], [])] (by kernel_rfl) (by kernel_rfl) rfl (by kernel_rfl) (fun _ _ d _ _ h => by cases d <;> exact h) ?_
  simp only [late]
  apply Exists.intro
  refine ⟨fun w0 hb0 hF0 => ?_, ?_⟩
  · skip
    have x0 : ∀ w', (∃ x : Ext w0, w' = x.at_) → ∃ T, Blk w' (w.heap.size + 1 + 1) (m.map (Value.int .u8)).toArray T := fun w' ⟨x, hx⟩ => ⟨_, hx ▸ (Km.out.below hb0).below x.same⟩
    have x1 : ∀ w', (∃ x : Ext w0, w' = x.at_) → ∃ T, Blk w' (w.heap.size + 1 + 1 + 1) (pub.map (Value.int .u8)).toArray T := fun w' ⟨x, hx⟩ => ⟨_, hx ▸ (Ku.out.below hb0).below x.same⟩
    have x2 : ∀ w', (∃ x : Ext w0, w' = x.at_) → ∃ T, Blk w' (w.heap.size) #[.int .u32 la, .int .u64 tr, .int .i64 leaf, .int .i64 n] T := fun w' ⟨x, hx⟩ => ⟨_, hx ▸ (Kp.out.below hb0).below x.same⟩
    have y0 : ∀ w', (∃ x : Ext w0, w' = x.at_) → w'.cell? ⟨w.heap.size + 1, 0, none⟩ = some (.slice oa 67 oc) := fun w' ⟨x, hx⟩ => by rw [hx, ((Kx.out.below hb0).below x.same).cell]; rfl
    have c0 := fun e : Ext w0 => ots_pl la tr leaf n e.at_ htr hle
    simp only [pick, List.getElem?_toArray, List.getElem?_cons_succ, List.getElem?_cons_zero, Option.toList_some, List.cons_append, List.nil_append]
    repeat (first | (go_big_quiet_want; refine quiet_load_blk 23 _ rfl (w.heap.size + 1 + 1) rfl _ x0 _ Tryd.underlying23 rfl 32 size_digest hm.size ?_; go_big_quiet_on; simp only [Act.put, List.setIfInBounds_toArray, List.set_cons_zero, List.set_cons_succ]) | (go_big_quiet_want; refine quiet_load_blk 23 _ rfl (w.heap.size + 1 + 1 + 1) rfl _ x1 _ Tryd.underlying23 rfl 32 size_digest hpub.size ?_; go_big_quiet_on; simp only [Act.put, List.setIfInBounds_toArray, List.set_cons_zero, List.set_cons_succ]) | (go_big_quiet_want; refine quiet_load_blk 142 _ rfl (w.heap.size) rfl _ x2 _ Tryd.underlying142 rfl 4 size_place rfl ?_; go_big_quiet_on; simp only [Act.put, List.setIfInBounds_toArray, List.set_cons_zero, List.set_cons_succ]) | (go_big_quiet_want; refine quiet_load_one 28 _ rfl ⟨w.heap.size + 1, 0, none⟩ rfl _ y0 _ Tryd.underlying28 rfl ?_; go_big_quiet_on; simp only [Act.put, List.setIfInBounds_toArray, List.set_cons_zero, List.set_cons_succ]) | go_big_quiet_step (first | (go_at_call 130; with_reducible exact Calls.ext (c0 _))))
    exact wpQuiet_nil rfl
  refine AlChk.nil ?_
  refine Walk.call rfl 25 #[.slice oa 67 oc, .agg (m.map (Value.int .u8)).toArray, .agg (pub.map (Value.int .u8)).toArray, .agg ((otsZ la tr leaf).map (Value.int .u32)).toArray] (TupV 67 (rowW (fromP o m pub (otsZ la tr leaf)))) (fun v w' w'' h k => h.below k) rfl (fun w1 hb1 hF1 => ⟨by go_simp, ?_⟩) ?_
  · skip
    exact from_v o oa oc m pub (otsZ la tr leaf) w1 ((HO.out.below Hb.out).below hb1) hm hpub HA.out ((Htab.out.below Hb.out).below hb1)
  rintro v0 w1 hb1 hF1 ⟨pa, pc, rfl, _⟩
  apply Exists.intro
  refine ⟨fun w0 hb0 hF0 => ?_, ?_⟩
  · skip
    simp only [pick, List.getElem?_toArray, List.getElem?_cons_succ, List.getElem?_cons_zero, Option.toList_some, List.cons_append, List.nil_append, Act.put, List.setIfInBounds_toArray, List.set_cons_zero, List.set_cons_succ]
    repeat (first | go_big_quiet_step (fail))
    exact wpQuiet_nil rfl
  refine AlChk.nil ?_
  refine Walk.fin fun w1 hw1 hFw1 _ => ?_
  simp only [List.drop_succ_cons, List.drop_zero]
  have HFw1 := hid hFw1
  have HBw1 := hid (Below.on Hb.out hw1)
  have hsw1 := HBw1.out.size
  have Kpw1 := hid (Kp.out.below hw1)
  have Kxw1 := hid (Kx.out.below hw1)
  have Kmw1 := hid (Km.out.below hw1)
  have Kuw1 := hid (Ku.out.below hw1)
  have Krw1 := hid (Kr.out.below hw1)
  clear hw1 hFw1
  have Hp := hid ((show TupV 67 (rowW (fromP o m pub (otsZ la tr leaf))) (.tuple #[.slice pa 67 pc, .int .i64 0]) w1 from HFw1.out.2).digs)
  clear HFw1
  go_wp2_with fail
  refine wp_region_late 15 13 15 [0, 1, 2, 3, 4, 5, 6, 7, 8, 9, 10, 11, 12, 13] [14] [(.b 14, [], [])] (by kernel_rfl) (by kernel_rfl) rfl (by kernel_rfl) (fun _ _ d _ _ h => by cases d <;> exact h) ?_
  simp only [late]
  apply Exists.intro
  refine ⟨fun w0 hb0 hF0 => ?_, ?_⟩
  · skip
    have x0 : ∀ w', (∃ x : Ext w0, w' = x.at_) → ∃ T, Blk w' (w.heap.size + 1 + 1 + 1) (pub.map (Value.int .u8)).toArray T := fun w' ⟨x, hx⟩ => ⟨_, hx ▸ (Kuw1.out.below hb0).below x.same⟩
    have y0 : ∀ w', (∃ x : Ext w0, w' = x.at_) → w'.cell? ⟨w.heap.size, 0, none⟩ = some (.int .u32 la) := fun w' ⟨x, hx⟩ => by rw [hx, ((Kpw1.out.below hb0).below x.same).cell]; rfl
    have y1 : ∀ w', (∃ x : Ext w0, w' = x.at_) → w'.cell? ⟨w.heap.size, 1, none⟩ = some (.int .u64 tr) := fun w' ⟨x, hx⟩ => by rw [hx, ((Kpw1.out.below hb0).below x.same).cell]; rfl
    have y2 : ∀ w', (∃ x : Ext w0, w' = x.at_) → w'.cell? ⟨w.heap.size, 2, none⟩ = some (.int .i64 leaf) := fun w' ⟨x, hx⟩ => by rw [hx, ((Kpw1.out.below hb0).below x.same).cell]; rfl
    have c0 := fun e : Ext w0 => ltr_list la tr leaf e.at_ htr.1 htr.2
    have c1 := fun e : Ext w0 => CC.out pa pc e.at_ ((Hp.out.below hb0).below e.same) ((Htab.out.below (Below.on HBw1.out hb0)).below e.same)
    simp only [pick, List.getElem?_toArray, List.getElem?_cons_succ, List.getElem?_cons_zero, Option.toList_some, List.cons_append, List.nil_append]
    repeat (first | (go_big_quiet_want; refine quiet_load_blk 23 _ rfl (w.heap.size + 1 + 1 + 1) rfl _ x0 _ Tryd.underlying23 rfl 32 size_digest hpub.size ?_; go_big_quiet_on; simp only [Act.put, List.setIfInBounds_toArray, List.set_cons_zero, List.set_cons_succ]) | (go_big_quiet_want; refine quiet_load_one 24 _ rfl ⟨w.heap.size, 0, none⟩ rfl _ y0 _ Tryd.underlying24 rfl ?_; go_big_quiet_on; simp only [Act.put, List.setIfInBounds_toArray, List.set_cons_zero, List.set_cons_succ]) | (go_big_quiet_want; refine quiet_load_one 49 _ rfl ⟨w.heap.size, 1, none⟩ rfl _ y1 _ Tryd.underlying49 rfl ?_; go_big_quiet_on; simp only [Act.put, List.setIfInBounds_toArray, List.set_cons_zero, List.set_cons_succ]) | (go_big_quiet_want; refine quiet_load_one 3 _ rfl ⟨w.heap.size, 2, none⟩ rfl _ y2 _ Tryd.underlying3 rfl ?_; go_big_quiet_on; simp only [Act.put, List.setIfInBounds_toArray, List.set_cons_zero, List.set_cons_succ]) | go_big_quiet_step (first | (go_at_call 94; with_reducible exact Calls.ext (c0 _)) | (go_at_call 28; with_reducible exact Calls.ext (c1 _))))
    exact wpQuiet_nil rfl
  refine AlChk.one rfl (fun b => .pointer (some ⟨b, 0, none⟩)) (.cells (byteCells 32 []) 23 (0, 0)) rfl (fun w3 hb3 hF3 => by go_simp; rfl) ?_
  refine AlChk.nil ?_
  refine Walk.blk rfl (fun b => .pointer (some ⟨b, 0, none⟩)) (.cells (byteCells 32 []) 23 (0, 0)) (by simp) ?_
  intro bw2 wz hbz_ hFz hgew2 _
  apply Exists.intro
  refine ⟨fun w4 hb4 hF4 => wpQuiet_nil rfl, ?_⟩
  refine AlChk.nil ?_
  refine Walk.fin fun w2 hw2 hFw2 _ => ?_
  simp only [List.drop_succ_cons, List.drop_zero]
  have kbw2 : Blk w2 bw2 (byteCells 32 []) 23 := hFw2.2
  have Kzw2 := hid kbw2
  have hgww2 : w.heap.size ≤ bw2 := Nat.le_trans HBw1.out.size hgew2
  clear hbz_ hFz hFw2 kbw2
  have hnpw2 : w.heap.size ≠ bw2 := by have := Kpw1.out.lt; omega
  have hnxw2 : w.heap.size + 1 ≠ bw2 := by have := Kxw1.out.lt; omega
  have hnmw2 : w.heap.size + 1 + 1 ≠ bw2 := by have := Kmw1.out.lt; omega
  have hnuw2 : w.heap.size + 1 + 1 + 1 ≠ bw2 := by have := Kuw1.out.lt; omega
  have hnrw2 : w.heap.size + 1 + 1 + 1 + 1 ≠ bw2 := by have := Krw1.out.lt; omega
  have HBw2 := hid (Below.on HBw1.out hw2)
  have hsw2 := HBw2.out.size
  have Kpw2 := hid (Kpw1.out.below hw2)
  have Kxw2 := hid (Kxw1.out.below hw2)
  have Kmw2 := hid (Kmw1.out.below hw2)
  have Kuw2 := hid (Kuw1.out.below hw2)
  have Krw2 := hid (Krw1.out.below hw2)
  clear hw2
  go_wp2_with (first
     | (
        refine wpList_store_blk rfl 23 _ _ rfl bw2 (lf.map (Value.int .u8)).toArray rfl rfl _ 23 Kzw2.out 32 size_digest zsize HLF.out.size (ints_one _ _) ?_
        intro w3 hbw3 hkw3
        have HBw3 := hid (hbw3.below HBw2.out HBw2.out.size hgww2)
        have hsw3 := HBw3.out.size
        have Kyw3 := hid hkw3
        have Kpw3 := hid (hbw3.blk Kpw2.out hnpw2)
        have Kxw3 := hid (hbw3.blk Kxw2.out hnxw2)
        have Kmw3 := hid (hbw3.blk Kmw2.out hnmw2)
        have Kuw3 := hid (hbw3.blk Kuw2.out hnuw2)
        have Krw3 := hid (hbw3.blk Krw2.out hnrw2)
        clear hbw3 hkw3
        have d0 : w3.cell? ⟨w.heap.size, 0, none⟩ = some (.int .u32 la) := by rw [Kpw3.out.cell]; rfl
        have d1 : w3.cell? ⟨w.heap.size, 1, none⟩ = some (.int .u64 tr) := by rw [Kpw3.out.cell]; rfl
        have d2 : w3.cell? ⟨w.heap.size, 2, none⟩ = some (.int .i64 leaf) := by rw [Kpw3.out.cell]; rfl
        have d3 : w3.cell? ⟨w.heap.size + 1, 1, none⟩ = some (.slice aa n ac) := by rw [Kxw3.out.cell]; rfl)
     | (refine wpList_load_blk rfl 23 _ rfl (bw2) rfl _ 23 Kyw3.out _ Tryd.underlying23 rfl 32 size_digest HLF.out.size ?_)
     | (refine wpList_load_blk rfl 23 _ rfl (w.heap.size + 1 + 1 + 1) rfl _ 23 Kuw3.out _ Tryd.underlying23 rfl 32 size_digest hpub.size ?_))
  refine (CL.out _ (HAu.out.below HBw3.out) (Htab.out.below HBw3.out)).mono ?_
  rintro e w4 ⟨rfl, bw4⟩
  have HBw4 := hid (Below.on HBw3.out bw4)
  have hsw4 := HBw4.out.size
  have Kpw4 := hid (Kpw3.out.below bw4)
  have Kxw4 := hid (Kxw3.out.below bw4)
  have Kmw4 := hid (Kmw3.out.below bw4)
  have Kuw4 := hid (Kuw3.out.below bw4)
  have Krw4 := hid (Krw3.out.below bw4)
  have Kyw4 := hid (Kyw3.out.below bw4)
  clear bw4
  go_wp2_with (first
     | (
        refine wpList_store_blk rfl 23 _ _ rfl (w4.heap.size) (R.map (Value.int .u8)).toArray rfl rfl _ 23 (Blk.new rfl (byteCells 32 []) _) 32 size_digest zsize HR.out.size (ints_one _ _) ?_
        intro w5 hbw5 hkw5
        have hw5 := hbw5.below ((Below.refl w4.heap.size w4).alloc (Nat.le_refl _) _) (by simp only [World.size_alloc]; omega) (Nat.le_refl _)
        have HBw5 := hid (Below.on HBw4.out hw5)
        have hsw5 := HBw5.out.size
        have Kpw5 := hid (Kpw4.out.below hw5)
        have hlpw5 := Kpw4.out.lt
        have Kxw5 := hid (Kxw4.out.below hw5)
        have hlxw5 := Kxw4.out.lt
        have Kmw5 := hid (Kmw4.out.below hw5)
        have hlmw5 := Kmw4.out.lt
        have Kuw5 := hid (Kuw4.out.below hw5)
        have hluw5 := Kuw4.out.lt
        have Krw5 := hid (Krw4.out.below hw5)
        have hlrw5 := Krw4.out.lt
        have Kyw5 := hid (Kyw4.out.below hw5)
        have hlyw5 := Kyw4.out.lt
        have Ktw5 := hid hkw5
        have hfw5 : w.heap.size ≤ w4.heap.size := HBw4.out.size
        clear hbw5 hkw5 hw5)
     | (refine wpList_load_blk rfl 23 _ rfl (w4.heap.size) rfl _ 23 Ktw5.out _ Tryd.underlying23 rfl 32 size_digest HR.out.size ?_)
     | (
      refine wpList_store_blk rfl 23 _ _ rfl (w.heap.size + 1 + 1 + 1 + 1) (R.map (Value.int .u8)).toArray rfl rfl _ 23 Krw5.out 32 size_digest zsize HR.out.size (ints_one _ _) ?_
      intro w9 hb9 hk9
      have HB9 := hid (hb9.below HBw5.out HBw5.out.size (by omega))
      have HK9 := hid hk9
      clear hb9 hk9))
  exact bodyPost_ret (v := .tuple #[.agg (R.map (Value.int .u8)).toArray, .bool true]) (results_blk_tmp Tryd.results102 _ (w.heap.size + 1 + 1 + 1 + 1) rfl _ rfl _ 23 HK9.out _ Tryd.underlying23 rfl 32 size_digest HR.out.size) rfl ⟨rfl, HB9.out⟩
end Go.Proofs.YtjkfbeillmeomaaDoor
