/-
  Layer 11: places, and the root that a part leads to.
-/
import Derived.Test.YtjkfbeillmeomaaGreatDoorSZSigF
namespace Go.Proofs.YtjkfbeillmeomaaGreatDoor
set_option maxRecDepth 100000
open Go.ChangeShapes Go.WideShapes Go.ChangeAt Go.RowKit
theorem size_place : (Tryz.prog.info? 57).map (·.size) = some 4 := by kernel_rfl
/-- What a part of a signature of a digest leads to. -/
@[irreducible] def rootZ (pub : List Int) (V : Nat) (la tr leaf : Int) (o a : List (List Int)) (m : List Int) : List Int :=
  climbZ pub (treeZ la tr) leaf a (compZ pub (ltrZ la tr leaf) 67 0 (rowW (fromP o m pub (otsZ la tr leaf)))) V
set_option maxHeartbeats 4000000 in
theorem within_1 (la0 tr leaf0 la : Int) (w : World) (h0 : 0 ≤ tr) (h1 : tr < 18446744073709551616) :
    Calls Tryz.prog 36 #[.agg #[.int .u32 la0, .int .u64 tr, .int .i64 leaf0, .int .i64 1], .int .u32 la] w fun e w' => e = .returned (.agg #[.int .u32 la, .int .u64 (tr / 2), .int .i64 (tr % 2), .int .i64 1]) ∧ Below w.heap.size w w' := by
  have b1 := (Below.refl w.heap.size w).alloc (Nat.le_refl _) (.cells #[.int .u32 la0, .int .u64 tr, .int .i64 leaf0, .int .i64 1] 57 (0, 0))
  have b2 := b1.alloc b1.size (.cells #[.int .u32 0, .int .u64 0, .int .i64 0, .int .i64 0] 57 (0, 0))
  have Kp := hid ((Blk.new (w := w) (n := w.heap.size) rfl #[.int .u32 la0, .int .u64 tr, .int .i64 leaf0, .int .i64 1] 57).old (.cells #[.int .u32 0, .int .u64 0, .int .i64 0, .int .i64 0] 57 (0, 0)))
  have Kr := hid (Blk.new (w := (w.alloc (.cells #[.int .u32 la0, .int .u64 tr, .int .i64 leaf0, .int .i64 1] 57 (0, 0)))) (n := w.heap.size + 1) (by simp only [World.size_alloc]) #[.int .u32 0, .int .u64 0, .int .i64 0, .int .i64 0] 57)
  have Hb := hid b2
  have hbz := b2.size
  have Hbs := hid (show w.heap.size + 1 + 1 = ((w.alloc (.cells #[.int .u32 la0, .int .u64 tr, .int .i64 leaf0, .int .i64 1] 57 (0, 0))).alloc (.cells #[.int .u32 0, .int .u64 0, .int .i64 0, .int .i64 0] 57 (0, 0))).heap.size by simp only [World.size_alloc])
  clear b1 b2 
  go_enter Tryz.func36, Tryz.ntmps36
  go_wp2_with fail
  refine wp_region_flow 13 (List.range 13) [] [] (by kernel_rfl) (by kernel_rfl) ?_
  apply Exists.intro
  refine ⟨fun w0 hb0 hF0 => ?_, ?_⟩
  · skip
    have y0 : ∀ w', (∃ x : Ext w0, w' = x.at_) → w'.cell? ⟨w.heap.size, 1, none⟩ = some (.int .u64 tr) := fun w' ⟨x, hx⟩ => by rw [hx, ((Kp.out.below hb0).below x.same).cell]; rfl
    have y1 : ∀ w', (∃ x : Ext w0, w' = x.at_) → w'.cell? ⟨w.heap.size, 3, none⟩ = some (.int .i64 1) := fun w' ⟨x, hx⟩ => by rw [hx, ((Kp.out.below hb0).below x.same).cell]; rfl
    have hw : wrap64 (tr % 2) = tr % 2 := by unfold wrap64; omega
    simp only [pick, List.range, List.range.loop, List.getElem?_toArray, List.getElem?_cons_succ, List.getElem?_cons_zero, Option.toList_some, List.cons_append, List.nil_append]
    repeat (first | (go_big_quiet_want; refine quiet_load_one 53 _ rfl ⟨w.heap.size, 1, none⟩ rfl _ y0 _ Tryz.underlying53 rfl ?_; go_big_quiet_on; simp only [Act.put, List.setIfInBounds_toArray, List.set_cons_zero, List.set_cons_succ]) | (go_big_quiet_want; refine quiet_load_one 3 _ rfl ⟨w.heap.size, 3, none⟩ rfl _ y1 _ Tryz.underlying3 rfl ?_; go_big_quiet_on; simp only [Act.put, List.setIfInBounds_toArray, List.set_cons_zero, List.set_cons_succ]) | go_big_quiet_step (fail))
    exact wpQuiet_nil rfl
  refine AlChk.nil ?_
  refine Walk.fin fun w1 hw1 _ _ => ?_
  simp only [List.drop_succ_cons, List.drop_zero]
  have HBw1 := hid (Below.on Hb.out hw1)
  have hsw1 := HBw1.out.size
  have Kpw1 := hid (Kp.out.below hw1)
  have Krw1 := hid (Kr.out.below hw1)
  clear hw1
  have Kpw2 : Hid (Blk ((((w1.setCell ⟨w.heap.size + 1, 0, none⟩ (.int .u32 la)).setCell ⟨w.heap.size + 1, 1, none⟩ (.int .u64 (tr / 2))).setCell ⟨w.heap.size + 1, 2, none⟩ (.int .i64 (tr % 2))).setCell ⟨w.heap.size + 1, 3, none⟩ (.int .i64 1)) (w.heap.size) #[.int .u32 la0, .int .u64 tr, .int .i64 leaf0, .int .i64 1] 57) := hid (Blk.setAll_other (b := w.heap.size + 1) (by have := Kpw1.out.lt; omega) [.int .u32 la, .int .u64 (tr / 2), .int .i64 (tr % 2), .int .i64 1] 0 _ Kpw1.out)
  have q0w2 := (Krw1.out.cell 0).trans (show _ = some _ from rfl)
  have r0w2 := Krw1.out.free 0
  have q1w2 := (Krw1.out.cell 1).trans (show _ = some _ from rfl)
  have r1w2 := Krw1.out.free 1
  have q2w2 := (Krw1.out.cell 2).trans (show _ = some _ from rfl)
  have r2w2 := Krw1.out.free 2
  have q3w2 := (Krw1.out.cell 3).trans (show _ = some _ from rfl)
  have r3w2 := Krw1.out.free 3
  have Krw2 : Hid (Blk ((((w1.setCell ⟨w.heap.size + 1, 0, none⟩ (.int .u32 la)).setCell ⟨w.heap.size + 1, 1, none⟩ (.int .u64 (tr / 2))).setCell ⟨w.heap.size + 1, 2, none⟩ (.int .i64 (tr % 2))).setCell ⟨w.heap.size + 1, 3, none⟩ (.int .i64 1)) (w.heap.size + 1) #[.int .u32 la, .int .u64 (tr / 2), .int .i64 (tr % 2), .int .i64 1] 57) := hid (Blk.setAll_self Krw1.out [.int .u32 la, .int .u64 (tr / 2), .int .i64 (tr % 2), .int .i64 1] rfl)
  have HBw2 : Hid (Below w.heap.size w ((((w1.setCell ⟨w.heap.size + 1, 0, none⟩ (.int .u32 la)).setCell ⟨w.heap.size + 1, 1, none⟩ (.int .u64 (tr / 2))).setCell ⟨w.heap.size + 1, 2, none⟩ (.int .i64 (tr % 2))).setCell ⟨w.heap.size + 1, 3, none⟩ (.int .i64 1))) := hid (Below.setAll (by omega) [.int .u32 la, .int .u64 (tr / 2), .int .i64 (tr % 2), .int .i64 1] 0 _ HBw1.out)
  have hsw2 := HBw2.out.size
  go_wp2_with fail
  exact bodyPost_ret (v := .agg #[.int .u32 la, .int .u64 (tr / 2), .int .i64 (tr % 2), .int .i64 1]) (results_blk Tryz.results36 _ (w.heap.size + 1) rfl _ 57 Krw2.out _ Tryz.underlying57 rfl 4 size_place rfl) rfl ⟨rfl, HBw2.out⟩
set_option maxHeartbeats 4000000 in
theorem within_2 (la0 tr leaf0 la : Int) (w : World) (h0 : 0 ≤ tr) (h1 : tr < 18446744073709551616) :
    Calls Tryz.prog 36 #[.agg #[.int .u32 la0, .int .u64 tr, .int .i64 leaf0, .int .i64 2], .int .u32 la] w fun e w' => e = .returned (.agg #[.int .u32 la, .int .u64 (tr / 4), .int .i64 (tr % 4), .int .i64 2]) ∧ Below w.heap.size w w' := by
  have b1 := (Below.refl w.heap.size w).alloc (Nat.le_refl _) (.cells #[.int .u32 la0, .int .u64 tr, .int .i64 leaf0, .int .i64 2] 57 (0, 0))
  have b2 := b1.alloc b1.size (.cells #[.int .u32 0, .int .u64 0, .int .i64 0, .int .i64 0] 57 (0, 0))
  have Kp := hid ((Blk.new (w := w) (n := w.heap.size) rfl #[.int .u32 la0, .int .u64 tr, .int .i64 leaf0, .int .i64 2] 57).old (.cells #[.int .u32 0, .int .u64 0, .int .i64 0, .int .i64 0] 57 (0, 0)))
  have Kr := hid (Blk.new (w := (w.alloc (.cells #[.int .u32 la0, .int .u64 tr, .int .i64 leaf0, .int .i64 2] 57 (0, 0)))) (n := w.heap.size + 1) (by simp only [World.size_alloc]) #[.int .u32 0, .int .u64 0, .int .i64 0, .int .i64 0] 57)
  have Hb := hid b2
  have hbz := b2.size
  have Hbs := hid (show w.heap.size + 1 + 1 = ((w.alloc (.cells #[.int .u32 la0, .int .u64 tr, .int .i64 leaf0, .int .i64 2] 57 (0, 0))).alloc (.cells #[.int .u32 0, .int .u64 0, .int .i64 0, .int .i64 0] 57 (0, 0))).heap.size by simp only [World.size_alloc])
  clear b1 b2 
  go_enter Tryz.func36, Tryz.ntmps36
  go_wp2_with fail
  refine wp_region_flow 13 (List.range 13) [] [] (by kernel_rfl) (by kernel_rfl) ?_
  apply Exists.intro
  refine ⟨fun w0 hb0 hF0 => ?_, ?_⟩
  · skip
    have y0 : ∀ w', (∃ x : Ext w0, w' = x.at_) → w'.cell? ⟨w.heap.size, 1, none⟩ = some (.int .u64 tr) := fun w' ⟨x, hx⟩ => by rw [hx, ((Kp.out.below hb0).below x.same).cell]; rfl
    have y1 : ∀ w', (∃ x : Ext w0, w' = x.at_) → w'.cell? ⟨w.heap.size, 3, none⟩ = some (.int .i64 2) := fun w' ⟨x, hx⟩ => by rw [hx, ((Kp.out.below hb0).below x.same).cell]; rfl
    have hw : wrap64 (tr % 4) = tr % 4 := by unfold wrap64; omega
    simp only [pick, List.range, List.range.loop, List.getElem?_toArray, List.getElem?_cons_succ, List.getElem?_cons_zero, Option.toList_some, List.cons_append, List.nil_append]
    repeat (first | (go_big_quiet_want; refine quiet_load_one 53 _ rfl ⟨w.heap.size, 1, none⟩ rfl _ y0 _ Tryz.underlying53 rfl ?_; go_big_quiet_on; simp only [Act.put, List.setIfInBounds_toArray, List.set_cons_zero, List.set_cons_succ]) | (go_big_quiet_want; refine quiet_load_one 3 _ rfl ⟨w.heap.size, 3, none⟩ rfl _ y1 _ Tryz.underlying3 rfl ?_; go_big_quiet_on; simp only [Act.put, List.setIfInBounds_toArray, List.set_cons_zero, List.set_cons_succ]) | go_big_quiet_step (fail))
    exact wpQuiet_nil rfl
  refine AlChk.nil ?_
  refine Walk.fin fun w1 hw1 _ _ => ?_
  simp only [List.drop_succ_cons, List.drop_zero]
  have HBw1 := hid (Below.on Hb.out hw1)
  have hsw1 := HBw1.out.size
  have Kpw1 := hid (Kp.out.below hw1)
  have Krw1 := hid (Kr.out.below hw1)
  clear hw1
  have Kpw2 : Hid (Blk ((((w1.setCell ⟨w.heap.size + 1, 0, none⟩ (.int .u32 la)).setCell ⟨w.heap.size + 1, 1, none⟩ (.int .u64 (tr / 4))).setCell ⟨w.heap.size + 1, 2, none⟩ (.int .i64 (tr % 4))).setCell ⟨w.heap.size + 1, 3, none⟩ (.int .i64 2)) (w.heap.size) #[.int .u32 la0, .int .u64 tr, .int .i64 leaf0, .int .i64 2] 57) := hid (Blk.setAll_other (b := w.heap.size + 1) (by have := Kpw1.out.lt; omega) [.int .u32 la, .int .u64 (tr / 4), .int .i64 (tr % 4), .int .i64 2] 0 _ Kpw1.out)
  have q0w2 := (Krw1.out.cell 0).trans (show _ = some _ from rfl)
  have r0w2 := Krw1.out.free 0
  have q1w2 := (Krw1.out.cell 1).trans (show _ = some _ from rfl)
  have r1w2 := Krw1.out.free 1
  have q2w2 := (Krw1.out.cell 2).trans (show _ = some _ from rfl)
  have r2w2 := Krw1.out.free 2
  have q3w2 := (Krw1.out.cell 3).trans (show _ = some _ from rfl)
  have r3w2 := Krw1.out.free 3
  have Krw2 : Hid (Blk ((((w1.setCell ⟨w.heap.size + 1, 0, none⟩ (.int .u32 la)).setCell ⟨w.heap.size + 1, 1, none⟩ (.int .u64 (tr / 4))).setCell ⟨w.heap.size + 1, 2, none⟩ (.int .i64 (tr % 4))).setCell ⟨w.heap.size + 1, 3, none⟩ (.int .i64 2)) (w.heap.size + 1) #[.int .u32 la, .int .u64 (tr / 4), .int .i64 (tr % 4), .int .i64 2] 57) := hid (Blk.setAll_self Krw1.out [.int .u32 la, .int .u64 (tr / 4), .int .i64 (tr % 4), .int .i64 2] rfl)
  have HBw2 : Hid (Below w.heap.size w ((((w1.setCell ⟨w.heap.size + 1, 0, none⟩ (.int .u32 la)).setCell ⟨w.heap.size + 1, 1, none⟩ (.int .u64 (tr / 4))).setCell ⟨w.heap.size + 1, 2, none⟩ (.int .i64 (tr % 4))).setCell ⟨w.heap.size + 1, 3, none⟩ (.int .i64 2))) := hid (Below.setAll (by omega) [.int .u32 la, .int .u64 (tr / 4), .int .i64 (tr % 4), .int .i64 2] 0 _ HBw1.out)
  have hsw2 := HBw2.out.size
  go_wp2_with fail
  exact bodyPost_ret (v := .agg #[.int .u32 la, .int .u64 (tr / 4), .int .i64 (tr % 4), .int .i64 2]) (results_blk Tryz.results36 _ (w.heap.size + 1) rfl _ 57 Krw2.out _ Tryz.underlying57 rfl 4 size_place rfl) rfl ⟨rfl, HBw2.out⟩
set_option maxHeartbeats 4000000 in
theorem within_3 (la0 tr leaf0 la : Int) (w : World) (h0 : 0 ≤ tr) (h1 : tr < 18446744073709551616) :
    Calls Tryz.prog 36 #[.agg #[.int .u32 la0, .int .u64 tr, .int .i64 leaf0, .int .i64 3], .int .u32 la] w fun e w' => e = .returned (.agg #[.int .u32 la, .int .u64 (tr / 8), .int .i64 (tr % 8), .int .i64 3]) ∧ Below w.heap.size w w' := by
  have b1 := (Below.refl w.heap.size w).alloc (Nat.le_refl _) (.cells #[.int .u32 la0, .int .u64 tr, .int .i64 leaf0, .int .i64 3] 57 (0, 0))
  have b2 := b1.alloc b1.size (.cells #[.int .u32 0, .int .u64 0, .int .i64 0, .int .i64 0] 57 (0, 0))
  have Kp := hid ((Blk.new (w := w) (n := w.heap.size) rfl #[.int .u32 la0, .int .u64 tr, .int .i64 leaf0, .int .i64 3] 57).old (.cells #[.int .u32 0, .int .u64 0, .int .i64 0, .int .i64 0] 57 (0, 0)))
  have Kr := hid (Blk.new (w := (w.alloc (.cells #[.int .u32 la0, .int .u64 tr, .int .i64 leaf0, .int .i64 3] 57 (0, 0)))) (n := w.heap.size + 1) (by simp only [World.size_alloc]) #[.int .u32 0, .int .u64 0, .int .i64 0, .int .i64 0] 57)
  have Hb := hid b2
  have hbz := b2.size
  have Hbs := hid (show w.heap.size + 1 + 1 = ((w.alloc (.cells #[.int .u32 la0, .int .u64 tr, .int .i64 leaf0, .int .i64 3] 57 (0, 0))).alloc (.cells #[.int .u32 0, .int .u64 0, .int .i64 0, .int .i64 0] 57 (0, 0))).heap.size by simp only [World.size_alloc])
  clear b1 b2 
  go_enter Tryz.func36, Tryz.ntmps36
  go_wp2_with fail
  refine wp_region_flow 13 (List.range 13) [] [] (by kernel_rfl) (by kernel_rfl) ?_
  apply Exists.intro
  refine ⟨fun w0 hb0 hF0 => ?_, ?_⟩
  · skip
    have y0 : ∀ w', (∃ x : Ext w0, w' = x.at_) → w'.cell? ⟨w.heap.size, 1, none⟩ = some (.int .u64 tr) := fun w' ⟨x, hx⟩ => by rw [hx, ((Kp.out.below hb0).below x.same).cell]; rfl
    have y1 : ∀ w', (∃ x : Ext w0, w' = x.at_) → w'.cell? ⟨w.heap.size, 3, none⟩ = some (.int .i64 3) := fun w' ⟨x, hx⟩ => by rw [hx, ((Kp.out.below hb0).below x.same).cell]; rfl
    have hw : wrap64 (tr % 8) = tr % 8 := by unfold wrap64; omega
    simp only [pick, List.range, List.range.loop, List.getElem?_toArray, List.getElem?_cons_succ, List.getElem?_cons_zero, Option.toList_some, List.cons_append, List.nil_append]
    repeat (first | (go_big_quiet_want; refine quiet_load_one 53 _ rfl ⟨w.heap.size, 1, none⟩ rfl _ y0 _ Tryz.underlying53 rfl ?_; go_big_quiet_on; simp only [Act.put, List.setIfInBounds_toArray, List.set_cons_zero, List.set_cons_succ]) | (go_big_quiet_want; refine quiet_load_one 3 _ rfl ⟨w.heap.size, 3, none⟩ rfl _ y1 _ Tryz.underlying3 rfl ?_; go_big_quiet_on; simp only [Act.put, List.setIfInBounds_toArray, List.set_cons_zero, List.set_cons_succ]) | go_big_quiet_step (fail))
    exact wpQuiet_nil rfl
  refine AlChk.nil ?_
  refine Walk.fin fun w1 hw1 _ _ => ?_
  simp only [List.drop_succ_cons, List.drop_zero]
  have HBw1 := hid (Below.on Hb.out hw1)
  have hsw1 := HBw1.out.size
  have Kpw1 := hid (Kp.out.below hw1)
  have Krw1 := hid (Kr.out.below hw1)
  clear hw1
  have Kpw2 : Hid (Blk ((((w1.setCell ⟨w.heap.size + 1, 0, none⟩ (.int .u32 la)).setCell ⟨w.heap.size + 1, 1, none⟩ (.int .u64 (tr / 8))).setCell ⟨w.heap.size + 1, 2, none⟩ (.int .i64 (tr % 8))).setCell ⟨w.heap.size + 1, 3, none⟩ (.int .i64 3)) (w.heap.size) #[.int .u32 la0, .int .u64 tr, .int .i64 leaf0, .int .i64 3] 57) := hid (Blk.setAll_other (b := w.heap.size + 1) (by have := Kpw1.out.lt; omega) [.int .u32 la, .int .u64 (tr / 8), .int .i64 (tr % 8), .int .i64 3] 0 _ Kpw1.out)
  have q0w2 := (Krw1.out.cell 0).trans (show _ = some _ from rfl)
  have r0w2 := Krw1.out.free 0
  have q1w2 := (Krw1.out.cell 1).trans (show _ = some _ from rfl)
  have r1w2 := Krw1.out.free 1
  have q2w2 := (Krw1.out.cell 2).trans (show _ = some _ from rfl)
  have r2w2 := Krw1.out.free 2
  have q3w2 := (Krw1.out.cell 3).trans (show _ = some _ from rfl)
  have r3w2 := Krw1.out.free 3
  have Krw2 : Hid (Blk ((((w1.setCell ⟨w.heap.size + 1, 0, none⟩ (.int .u32 la)).setCell ⟨w.heap.size + 1, 1, none⟩ (.int .u64 (tr / 8))).setCell ⟨w.heap.size + 1, 2, none⟩ (.int .i64 (tr % 8))).setCell ⟨w.heap.size + 1, 3, none⟩ (.int .i64 3)) (w.heap.size + 1) #[.int .u32 la, .int .u64 (tr / 8), .int .i64 (tr % 8), .int .i64 3] 57) := hid (Blk.setAll_self Krw1.out [.int .u32 la, .int .u64 (tr / 8), .int .i64 (tr % 8), .int .i64 3] rfl)
  have HBw2 : Hid (Below w.heap.size w ((((w1.setCell ⟨w.heap.size + 1, 0, none⟩ (.int .u32 la)).setCell ⟨w.heap.size + 1, 1, none⟩ (.int .u64 (tr / 8))).setCell ⟨w.heap.size + 1, 2, none⟩ (.int .i64 (tr % 8))).setCell ⟨w.heap.size + 1, 3, none⟩ (.int .i64 3))) := hid (Below.setAll (by omega) [.int .u32 la, .int .u64 (tr / 8), .int .i64 (tr % 8), .int .i64 3] 0 _ HBw1.out)
  have hsw2 := HBw2.out.size
  go_wp2_with fail
  exact bodyPost_ret (v := .agg #[.int .u32 la, .int .u64 (tr / 8), .int .i64 (tr % 8), .int .i64 3]) (results_blk Tryz.results36 _ (w.heap.size + 1) rfl _ 57 Krw2.out _ Tryz.underlying57 rfl 4 size_place rfl) rfl ⟨rfl, HBw2.out⟩
set_option maxHeartbeats 4000000 in
theorem within_4 (la0 tr leaf0 la : Int) (w : World) (h0 : 0 ≤ tr) (h1 : tr < 18446744073709551616) :
    Calls Tryz.prog 36 #[.agg #[.int .u32 la0, .int .u64 tr, .int .i64 leaf0, .int .i64 4], .int .u32 la] w fun e w' => e = .returned (.agg #[.int .u32 la, .int .u64 (tr / 16), .int .i64 (tr % 16), .int .i64 4]) ∧ Below w.heap.size w w' := by
  have b1 := (Below.refl w.heap.size w).alloc (Nat.le_refl _) (.cells #[.int .u32 la0, .int .u64 tr, .int .i64 leaf0, .int .i64 4] 57 (0, 0))
  have b2 := b1.alloc b1.size (.cells #[.int .u32 0, .int .u64 0, .int .i64 0, .int .i64 0] 57 (0, 0))
  have Kp := hid ((Blk.new (w := w) (n := w.heap.size) rfl #[.int .u32 la0, .int .u64 tr, .int .i64 leaf0, .int .i64 4] 57).old (.cells #[.int .u32 0, .int .u64 0, .int .i64 0, .int .i64 0] 57 (0, 0)))
  have Kr := hid (Blk.new (w := (w.alloc (.cells #[.int .u32 la0, .int .u64 tr, .int .i64 leaf0, .int .i64 4] 57 (0, 0)))) (n := w.heap.size + 1) (by simp only [World.size_alloc]) #[.int .u32 0, .int .u64 0, .int .i64 0, .int .i64 0] 57)
  have Hb := hid b2
  have hbz := b2.size
  have Hbs := hid (show w.heap.size + 1 + 1 = ((w.alloc (.cells #[.int .u32 la0, .int .u64 tr, .int .i64 leaf0, .int .i64 4] 57 (0, 0))).alloc (.cells #[.int .u32 0, .int .u64 0, .int .i64 0, .int .i64 0] 57 (0, 0))).heap.size by simp only [World.size_alloc])
  clear b1 b2 
  go_enter Tryz.func36, Tryz.ntmps36
  go_wp2_with fail
  refine wp_region_flow 13 (List.range 13) [] [] (by kernel_rfl) (by kernel_rfl) ?_
  apply Exists.intro
  refine ⟨fun w0 hb0 hF0 => ?_, ?_⟩
  · skip
    have y0 : ∀ w', (∃ x : Ext w0, w' = x.at_) → w'.cell? ⟨w.heap.size, 1, none⟩ = some (.int .u64 tr) := fun w' ⟨x, hx⟩ => by rw [hx, ((Kp.out.below hb0).below x.same).cell]; rfl
    have y1 : ∀ w', (∃ x : Ext w0, w' = x.at_) → w'.cell? ⟨w.heap.size, 3, none⟩ = some (.int .i64 4) := fun w' ⟨x, hx⟩ => by rw [hx, ((Kp.out.below hb0).below x.same).cell]; rfl
    have hw : wrap64 (tr % 16) = tr % 16 := by unfold wrap64; omega
    simp only [pick, List.range, List.range.loop, List.getElem?_toArray, List.getElem?_cons_succ, List.getElem?_cons_zero, Option.toList_some, List.cons_append, List.nil_append]
    repeat (first | (go_big_quiet_want; refine quiet_load_one 53 _ rfl ⟨w.heap.size, 1, none⟩ rfl _ y0 _ Tryz.underlying53 rfl ?_; go_big_quiet_on; simp only [Act.put, List.setIfInBounds_toArray, List.set_cons_zero, List.set_cons_succ]) | (go_big_quiet_want; refine quiet_load_one 3 _ rfl ⟨w.heap.size, 3, none⟩ rfl _ y1 _ Tryz.underlying3 rfl ?_; go_big_quiet_on; simp only [Act.put, List.setIfInBounds_toArray, List.set_cons_zero, List.set_cons_succ]) | go_big_quiet_step (fail))
    exact wpQuiet_nil rfl
  refine AlChk.nil ?_
  refine Walk.fin fun w1 hw1 _ _ => ?_
  simp only [List.drop_succ_cons, List.drop_zero]
  have HBw1 := hid (Below.on Hb.out hw1)
  have hsw1 := HBw1.out.size
  have Kpw1 := hid (Kp.out.below hw1)
  have Krw1 := hid (Kr.out.below hw1)
  clear hw1
  have Kpw2 : Hid (Blk ((((w1.setCell ⟨w.heap.size + 1, 0, none⟩ (.int .u32 la)).setCell ⟨w.heap.size + 1, 1, none⟩ (.int .u64 (tr / 16))).setCell ⟨w.heap.size + 1, 2, none⟩ (.int .i64 (tr % 16))).setCell ⟨w.heap.size + 1, 3, none⟩ (.int .i64 4)) (w.heap.size) #[.int .u32 la0, .int .u64 tr, .int .i64 leaf0, .int .i64 4] 57) := hid (Blk.setAll_other (b := w.heap.size + 1) (by have := Kpw1.out.lt; omega) [.int .u32 la, .int .u64 (tr / 16), .int .i64 (tr % 16), .int .i64 4] 0 _ Kpw1.out)
  have q0w2 := (Krw1.out.cell 0).trans (show _ = some _ from rfl)
  have r0w2 := Krw1.out.free 0
  have q1w2 := (Krw1.out.cell 1).trans (show _ = some _ from rfl)
  have r1w2 := Krw1.out.free 1
  have q2w2 := (Krw1.out.cell 2).trans (show _ = some _ from rfl)
  have r2w2 := Krw1.out.free 2
  have q3w2 := (Krw1.out.cell 3).trans (show _ = some _ from rfl)
  have r3w2 := Krw1.out.free 3
  have Krw2 : Hid (Blk ((((w1.setCell ⟨w.heap.size + 1, 0, none⟩ (.int .u32 la)).setCell ⟨w.heap.size + 1, 1, none⟩ (.int .u64 (tr / 16))).setCell ⟨w.heap.size + 1, 2, none⟩ (.int .i64 (tr % 16))).setCell ⟨w.heap.size + 1, 3, none⟩ (.int .i64 4)) (w.heap.size + 1) #[.int .u32 la, .int .u64 (tr / 16), .int .i64 (tr % 16), .int .i64 4] 57) := hid (Blk.setAll_self Krw1.out [.int .u32 la, .int .u64 (tr / 16), .int .i64 (tr % 16), .int .i64 4] rfl)
  have HBw2 : Hid (Below w.heap.size w ((((w1.setCell ⟨w.heap.size + 1, 0, none⟩ (.int .u32 la)).setCell ⟨w.heap.size + 1, 1, none⟩ (.int .u64 (tr / 16))).setCell ⟨w.heap.size + 1, 2, none⟩ (.int .i64 (tr % 16))).setCell ⟨w.heap.size + 1, 3, none⟩ (.int .i64 4))) := hid (Below.setAll (by omega) [.int .u32 la, .int .u64 (tr / 16), .int .i64 (tr % 16), .int .i64 4] 0 _ HBw1.out)
  have hsw2 := HBw2.out.size
  go_wp2_with fail
  exact bodyPost_ret (v := .agg #[.int .u32 la, .int .u64 (tr / 16), .int .i64 (tr % 16), .int .i64 4]) (results_blk Tryz.results36 _ (w.heap.size + 1) rfl _ 57 Krw2.out _ Tryz.underlying57 rfl 4 size_place rfl) rfl ⟨rfl, HBw2.out⟩
theorem within_any (la0 tr leaf0 la : Int) (n : Nat) (w : World) (hn : 1 ≤ n ∧ n ≤ 4) (h0 : 0 ≤ tr) (h1 : tr < 18446744073709551616) :
    Calls Tryz.prog 36 #[.agg #[.int .u32 la0, .int .u64 tr, .int .i64 leaf0, .int .i64 n], .int .u32 la] w fun e w' => e = .returned (.agg #[.int .u32 la, .int .u64 (tr / ((2 ^ n : Nat) : Int)), .int .i64 (tr % ((2 ^ n : Nat) : Int)), .int .i64 n]) ∧ Below w.heap.size w w' := by
  rcases (show n = 1 ∨ n = 2 ∨ n = 3 ∨ n = 4 by omega) with rfl | rfl | rfl | rfl
  · exact within_1 la0 tr leaf0 la w h0 h1
  · exact within_2 la0 tr leaf0 la w h0 h1
  · exact within_3 la0 tr leaf0 la w h0 h1
  · exact within_4 la0 tr leaf0 la w h0 h1
set_option maxHeartbeats 4000000 in
theorem lowest_any (L i : Int) (n : Nat) (w : World) (hn : 1 ≤ n ∧ n ≤ 4) (h0 : 0 ≤ i) (h1 : i < 9223372036854775808) :
    Calls Tryz.prog 21 #[.agg (shC L n), .int .i64 i] w fun e w' => e = .returned (.agg #[.int .u32 0, .int .u64 (i / ((2 ^ n : Nat) : Int)), .int .i64 (i % ((2 ^ n : Nat) : Int)), .int .i64 n]) ∧ Below w.heap.size w w' := by
  have CW := hid (fun W : World => within_any 0 i 0 0 n W hn h0 (by omega))
  generalize ((2 ^ n : Nat) : Int) = p at *
  have b1 := (Below.refl w.heap.size w).alloc (Nat.le_refl _) (.cells (shC L n) 23 (0, 0))
  have b2 := b1.alloc b1.size (.cells #[.int .u32 0, .int .u64 0, .int .i64 0, .int .i64 0] 57 (0, 0))
  have Ksh := hid ((Blk.new (w := w) (n := w.heap.size) rfl (shC L n) 23).old (.cells #[.int .u32 0, .int .u64 0, .int .i64 0, .int .i64 0] 57 (0, 0)))
  have Kr := hid (Blk.new (w := (w.alloc (.cells (shC L n) 23 (0, 0)))) (n := w.heap.size + 1) (by simp only [World.size_alloc]) #[.int .u32 0, .int .u64 0, .int .i64 0, .int .i64 0] 57)
  have Hb := hid b2
  have hbz := b2.size
  have Hbs := hid (show w.heap.size + 1 + 1 = ((w.alloc (.cells (shC L n) 23 (0, 0))).alloc (.cells #[.int .u32 0, .int .u64 0, .int .i64 0, .int .i64 0] 57 (0, 0))).heap.size by simp only [World.size_alloc])
  clear b1 b2 
  go_enter Tryz.func21, Tryz.ntmps21
  have d1 : ((w.alloc (.cells (shC L n) 23 (0, 0))).alloc (.cells #[.int .u32 0, .int .u64 0, .int .i64 0, .int .i64 0] 57 (0, 0))).cell? ⟨w.heap.size, 1, none⟩ = some (.int .i64 n) := by rw [Ksh.out.cell]; rfl
  go_wp2_with fail
  refine (CW.out _).mono ?_
  rintro e w1 ⟨rfl, bw1⟩
  have HBw1 := hid (Below.on Hb.out bw1)
  have hsw1 := HBw1.out.size
  have Kshw1 := hid (Ksh.out.below bw1)
  have Krw1 := hid (Kr.out.below bw1)
  clear bw1
  have Kshw2 : Hid (Blk ((((w1.setCell ⟨w.heap.size + 1, 0, none⟩ (.int .u32 0)).setCell ⟨w.heap.size + 1, 1, none⟩ (.int .u64 (i / p))).setCell ⟨w.heap.size + 1, 2, none⟩ (.int .i64 (i % p))).setCell ⟨w.heap.size + 1, 3, none⟩ (.int .i64 n)) (w.heap.size) (shC L n) 23) := hid (Blk.setAll_other (b := w.heap.size + 1) (by have := Kshw1.out.lt; omega) [.int .u32 0, .int .u64 (i / p), .int .i64 (i % p), .int .i64 n] 0 _ Kshw1.out)
  have q0w2 := (Krw1.out.cell 0).trans (show _ = some _ from rfl)
  have r0w2 := Krw1.out.free 0
  have q1w2 := (Krw1.out.cell 1).trans (show _ = some _ from rfl)
  have r1w2 := Krw1.out.free 1
  have q2w2 := (Krw1.out.cell 2).trans (show _ = some _ from rfl)
  have r2w2 := Krw1.out.free 2
  have q3w2 := (Krw1.out.cell 3).trans (show _ = some _ from rfl)
  have r3w2 := Krw1.out.free 3
  have Krw2 : Hid (Blk ((((w1.setCell ⟨w.heap.size + 1, 0, none⟩ (.int .u32 0)).setCell ⟨w.heap.size + 1, 1, none⟩ (.int .u64 (i / p))).setCell ⟨w.heap.size + 1, 2, none⟩ (.int .i64 (i % p))).setCell ⟨w.heap.size + 1, 3, none⟩ (.int .i64 n)) (w.heap.size + 1) #[.int .u32 0, .int .u64 (i / p), .int .i64 (i % p), .int .i64 n] 57) := hid (Blk.setAll_self Krw1.out [.int .u32 0, .int .u64 (i / p), .int .i64 (i % p), .int .i64 n] rfl)
  have HBw2 : Hid (Below w.heap.size w ((((w1.setCell ⟨w.heap.size + 1, 0, none⟩ (.int .u32 0)).setCell ⟨w.heap.size + 1, 1, none⟩ (.int .u64 (i / p))).setCell ⟨w.heap.size + 1, 2, none⟩ (.int .i64 (i % p))).setCell ⟨w.heap.size + 1, 3, none⟩ (.int .i64 n))) := hid (Below.setAll (by omega) [.int .u32 0, .int .u64 (i / p), .int .i64 (i % p), .int .i64 n] 0 _ HBw1.out)
  have hsw2 := HBw2.out.size
  go_wp2_with fail
  exact bodyPost_ret (v := .agg #[.int .u32 0, .int .u64 (i / p), .int .i64 (i % p), .int .i64 n]) (results_blk Tryz.results21 _ (w.heap.size + 1) rfl _ 57 Krw2.out _ Tryz.underlying57 rfl 4 size_place rfl) rfl ⟨rfl, HBw2.out⟩
set_option maxHeartbeats 4000000 in
theorem above_pl (la tr leaf : Int) (n : Nat) (w : World) (hn : 1 ≤ n ∧ n ≤ 4) (hla : 0 ≤ la ∧ la < 100) (h0 : 0 ≤ tr) (h1 : tr < 18446744073709551616) :
    Calls Tryz.prog 23 #[.agg #[.int .u32 la, .int .u64 tr, .int .i64 leaf, .int .i64 n]] w fun e w' => e = .returned (.agg #[.int .u32 (la + 1), .int .u64 (tr / ((2 ^ n : Nat) : Int)), .int .i64 (tr % ((2 ^ n : Nat) : Int)), .int .i64 n]) ∧ Below w.heap.size w w' := by
  have CW := hid (fun W : World => within_any la tr leaf (la + 1) n W hn h0 h1)
  generalize ((2 ^ n : Nat) : Int) = p at *
  have b1 := (Below.refl w.heap.size w).alloc (Nat.le_refl _) (.cells #[.int .u32 la, .int .u64 tr, .int .i64 leaf, .int .i64 n] 57 (0, 0))
  have b2 := b1.alloc b1.size (.cells #[.int .u32 0, .int .u64 0, .int .i64 0, .int .i64 0] 57 (0, 0))
  have Kp := hid ((Blk.new (w := w) (n := w.heap.size) rfl #[.int .u32 la, .int .u64 tr, .int .i64 leaf, .int .i64 n] 57).old (.cells #[.int .u32 0, .int .u64 0, .int .i64 0, .int .i64 0] 57 (0, 0)))
  have Kr := hid (Blk.new (w := (w.alloc (.cells #[.int .u32 la, .int .u64 tr, .int .i64 leaf, .int .i64 n] 57 (0, 0)))) (n := w.heap.size + 1) (by simp only [World.size_alloc]) #[.int .u32 0, .int .u64 0, .int .i64 0, .int .i64 0] 57)
  have Hb := hid b2
  have hbz := b2.size
  have Hbs := hid (show w.heap.size + 1 + 1 = ((w.alloc (.cells #[.int .u32 la, .int .u64 tr, .int .i64 leaf, .int .i64 n] 57 (0, 0))).alloc (.cells #[.int .u32 0, .int .u64 0, .int .i64 0, .int .i64 0] 57 (0, 0))).heap.size by simp only [World.size_alloc])
  clear b1 b2 
  go_enter Tryz.func23, Tryz.ntmps23
  have d0 : ((w.alloc (.cells #[.int .u32 la, .int .u64 tr, .int .i64 leaf, .int .i64 n] 57 (0, 0))).alloc (.cells #[.int .u32 0, .int .u64 0, .int .i64 0, .int .i64 0] 57 (0, 0))).cell? ⟨w.heap.size, 0, none⟩ = some (.int .u32 la) := by rw [Kp.out.cell]; rfl
  go_wp2_with (refine wpList_load_blk rfl 57 _ rfl (w.heap.size) rfl _ 57 Kp.out _ Tryz.underlying57 rfl 4 size_place rfl ?_)
  refine (CW.out _).mono ?_
  rintro e w1 ⟨rfl, bw1⟩
  have HBw1 := hid (Below.on Hb.out bw1)
  have hsw1 := HBw1.out.size
  have Kpw1 := hid (Kp.out.below bw1)
  have Krw1 := hid (Kr.out.below bw1)
  clear bw1
  have Kpw2 : Hid (Blk ((((w1.setCell ⟨w.heap.size + 1, 0, none⟩ (.int .u32 (la + 1))).setCell ⟨w.heap.size + 1, 1, none⟩ (.int .u64 (tr / p))).setCell ⟨w.heap.size + 1, 2, none⟩ (.int .i64 (tr % p))).setCell ⟨w.heap.size + 1, 3, none⟩ (.int .i64 n)) (w.heap.size) #[.int .u32 la, .int .u64 tr, .int .i64 leaf, .int .i64 n] 57) := hid (Blk.setAll_other (b := w.heap.size + 1) (by have := Kpw1.out.lt; omega) [.int .u32 (la + 1), .int .u64 (tr / p), .int .i64 (tr % p), .int .i64 n] 0 _ Kpw1.out)
  have q0w2 := (Krw1.out.cell 0).trans (show _ = some _ from rfl)
  have r0w2 := Krw1.out.free 0
  have q1w2 := (Krw1.out.cell 1).trans (show _ = some _ from rfl)
  have r1w2 := Krw1.out.free 1
  have q2w2 := (Krw1.out.cell 2).trans (show _ = some _ from rfl)
  have r2w2 := Krw1.out.free 2
  have q3w2 := (Krw1.out.cell 3).trans (show _ = some _ from rfl)
  have r3w2 := Krw1.out.free 3
  have Krw2 : Hid (Blk ((((w1.setCell ⟨w.heap.size + 1, 0, none⟩ (.int .u32 (la + 1))).setCell ⟨w.heap.size + 1, 1, none⟩ (.int .u64 (tr / p))).setCell ⟨w.heap.size + 1, 2, none⟩ (.int .i64 (tr % p))).setCell ⟨w.heap.size + 1, 3, none⟩ (.int .i64 n)) (w.heap.size + 1) #[.int .u32 (la + 1), .int .u64 (tr / p), .int .i64 (tr % p), .int .i64 n] 57) := hid (Blk.setAll_self Krw1.out [.int .u32 (la + 1), .int .u64 (tr / p), .int .i64 (tr % p), .int .i64 n] rfl)
  have HBw2 : Hid (Below w.heap.size w ((((w1.setCell ⟨w.heap.size + 1, 0, none⟩ (.int .u32 (la + 1))).setCell ⟨w.heap.size + 1, 1, none⟩ (.int .u64 (tr / p))).setCell ⟨w.heap.size + 1, 2, none⟩ (.int .i64 (tr % p))).setCell ⟨w.heap.size + 1, 3, none⟩ (.int .i64 n))) := hid (Below.setAll (by omega) [.int .u32 (la + 1), .int .u64 (tr / p), .int .i64 (tr % p), .int .i64 n] 0 _ HBw1.out)
  have hsw2 := HBw2.out.size
  go_wp2_with fail
  exact bodyPost_ret (v := .agg #[.int .u32 (la + 1), .int .u64 (tr / p), .int .i64 (tr % p), .int .i64 n]) (results_blk Tryz.results23 _ (w.heap.size + 1) rfl _ 57 Krw2.out _ Tryz.underlying57 rfl 4 size_place rfl) rfl ⟨rfl, HBw2.out⟩
set_option maxHeartbeats 4000000 in
theorem ots_pl (la tr leaf n : Int) (w : World) (htr : 0 ≤ tr ∧ tr < 18446744073709551616) (hi : 0 ≤ leaf ∧ leaf < 4294967296) :
    Calls Tryz.prog 38 #[.agg #[.int .u32 la, .int .u64 tr, .int .i64 leaf, .int .i64 n]] w fun e w' => e = .returned (.agg ((otsZ la tr leaf).map (Value.int .u32)).toArray) ∧ Below w.heap.size w w' := by
  have b1 := (Below.refl w.heap.size w).alloc (Nat.le_refl _) (.cells #[.int .u32 la, .int .u64 tr, .int .i64 leaf, .int .i64 n] 57 (0, 0))
  have b2 := b1.alloc b1.size (.cells (zA.map (Value.int .u32)).toArray 73 (0, 0))
  have Kp := hid ((Blk.new (w := w) (n := w.heap.size) rfl #[.int .u32 la, .int .u64 tr, .int .i64 leaf, .int .i64 n] 57).old (.cells (zA.map (Value.int .u32)).toArray 73 (0, 0)))
  have Kr := hid (Blk.new (w := (w.alloc (.cells #[.int .u32 la, .int .u64 tr, .int .i64 leaf, .int .i64 n] 57 (0, 0)))) (n := w.heap.size + 1) (by simp only [World.size_alloc]) (zA.map (Value.int .u32)).toArray 73)
  have Hb := hid b2
  have hbz := b2.size
  have Hbs := hid (show w.heap.size + 1 + 1 = ((w.alloc (.cells #[.int .u32 la, .int .u64 tr, .int .i64 leaf, .int .i64 n] 57 (0, 0))).alloc (.cells (zA.map (Value.int .u32)).toArray 73 (0, 0))).heap.size by simp only [World.size_alloc])
  clear b1 b2 
  go_enter Tryz.func38, Tryz.ntmps38
  have d0 : ((w.alloc (.cells #[.int .u32 la, .int .u64 tr, .int .i64 leaf, .int .i64 n] 57 (0, 0))).alloc (.cells (zA.map (Value.int .u32)).toArray 73 (0, 0))).cell? ⟨w.heap.size, 0, none⟩ = some (.int .u32 la) := by rw [Kp.out.cell]; rfl
  have d1 : ((w.alloc (.cells #[.int .u32 la, .int .u64 tr, .int .i64 leaf, .int .i64 n] 57 (0, 0))).alloc (.cells (zA.map (Value.int .u32)).toArray 73 (0, 0))).cell? ⟨w.heap.size, 1, none⟩ = some (.int .u64 tr) := by rw [Kp.out.cell]; rfl
  have d2 : ((w.alloc (.cells #[.int .u32 la, .int .u64 tr, .int .i64 leaf, .int .i64 n] 57 (0, 0))).alloc (.cells (zA.map (Value.int .u32)).toArray 73 (0, 0))).cell? ⟨w.heap.size, 2, none⟩ = some (.int .i64 leaf) := by rw [Kp.out.cell]; rfl
  go_wp2_with fail
  refine (ots_list la tr leaf _ htr.1 htr.2).mono ?_
  rintro e w1 ⟨rfl, bw1⟩
  have HBw1 := hid (Below.on Hb.out bw1)
  have hsw1 := HBw1.out.size
  have Kpw1 := hid (Kp.out.below bw1)
  have Krw1 := hid (Kr.out.below bw1)
  clear bw1
  go_wp2_with (
      refine wpList_store_blk rfl 73 _ _ rfl (w.heap.size + 1) ((otsZ la tr leaf).map (Value.int .u32)).toArray rfl rfl _ 73 Krw1.out 8 sizeAdrs rfl rfl (ints_one _ _) ?_
      intro w9 hb9 hk9
      have HB9 := hid (hb9.below HBw1.out HBw1.out.size (by omega))
      have HK9 := hid hk9
      clear hb9 hk9)
  exact bodyPost_ret (v := .agg ((otsZ la tr leaf).map (Value.int .u32)).toArray) (results_blk Tryz.results38 _ (w.heap.size + 1) rfl _ 73 HK9.out _ Tryz.underlying73 rfl 8 sizeAdrs rfl) rfl ⟨rfl, HB9.out⟩
end Go.Proofs.YtjkfbeillmeomaaGreatDoor
