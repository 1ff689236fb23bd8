/-
  Put together, as far as wanted: VPlace VVer VVerR VVerL VLLogA VLLogB VLLogH VLLogI VLLogJ VLLogK VLLogL VLLogM VLLogN VLLogQ.
-/
import Derived.Test.YtkakoiaahgchmaaGreatDoorVX4
namespace Go.Proofs.YtkakoiaahgchmaaGreatDoor
set_option maxRecDepth 100000
open Go.ChangeShapes Go.WideShapes Go.ChangeAt Go.RowKit
theorem size_place : (Tryz.prog.info? 110).map (·.size) = some 4 := by kernel_rfl
/-- What a part of a signature of a digest leads to. -/
@[irreducible] def rootZ (pub : List Int) (V : Nat) (la tr leaf : Int) (o a : List (List Int)) (m : List Int) : List Int :=
  climbZ pub (treeZ la tr) leaf a (compZ pub (ltrZ la tr leaf) 67 0 (rowW (fromP o m pub (otsZ la tr leaf)))) V
set_option maxHeartbeats 4000000 in
theorem within_1 (la0 tr leaf0 la : Int) (w : World) (h0 : 0 ≤ tr) (h1 : tr < 18446744073709551616) :
    Calls Tryz.prog 99 #[.agg #[.int .u32 la0, .int .u64 tr, .int .i64 leaf0, .int .i64 1], .int .u32 la] w fun e w' => e = .returned (.agg #[.int .u32 la, .int .u64 (tr / 2), .int .i64 (tr % 2), .int .i64 1]) ∧ Below w.heap.size w w' := by
  have b1 := (Below.refl w.heap.size w).alloc (Nat.le_refl _) (.cells #[.int .u32 la0, .int .u64 tr, .int .i64 leaf0, .int .i64 1] 110 (0, 0))
  have b2 := b1.alloc b1.size (.cells #[.int .u32 0, .int .u64 0, .int .i64 0, .int .i64 0] 110 (0, 0))
  have Kp := hid ((Blk.new (w := w) (n := w.heap.size) rfl #[.int .u32 la0, .int .u64 tr, .int .i64 leaf0, .int .i64 1] 110).old (.cells #[.int .u32 0, .int .u64 0, .int .i64 0, .int .i64 0] 110 (0, 0)))
  have Kr := hid (Blk.new (w := (w.alloc (.cells #[.int .u32 la0, .int .u64 tr, .int .i64 leaf0, .int .i64 1] 110 (0, 0)))) (n := w.heap.size + 1) (by simp only [World.size_alloc]) #[.int .u32 0, .int .u64 0, .int .i64 0, .int .i64 0] 110)
  have Hb := hid b2
  have hbz := b2.size
  have Hbs := hid (show w.heap.size + 1 + 1 = ((w.alloc (.cells #[.int .u32 la0, .int .u64 tr, .int .i64 leaf0, .int .i64 1] 110 (0, 0))).alloc (.cells #[.int .u32 0, .int .u64 0, .int .i64 0, .int .i64 0] 110 (0, 0))).heap.size by simp only [World.size_alloc])
  clear b1 b2 
  go_enter Tryz.func99, Tryz.ntmps99
  go_wp2_with fail
  refine wp_region_flow 13 (List.range 13) [] [] (by kernel_rfl) (by kernel_rfl) ?_
  apply Exists.intro
  refine ⟨fun w0 hb0 hF0 => ?_, ?_⟩
  · skip
    have y0 : ∀ w', (∃ x : Ext w0, w' = x.at_) → w'.cell? ⟨w.heap.size, 1, none⟩ = some (.int .u64 tr) := fun w' ⟨x, hx⟩ => by rw [hx, ((Kp.out.below hb0).below x.same).cell]; rfl
    have y1 : ∀ w', (∃ x : Ext w0, w' = x.at_) → w'.cell? ⟨w.heap.size, 3, none⟩ = some (.int .i64 1) := fun w' ⟨x, hx⟩ => by rw [hx, ((Kp.out.below hb0).below x.same).cell]; rfl
    have hw : wrap64 (tr % 2) = tr % 2 := by unfold wrap64; omega
    simp only [pick, List.range, List.range.loop, List.getElem?_toArray, List.getElem?_cons_succ, List.getElem?_cons_zero, Option.toList_some, List.cons_append, List.nil_append]
    repeat (first | (go_big_quiet_want; refine quiet_load_one 68 _ rfl ⟨w.heap.size, 1, none⟩ rfl _ y0 _ Tryz.underlying68 rfl ?_; go_big_quiet_on; simp only [Act.put, List.setIfInBounds_toArray, List.set_cons_zero, List.set_cons_succ]) | (go_big_quiet_want; refine quiet_load_one 3 _ rfl ⟨w.heap.size, 3, none⟩ rfl _ y1 _ Tryz.underlying3 rfl ?_; go_big_quiet_on; simp only [Act.put, List.setIfInBounds_toArray, List.set_cons_zero, List.set_cons_succ]) | go_big_quiet_step (fail))
    exact wpQuiet_nil rfl
  refine AlChk.nil ?_
  refine Walk.fin fun w1 hw1 _ _ => ?_
  simp only [List.drop_succ_cons, List.drop_zero]
  have HBw1 := hid (Below.on Hb.out hw1)
  have hsw1 := HBw1.out.size
  have Kpw1 := hid (Kp.out.below hw1)
  have Krw1 := hid (Kr.out.below hw1)
  clear hw1
  have Kpw2 : Hid (Blk ((((w1.setCell ⟨w.heap.size + 1, 0, none⟩ (.int .u32 la)).setCell ⟨w.heap.size + 1, 1, none⟩ (.int .u64 (tr / 2))).setCell ⟨w.heap.size + 1, 2, none⟩ (.int .i64 (tr % 2))).setCell ⟨w.heap.size + 1, 3, none⟩ (.int .i64 1)) (w.heap.size) #[.int .u32 la0, .int .u64 tr, .int .i64 leaf0, .int .i64 1] 110) := hid (Blk.setAll_other (b := w.heap.size + 1) (by have := Kpw1.out.lt; omega) [.int .u32 la, .int .u64 (tr / 2), .int .i64 (tr % 2), .int .i64 1] 0 _ Kpw1.out)
  have q0w2 := (Krw1.out.cell 0).trans (show _ = some _ from rfl)
  have r0w2 := Krw1.out.free 0
  have q1w2 := (Krw1.out.cell 1).trans (show _ = some _ from rfl)
  have r1w2 := Krw1.out.free 1
  have q2w2 := (Krw1.out.cell 2).trans (show _ = some _ from rfl)
  have r2w2 := Krw1.out.free 2
  have q3w2 := (Krw1.out.cell 3).trans (show _ = some _ from rfl)
  have r3w2 := Krw1.out.free 3
  have Krw2 : Hid (Blk ((((w1.setCell ⟨w.heap.size + 1, 0, none⟩ (.int .u32 la)).setCell ⟨w.heap.size + 1, 1, none⟩ (.int .u64 (tr / 2))).setCell ⟨w.heap.size + 1, 2, none⟩ (.int .i64 (tr % 2))).setCell ⟨w.heap.size + 1, 3, none⟩ (.int .i64 1)) (w.heap.size + 1) #[.int .u32 la, .int .u64 (tr / 2), .int .i64 (tr % 2), .int .i64 1] 110) := hid (Blk.setAll_self Krw1.out [.int .u32 la, .int .u64 (tr / 2), .int .i64 (tr % 2), .int .i64 1] rfl)
  have HBw2 : Hid (Below w.heap.size w ((((w1.setCell ⟨w.heap.size + 1, 0, none⟩ (.int .u32 la)).setCell ⟨w.heap.size + 1, 1, none⟩ (.int .u64 (tr / 2))).setCell ⟨w.heap.size + 1, 2, none⟩ (.int .i64 (tr % 2))).setCell ⟨w.heap.size + 1, 3, none⟩ (.int .i64 1))) := hid (Below.setAll (by omega) [.int .u32 la, .int .u64 (tr / 2), .int .i64 (tr % 2), .int .i64 1] 0 _ HBw1.out)
  have hsw2 := HBw2.out.size
  go_wp2_with fail
  exact bodyPost_ret (v := .agg #[.int .u32 la, .int .u64 (tr / 2), .int .i64 (tr % 2), .int .i64 1]) (results_blk Tryz.results99 _ (w.heap.size + 1) rfl _ 110 Krw2.out _ Tryz.underlying110 rfl 4 size_place rfl) rfl ⟨rfl, HBw2.out⟩
set_option maxHeartbeats 4000000 in
theorem within_2 (la0 tr leaf0 la : Int) (w : World) (h0 : 0 ≤ tr) (h1 : tr < 18446744073709551616) :
    Calls Tryz.prog 99 #[.agg #[.int .u32 la0, .int .u64 tr, .int .i64 leaf0, .int .i64 2], .int .u32 la] w fun e w' => e = .returned (.agg #[.int .u32 la, .int .u64 (tr / 4), .int .i64 (tr % 4), .int .i64 2]) ∧ Below w.heap.size w w' := by
  have b1 := (Below.refl w.heap.size w).alloc (Nat.le_refl _) (.cells #[.int .u32 la0, .int .u64 tr, .int .i64 leaf0, .int .i64 2] 110 (0, 0))
  have b2 := b1.alloc b1.size (.cells #[.int .u32 0, .int .u64 0, .int .i64 0, .int .i64 0] 110 (0, 0))
  have Kp := hid ((Blk.new (w := w) (n := w.heap.size) rfl #[.int .u32 la0, .int .u64 tr, .int .i64 leaf0, .int .i64 2] 110).old (.cells #[.int .u32 0, .int .u64 0, .int .i64 0, .int .i64 0] 110 (0, 0)))
  have Kr := hid (Blk.new (w := (w.alloc (.cells #[.int .u32 la0, .int .u64 tr, .int .i64 leaf0, .int .i64 2] 110 (0, 0)))) (n := w.heap.size + 1) (by simp only [World.size_alloc]) #[.int .u32 0, .int .u64 0, .int .i64 0, .int .i64 0] 110)
  have Hb := hid b2
  have hbz := b2.size
  have Hbs := hid (show w.heap.size + 1 + 1 = ((w.alloc (.cells #[.int .u32 la0, .int .u64 tr, .int .i64 leaf0, .int .i64 2] 110 (0, 0))).alloc (.cells #[.int .u32 0, .int .u64 0, .int .i64 0, .int .i64 0] 110 (0, 0))).heap.size by simp only [World.size_alloc])
  clear b1 b2 
  go_enter Tryz.func99, Tryz.ntmps99
  go_wp2_with fail
  refine wp_region_flow 13 (List.range 13) [] [] (by kernel_rfl) (by kernel_rfl) ?_
  apply Exists.intro
  refine ⟨fun w0 hb0 hF0 => ?_, ?_⟩
  · skip
    have y0 : ∀ w', (∃ x : Ext w0, w' = x.at_) → w'.cell? ⟨w.heap.size, 1, none⟩ = some (.int .u64 tr) := fun w' ⟨x, hx⟩ => by rw [hx, ((Kp.out.below hb0).below x.same).cell]; rfl
    have y1 : ∀ w', (∃ x : Ext w0, w' = x.at_) → w'.cell? ⟨w.heap.size, 3, none⟩ = some (.int .i64 2) := fun w' ⟨x, hx⟩ => by rw [hx, ((Kp.out.below hb0).below x.same).cell]; rfl
    have hw : wrap64 (tr % 4) = tr % 4 := by unfold wrap64; omega
    simp only [pick, List.range, List.range.loop, List.getElem?_toArray, List.getElem?_cons_succ, List.getElem?_cons_zero, Option.toList_some, List.cons_append, List.nil_append]
    repeat (first | (go_big_quiet_want; refine quiet_load_one 68 _ rfl ⟨w.heap.size, 1, none⟩ rfl _ y0 _ Tryz.underlying68 rfl ?_; go_big_quiet_on; simp only [Act.put, List.setIfInBounds_toArray, List.set_cons_zero, List.set_cons_succ]) | (go_big_quiet_want; refine quiet_load_one 3 _ rfl ⟨w.heap.size, 3, none⟩ rfl _ y1 _ Tryz.underlying3 rfl ?_; go_big_quiet_on; simp only [Act.put, List.setIfInBounds_toArray, List.set_cons_zero, List.set_cons_succ]) | go_big_quiet_step (fail))
    exact wpQuiet_nil rfl
  refine AlChk.nil ?_
  refine Walk.fin fun w1 hw1 _ _ => ?_
  simp only [List.drop_succ_cons, List.drop_zero]
  have HBw1 := hid (Below.on Hb.out hw1)
  have hsw1 := HBw1.out.size
  have Kpw1 := hid (Kp.out.below hw1)
  have Krw1 := hid (Kr.out.below hw1)
  clear hw1
  have Kpw2 : Hid (Blk ((((w1.setCell ⟨w.heap.size + 1, 0, none⟩ (.int .u32 la)).setCell ⟨w.heap.size + 1, 1, none⟩ (.int .u64 (tr / 4))).setCell ⟨w.heap.size + 1, 2, none⟩ (.int .i64 (tr % 4))).setCell ⟨w.heap.size + 1, 3, none⟩ (.int .i64 2)) (w.heap.size) #[.int .u32 la0, .int .u64 tr, .int .i64 leaf0, .int .i64 2] 110) := hid (Blk.setAll_other (b := w.heap.size + 1) (by have := Kpw1.out.lt; omega) [.int .u32 la, .int .u64 (tr / 4), .int .i64 (tr % 4), .int .i64 2] 0 _ Kpw1.out)
  have q0w2 := (Krw1.out.cell 0).trans (show _ = some _ from rfl)
  have r0w2 := Krw1.out.free 0
  have q1w2 := (Krw1.out.cell 1).trans (show _ = some _ from rfl)
  have r1w2 := Krw1.out.free 1
  have q2w2 := (Krw1.out.cell 2).trans (show _ = some _ from rfl)
  have r2w2 := Krw1.out.free 2
  have q3w2 := (Krw1.out.cell 3).trans (show _ = some _ from rfl)
  have r3w2 := Krw1.out.free 3
  have Krw2 : Hid (Blk ((((w1.setCell ⟨w.heap.size + 1, 0, none⟩ (.int .u32 la)).setCell ⟨w.heap.size + 1, 1, none⟩ (.int .u64 (tr / 4))).setCell ⟨w.heap.size + 1, 2, none⟩ (.int .i64 (tr % 4))).setCell ⟨w.heap.size + 1, 3, none⟩ (.int .i64 2)) (w.heap.size + 1) #[.int .u32 la, .int .u64 (tr / 4), .int .i64 (tr % 4), .int .i64 2] 110) := hid (Blk.setAll_self Krw1.out [.int .u32 la, .int .u64 (tr / 4), .int .i64 (tr % 4), .int .i64 2] rfl)
  have HBw2 : Hid (Below w.heap.size w ((((w1.setCell ⟨w.heap.size + 1, 0, none⟩ (.int .u32 la)).setCell ⟨w.heap.size + 1, 1, none⟩ (.int .u64 (tr / 4))).setCell ⟨w.heap.size + 1, 2, none⟩ (.int .i64 (tr % 4))).setCell ⟨w.heap.size + 1, 3, none⟩ (.int .i64 2))) := hid (Below.setAll (by omega) [.int .u32 la, .int .u64 (tr / 4), .int .i64 (tr % 4), .int .i64 2] 0 _ HBw1.out)
  have hsw2 := HBw2.out.size
  go_wp2_with fail
  exact bodyPost_ret (v := .agg #[.int .u32 la, .int .u64 (tr / 4), .int .i64 (tr % 4), .int .i64 2]) (results_blk Tryz.results99 _ (w.heap.size + 1) rfl _ 110 Krw2.out _ Tryz.underlying110 rfl 4 size_place rfl) rfl ⟨rfl, HBw2.out⟩
set_option maxHeartbeats 4000000 in
theorem within_3 (la0 tr leaf0 la : Int) (w : World) (h0 : 0 ≤ tr) (h1 : tr < 18446744073709551616) :
    Calls Tryz.prog 99 #[.agg #[.int .u32 la0, .int .u64 tr, .int .i64 leaf0, .int .i64 3], .int .u32 la] w fun e w' => e = .returned (.agg #[.int .u32 la, .int .u64 (tr / 8), .int .i64 (tr % 8), .int .i64 3]) ∧ Below w.heap.size w w' := by
  have b1 := (Below.refl w.heap.size w).alloc (Nat.le_refl _) (.cells #[.int .u32 la0, .int .u64 tr, .int .i64 leaf0, .int .i64 3] 110 (0, 0))
  have b2 := b1.alloc b1.size (.cells #[.int .u32 0, .int .u64 0, .int .i64 0, .int .i64 0] 110 (0, 0))
  have Kp := hid ((Blk.new (w := w) (n := w.heap.size) rfl #[.int .u32 la0, .int .u64 tr, .int .i64 leaf0, .int .i64 3] 110).old (.cells #[.int .u32 0, .int .u64 0, .int .i64 0, .int .i64 0] 110 (0, 0)))
  have Kr := hid (Blk.new (w := (w.alloc (.cells #[.int .u32 la0, .int .u64 tr, .int .i64 leaf0, .int .i64 3] 110 (0, 0)))) (n := w.heap.size + 1) (by simp only [World.size_alloc]) #[.int .u32 0, .int .u64 0, .int .i64 0, .int .i64 0] 110)
  have Hb := hid b2
  have hbz := b2.size
  have Hbs := hid (show w.heap.size + 1 + 1 = ((w.alloc (.cells #[.int .u32 la0, .int .u64 tr, .int .i64 leaf0, .int .i64 3] 110 (0, 0))).alloc (.cells #[.int .u32 0, .int .u64 0, .int .i64 0, .int .i64 0] 110 (0, 0))).heap.size by simp only [World.size_alloc])
  clear b1 b2 
  go_enter Tryz.func99, Tryz.ntmps99
  go_wp2_with fail
  refine wp_region_flow 13 (List.range 13) [] [] (by kernel_rfl) (by kernel_rfl) ?_
  apply Exists.intro
  refine ⟨fun w0 hb0 hF0 => ?_, ?_⟩
  · skip
    have y0 : ∀ w', (∃ x : Ext w0, w' = x.at_) → w'.cell? ⟨w.heap.size, 1, none⟩ = some (.int .u64 tr) := fun w' ⟨x, hx⟩ => by rw [hx, ((Kp.out.below hb0).below x.same).cell]; rfl
    have y1 : ∀ w', (∃ x : Ext w0, w' = x.at_) → w'.cell? ⟨w.heap.size, 3, none⟩ = some (.int .i64 3) := fun w' ⟨x, hx⟩ => by rw [hx, ((Kp.out.below hb0).below x.same).cell]; rfl
    have hw : wrap64 (tr % 8) = tr % 8 := by unfold wrap64; omega
    simp only [pick, List.range, List.range.loop, List.getElem?_toArray, List.getElem?_cons_succ, List.getElem?_cons_zero, Option.toList_some, List.cons_append, List.nil_append]
    repeat (first | (go_big_quiet_want; refine quiet_load_one 68 _ rfl ⟨w.heap.size, 1, none⟩ rfl _ y0 _ Tryz.underlying68 rfl ?_; go_big_quiet_on; simp only [Act.put, List.setIfInBounds_toArray, List.set_cons_zero, List.set_cons_succ]) | (go_big_quiet_want; refine quiet_load_one 3 _ rfl ⟨w.heap.size, 3, none⟩ rfl _ y1 _ Tryz.underlying3 rfl ?_; go_big_quiet_on; simp only [Act.put, List.setIfInBounds_toArray, List.set_cons_zero, List.set_cons_succ]) | go_big_quiet_step (fail))
    exact wpQuiet_nil rfl
  refine AlChk.nil ?_
  refine Walk.fin fun w1 hw1 _ _ => ?_
  simp only [List.drop_succ_cons, List.drop_zero]
  have HBw1 := hid (Below.on Hb.out hw1)
  have hsw1 := HBw1.out.size
  have Kpw1 := hid (Kp.out.below hw1)
  have Krw1 := hid (Kr.out.below hw1)
  clear hw1
  have Kpw2 : Hid (Blk ((((w1.setCell ⟨w.heap.size + 1, 0, none⟩ (.int .u32 la)).setCell ⟨w.heap.size + 1, 1, none⟩ (.int .u64 (tr / 8))).setCell ⟨w.heap.size + 1, 2, none⟩ (.int .i64 (tr % 8))).setCell ⟨w.heap.size + 1, 3, none⟩ (.int .i64 3)) (w.heap.size) #[.int .u32 la0, .int .u64 tr, .int .i64 leaf0, .int .i64 3] 110) := hid (Blk.setAll_other (b := w.heap.size + 1) (by have := Kpw1.out.lt; omega) [.int .u32 la, .int .u64 (tr / 8), .int .i64 (tr % 8), .int .i64 3] 0 _ Kpw1.out)
  have q0w2 := (Krw1.out.cell 0).trans (show _ = some _ from rfl)
  have r0w2 := Krw1.out.free 0
  have q1w2 := (Krw1.out.cell 1).trans (show _ = some _ from rfl)
  have r1w2 := Krw1.out.free 1
  have q2w2 := (Krw1.out.cell 2).trans (show _ = some _ from rfl)
  have r2w2 := Krw1.out.free 2
  have q3w2 := (Krw1.out.cell 3).trans (show _ = some _ from rfl)
  have r3w2 := Krw1.out.free 3
  have Krw2 : Hid (Blk ((((w1.setCell ⟨w.heap.size + 1, 0, none⟩ (.int .u32 la)).setCell ⟨w.heap.size + 1, 1, none⟩ (.int .u64 (tr / 8))).setCell ⟨w.heap.size + 1, 2, none⟩ (.int .i64 (tr % 8))).setCell ⟨w.heap.size + 1, 3, none⟩ (.int .i64 3)) (w.heap.size + 1) #[.int .u32 la, .int .u64 (tr / 8), .int .i64 (tr % 8), .int .i64 3] 110) := hid (Blk.setAll_self Krw1.out [.int .u32 la, .int .u64 (tr / 8), .int .i64 (tr % 8), .int .i64 3] rfl)
  have HBw2 : Hid (Below w.heap.size w ((((w1.setCell ⟨w.heap.size + 1, 0, none⟩ (.int .u32 la)).setCell ⟨w.heap.size + 1, 1, none⟩ (.int .u64 (tr / 8))).setCell ⟨w.heap.size + 1, 2, none⟩ (.int .i64 (tr % 8))).setCell ⟨w.heap.size + 1, 3, none⟩ (.int .i64 3))) := hid (Below.setAll (by omega) [.int .u32 la, .int .u64 (tr / 8), .int .i64 (tr % 8), .int .i64 3] 0 _ HBw1.out)
  have hsw2 := HBw2.out.size
  go_wp2_with fail
  exact bodyPost_ret (v := .agg #[.int .u32 la, .int .u64 (tr / 8), .int .i64 (tr % 8), .int .i64 3]) (results_blk Tryz.results99 _ (w.heap.size + 1) rfl _ 110 Krw2.out _ Tryz.underlying110 rfl 4 size_place rfl) rfl ⟨rfl, HBw2.out⟩
set_option maxHeartbeats 4000000 in
theorem within_4 (la0 tr leaf0 la : Int) (w : World) (h0 : 0 ≤ tr) (h1 : tr < 18446744073709551616) :
    Calls Tryz.prog 99 #[.agg #[.int .u32 la0, .int .u64 tr, .int .i64 leaf0, .int .i64 4], .int .u32 la] w fun e w' => e = .returned (.agg #[.int .u32 la, .int .u64 (tr / 16), .int .i64 (tr % 16), .int .i64 4]) ∧ Below w.heap.size w w' := by
  have b1 := (Below.refl w.heap.size w).alloc (Nat.le_refl _) (.cells #[.int .u32 la0, .int .u64 tr, .int .i64 leaf0, .int .i64 4] 110 (0, 0))
  have b2 := b1.alloc b1.size (.cells #[.int .u32 0, .int .u64 0, .int .i64 0, .int .i64 0] 110 (0, 0))
  have Kp := hid ((Blk.new (w := w) (n := w.heap.size) rfl #[.int .u32 la0, .int .u64 tr, .int .i64 leaf0, .int .i64 4] 110).old (.cells #[.int .u32 0, .int .u64 0, .int .i64 0, .int .i64 0] 110 (0, 0)))
  have Kr := hid (Blk.new (w := (w.alloc (.cells #[.int .u32 la0, .int .u64 tr, .int .i64 leaf0, .int .i64 4] 110 (0, 0)))) (n := w.heap.size + 1) (by simp only [World.size_alloc]) #[.int .u32 0, .int .u64 0, .int .i64 0, .int .i64 0] 110)
  have Hb := hid b2
  have hbz := b2.size
  have Hbs := hid (show w.heap.size + 1 + 1 = ((w.alloc (.cells #[.int .u32 la0, .int .u64 tr, .int .i64 leaf0, .int .i64 4] 110 (0, 0))).alloc (.cells #[.int .u32 0, .int .u64 0, .int .i64 0, .int .i64 0] 110 (0, 0))).heap.size by simp only [World.size_alloc])
  clear b1 b2 
  go_enter Tryz.func99, Tryz.ntmps99
  go_wp2_with fail
  refine wp_region_flow 13 (List.range 13) [] [] (by kernel_rfl) (by kernel_rfl) ?_
  apply Exists.intro
  refine ⟨fun w0 hb0 hF0 => ?_, ?_⟩
  · skip
    have y0 : ∀ w', (∃ x : Ext w0, w' = x.at_) → w'.cell? ⟨w.heap.size, 1, none⟩ = some (.int .u64 tr) := fun w' ⟨x, hx⟩ => by rw [hx, ((Kp.out.below hb0).below x.same).cell]; rfl
    have y1 : ∀ w', (∃ x : Ext w0, w' = x.at_) → w'.cell? ⟨w.heap.size, 3, none⟩ = some (.int .i64 4) := fun w' ⟨x, hx⟩ => by rw [hx, ((Kp.out.below hb0).below x.same).cell]; rfl
    have hw : wrap64 (tr % 16) = tr % 16 := by unfold wrap64; omega
    simp only [pick, List.range, List.range.loop, List.getElem?_toArray, List.getElem?_cons_succ, List.getElem?_cons_zero, Option.toList_some, List.cons_append, List.nil_append]
    repeat (first | (go_big_quiet_want; refine quiet_load_one 68 _ rfl ⟨w.heap.size, 1, none⟩ rfl _ y0 _ Tryz.underlying68 rfl ?_; go_big_quiet_on; simp only [Act.put, List.setIfInBounds_toArray, List.set_cons_zero, List.set_cons_succ]) | (go_big_quiet_want; refine quiet_load_one 3 _ rfl ⟨w.heap.size, 3, none⟩ rfl _ y1 _ Tryz.underlying3 rfl ?_; go_big_quiet_on; simp only [Act.put, List.setIfInBounds_toArray, List.set_cons_zero, List.set_cons_succ]) | go_big_quiet_step (fail))
    exact wpQuiet_nil rfl
  refine AlChk.nil ?_
  refine Walk.fin fun w1 hw1 _ _ => ?_
  simp only [List.drop_succ_cons, List.drop_zero]
  have HBw1 := hid (Below.on Hb.out hw1)
  have hsw1 := HBw1.out.size
  have Kpw1 := hid (Kp.out.below hw1)
  have Krw1 := hid (Kr.out.below hw1)
  clear hw1
  have Kpw2 : Hid (Blk ((((w1.setCell ⟨w.heap.size + 1, 0, none⟩ (.int .u32 la)).setCell ⟨w.heap.size + 1, 1, none⟩ (.int .u64 (tr / 16))).setCell ⟨w.heap.size + 1, 2, none⟩ (.int .i64 (tr % 16))).setCell ⟨w.heap.size + 1, 3, none⟩ (.int .i64 4)) (w.heap.size) #[.int .u32 la0, .int .u64 tr, .int .i64 leaf0, .int .i64 4] 110) := hid (Blk.setAll_other (b := w.heap.size + 1) (by have := Kpw1.out.lt; omega) [.int .u32 la, .int .u64 (tr / 16), .int .i64 (tr % 16), .int .i64 4] 0 _ Kpw1.out)
  have q0w2 := (Krw1.out.cell 0).trans (show _ = some _ from rfl)
  have r0w2 := Krw1.out.free 0
  have q1w2 := (Krw1.out.cell 1).trans (show _ = some _ from rfl)
  have r1w2 := Krw1.out.free 1
  have q2w2 := (Krw1.out.cell 2).trans (show _ = some _ from rfl)
  have r2w2 := Krw1.out.free 2
  have q3w2 := (Krw1.out.cell 3).trans (show _ = some _ from rfl)
  have r3w2 := Krw1.out.free 3
  have Krw2 : Hid (Blk ((((w1.setCell ⟨w.heap.size + 1, 0, none⟩ (.int .u32 la)).setCell ⟨w.heap.size + 1, 1, none⟩ (.int .u64 (tr / 16))).setCell ⟨w.heap.size + 1, 2, none⟩ (.int .i64 (tr % 16))).setCell ⟨w.heap.size + 1, 3, none⟩ (.int .i64 4)) (w.heap.size + 1) #[.int .u32 la, .int .u64 (tr / 16), .int .i64 (tr % 16), .int .i64 4] 110) := hid (Blk.setAll_self Krw1.out [.int .u32 la, .int .u64 (tr / 16), .int .i64 (tr % 16), .int .i64 4] rfl)
  have HBw2 : Hid (Below w.heap.size w ((((w1.setCell ⟨w.heap.size + 1, 0, none⟩ (.int .u32 la)).setCell ⟨w.heap.size + 1, 1, none⟩ (.int .u64 (tr / 16))).setCell ⟨w.heap.size + 1, 2, none⟩ (.int .i64 (tr % 16))).setCell ⟨w.heap.size + 1, 3, none⟩ (.int .i64 4))) := hid (Below.setAll (by omega) [.int .u32 la, .int .u64 (tr / 16), .int .i64 (tr % 16), .int .i64 4] 0 _ HBw1.out)
  have hsw2 := HBw2.out.size
  go_wp2_with fail
  exact bodyPost_ret (v := .agg #[.int .u32 la, .int .u64 (tr / 16), .int .i64 (tr % 16), .int .i64 4]) (results_blk Tryz.results99 _ (w.heap.size + 1) rfl _ 110 Krw2.out _ Tryz.underlying110 rfl 4 size_place rfl) rfl ⟨rfl, HBw2.out⟩
theorem within_any (la0 tr leaf0 la : Int) (n : Nat) (w : World) (hn : 1 ≤ n ∧ n ≤ 4) (h0 : 0 ≤ tr) (h1 : tr < 18446744073709551616) :
    Calls Tryz.prog 99 #[.agg #[.int .u32 la0, .int .u64 tr, .int .i64 leaf0, .int .i64 n], .int .u32 la] w fun e w' => e = .returned (.agg #[.int .u32 la, .int .u64 (tr / ((2 ^ n : Nat) : Int)), .int .i64 (tr % ((2 ^ n : Nat) : Int)), .int .i64 n]) ∧ Below w.heap.size w w' := by
  rcases (show n = 1 ∨ n = 2 ∨ n = 3 ∨ n = 4 by omega) with rfl | rfl | rfl | rfl
  · exact within_1 la0 tr leaf0 la w h0 h1
  · exact within_2 la0 tr leaf0 la w h0 h1
  · exact within_3 la0 tr leaf0 la w h0 h1
  · exact within_4 la0 tr leaf0 la w h0 h1
set_option maxHeartbeats 4000000 in
theorem lowest_any (L i : Int) (n : Nat) (w : World) (hn : 1 ≤ n ∧ n ≤ 4) (h0 : 0 ≤ i) (h1 : i < 9223372036854775808) :
    Calls Tryz.prog 71 #[.agg (shC L n), .int .i64 i] w fun e w' => e = .returned (.agg #[.int .u32 0, .int .u64 (i / ((2 ^ n : Nat) : Int)), .int .i64 (i % ((2 ^ n : Nat) : Int)), .int .i64 n]) ∧ Below w.heap.size w w' := by
  have CW := hid (fun W : World => within_any 0 i 0 0 n W hn h0 (by omega))
  generalize ((2 ^ n : Nat) : Int) = p at *
  have b1 := (Below.refl w.heap.size w).alloc (Nat.le_refl _) (.cells (shC L n) 23 (0, 0))
  have b2 := b1.alloc b1.size (.cells #[.int .u32 0, .int .u64 0, .int .i64 0, .int .i64 0] 110 (0, 0))
  have Ksh := hid ((Blk.new (w := w) (n := w.heap.size) rfl (shC L n) 23).old (.cells #[.int .u32 0, .int .u64 0, .int .i64 0, .int .i64 0] 110 (0, 0)))
  have Kr := hid (Blk.new (w := (w.alloc (.cells (shC L n) 23 (0, 0)))) (n := w.heap.size + 1) (by simp only [World.size_alloc]) #[.int .u32 0, .int .u64 0, .int .i64 0, .int .i64 0] 110)
  have Hb := hid b2
  have hbz := b2.size
  have Hbs := hid (show w.heap.size + 1 + 1 = ((w.alloc (.cells (shC L n) 23 (0, 0))).alloc (.cells #[.int .u32 0, .int .u64 0, .int .i64 0, .int .i64 0] 110 (0, 0))).heap.size by simp only [World.size_alloc])
  clear b1 b2 
  go_enter Tryz.func71, Tryz.ntmps71
  have d1 : ((w.alloc (.cells (shC L n) 23 (0, 0))).alloc (.cells #[.int .u32 0, .int .u64 0, .int .i64 0, .int .i64 0] 110 (0, 0))).cell? ⟨w.heap.size, 1, none⟩ = some (.int .i64 n) := by rw [Ksh.out.cell]; rfl
  go_wp2_with fail
  refine (CW.out _).mono ?_
  rintro e w1 ⟨rfl, bw1⟩
  have HBw1 := hid (Below.on Hb.out bw1)
  have hsw1 := HBw1.out.size
  have Kshw1 := hid (Ksh.out.below bw1)
  have Krw1 := hid (Kr.out.below bw1)
  clear bw1
  have Kshw2 : Hid (Blk ((((w1.setCell ⟨w.heap.size + 1, 0, none⟩ (.int .u32 0)).setCell ⟨w.heap.size + 1, 1, none⟩ (.int .u64 (i / p))).setCell ⟨w.heap.size + 1, 2, none⟩ (.int .i64 (i % p))).setCell ⟨w.heap.size + 1, 3, none⟩ (.int .i64 n)) (w.heap.size) (shC L n) 23) := hid (Blk.setAll_other (b := w.heap.size + 1) (by have := Kshw1.out.lt; omega) [.int .u32 0, .int .u64 (i / p), .int .i64 (i % p), .int .i64 n] 0 _ Kshw1.out)
  have q0w2 := (Krw1.out.cell 0).trans (show _ = some _ from rfl)
  have r0w2 := Krw1.out.free 0
  have q1w2 := (Krw1.out.cell 1).trans (show _ = some _ from rfl)
  have r1w2 := Krw1.out.free 1
  have q2w2 := (Krw1.out.cell 2).trans (show _ = some _ from rfl)
  have r2w2 := Krw1.out.free 2
  have q3w2 := (Krw1.out.cell 3).trans (show _ = some _ from rfl)
  have r3w2 := Krw1.out.free 3
  have Krw2 : Hid (Blk ((((w1.setCell ⟨w.heap.size + 1, 0, none⟩ (.int .u32 0)).setCell ⟨w.heap.size + 1, 1, none⟩ (.int .u64 (i / p))).setCell ⟨w.heap.size + 1, 2, none⟩ (.int .i64 (i % p))).setCell ⟨w.heap.size + 1, 3, none⟩ (.int .i64 n)) (w.heap.size + 1) #[.int .u32 0, .int .u64 (i / p), .int .i64 (i % p), .int .i64 n] 110) := hid (Blk.setAll_self Krw1.out [.int .u32 0, .int .u64 (i / p), .int .i64 (i % p), .int .i64 n] rfl)
  have HBw2 : Hid (Below w.heap.size w ((((w1.setCell ⟨w.heap.size + 1, 0, none⟩ (.int .u32 0)).setCell ⟨w.heap.size + 1, 1, none⟩ (.int .u64 (i / p))).setCell ⟨w.heap.size + 1, 2, none⟩ (.int .i64 (i % p))).setCell ⟨w.heap.size + 1, 3, none⟩ (.int .i64 n))) := hid (Below.setAll (by omega) [.int .u32 0, .int .u64 (i / p), .int .i64 (i % p), .int .i64 n] 0 _ HBw1.out)
  have hsw2 := HBw2.out.size
  go_wp2_with fail
  exact bodyPost_ret (v := .agg #[.int .u32 0, .int .u64 (i / p), .int .i64 (i % p), .int .i64 n]) (results_blk Tryz.results71 _ (w.heap.size + 1) rfl _ 110 Krw2.out _ Tryz.underlying110 rfl 4 size_place rfl) rfl ⟨rfl, HBw2.out⟩
set_option maxHeartbeats 4000000 in
theorem above_pl (la tr leaf : Int) (n : Nat) (w : World) (hn : 1 ≤ n ∧ n ≤ 4) (hla : 0 ≤ la ∧ la < 100) (h0 : 0 ≤ tr) (h1 : tr < 18446744073709551616) :
    Calls Tryz.prog 73 #[.agg #[.int .u32 la, .int .u64 tr, .int .i64 leaf, .int .i64 n]] w fun e w' => e = .returned (.agg #[.int .u32 (la + 1), .int .u64 (tr / ((2 ^ n : Nat) : Int)), .int .i64 (tr % ((2 ^ n : Nat) : Int)), .int .i64 n]) ∧ Below w.heap.size w w' := by
  have CW := hid (fun W : World => within_any la tr leaf (la + 1) n W hn h0 h1)
  generalize ((2 ^ n : Nat) : Int) = p at *
  have b1 := (Below.refl w.heap.size w).alloc (Nat.le_refl _) (.cells #[.int .u32 la, .int .u64 tr, .int .i64 leaf, .int .i64 n] 110 (0, 0))
  have b2 := b1.alloc b1.size (.cells #[.int .u32 0, .int .u64 0, .int .i64 0, .int .i64 0] 110 (0, 0))
  have Kp := hid ((Blk.new (w := w) (n := w.heap.size) rfl #[.int .u32 la, .int .u64 tr, .int .i64 leaf, .int .i64 n] 110).old (.cells #[.int .u32 0, .int .u64 0, .int .i64 0, .int .i64 0] 110 (0, 0)))
  have Kr := hid (Blk.new (w := (w.alloc (.cells #[.int .u32 la, .int .u64 tr, .int .i64 leaf, .int .i64 n] 110 (0, 0)))) (n := w.heap.size + 1) (by simp only [World.size_alloc]) #[.int .u32 0, .int .u64 0, .int .i64 0, .int .i64 0] 110)
  have Hb := hid b2
  have hbz := b2.size
  have Hbs := hid (show w.heap.size + 1 + 1 = ((w.alloc (.cells #[.int .u32 la, .int .u64 tr, .int .i64 leaf, .int .i64 n] 110 (0, 0))).alloc (.cells #[.int .u32 0, .int .u64 0, .int .i64 0, .int .i64 0] 110 (0, 0))).heap.size by simp only [World.size_alloc])
  clear b1 b2 
  go_enter Tryz.func73, Tryz.ntmps73
  have d0 : ((w.alloc (.cells #[.int .u32 la, .int .u64 tr, .int .i64 leaf, .int .i64 n] 110 (0, 0))).alloc (.cells #[.int .u32 0, .int .u64 0, .int .i64 0, .int .i64 0] 110 (0, 0))).cell? ⟨w.heap.size, 0, none⟩ = some (.int .u32 la) := by rw [Kp.out.cell]; rfl
  go_wp2_with (refine wpList_load_blk rfl 110 _ rfl (w.heap.size) rfl _ 110 Kp.out _ Tryz.underlying110 rfl 4 size_place rfl ?_)
  refine (CW.out _).mono ?_
  rintro e w1 ⟨rfl, bw1⟩
  have HBw1 := hid (Below.on Hb.out bw1)
  have hsw1 := HBw1.out.size
  have Kpw1 := hid (Kp.out.below bw1)
  have Krw1 := hid (Kr.out.below bw1)
  clear bw1
  have Kpw2 : Hid (Blk ((((w1.setCell ⟨w.heap.size + 1, 0, none⟩ (.int .u32 (la + 1))).setCell ⟨w.heap.size + 1, 1, none⟩ (.int .u64 (tr / p))).setCell ⟨w.heap.size + 1, 2, none⟩ (.int .i64 (tr % p))).setCell ⟨w.heap.size + 1, 3, none⟩ (.int .i64 n)) (w.heap.size) #[.int .u32 la, .int .u64 tr, .int .i64 leaf, .int .i64 n] 110) := hid (Blk.setAll_other (b := w.heap.size + 1) (by have := Kpw1.out.lt; omega) [.int .u32 (la + 1), .int .u64 (tr / p), .int .i64 (tr % p), .int .i64 n] 0 _ Kpw1.out)
  have q0w2 := (Krw1.out.cell 0).trans (show _ = some _ from rfl)
  have r0w2 := Krw1.out.free 0
  have q1w2 := (Krw1.out.cell 1).trans (show _ = some _ from rfl)
  have r1w2 := Krw1.out.free 1
  have q2w2 := (Krw1.out.cell 2).trans (show _ = some _ from rfl)
  have r2w2 := Krw1.out.free 2
  have q3w2 := (Krw1.out.cell 3).trans (show _ = some _ from rfl)
  have r3w2 := Krw1.out.free 3
  have Krw2 : Hid (Blk ((((w1.setCell ⟨w.heap.size + 1, 0, none⟩ (.int .u32 (la + 1))).setCell ⟨w.heap.size + 1, 1, none⟩ (.int .u64 (tr / p))).setCell ⟨w.heap.size + 1, 2, none⟩ (.int .i64 (tr % p))).setCell ⟨w.heap.size + 1, 3, none⟩ (.int .i64 n)) (w.heap.size + 1) #[.int .u32 (la + 1), .int .u64 (tr / p), .int .i64 (tr % p), .int .i64 n] 110) := hid (Blk.setAll_self Krw1.out [.int .u32 (la + 1), .int .u64 (tr / p), .int .i64 (tr % p), .int .i64 n] rfl)
  have HBw2 : Hid (Below w.heap.size w ((((w1.setCell ⟨w.heap.size + 1, 0, none⟩ (.int .u32 (la + 1))).setCell ⟨w.heap.size + 1, 1, none⟩ (.int .u64 (tr / p))).setCell ⟨w.heap.size + 1, 2, none⟩ (.int .i64 (tr % p))).setCell ⟨w.heap.size + 1, 3, none⟩ (.int .i64 n))) := hid (Below.setAll (by omega) [.int .u32 (la + 1), .int .u64 (tr / p), .int .i64 (tr % p), .int .i64 n] 0 _ HBw1.out)
  have hsw2 := HBw2.out.size
  go_wp2_with fail
  exact bodyPost_ret (v := .agg #[.int .u32 (la + 1), .int .u64 (tr / p), .int .i64 (tr % p), .int .i64 n]) (results_blk Tryz.results73 _ (w.heap.size + 1) rfl _ 110 Krw2.out _ Tryz.underlying110 rfl 4 size_place rfl) rfl ⟨rfl, HBw2.out⟩
set_option maxHeartbeats 4000000 in
theorem ots_pl (la tr leaf n : Int) (w : World) (htr : 0 ≤ tr ∧ tr < 18446744073709551616) (hi : 0 ≤ leaf ∧ leaf < 4294967296) :
    Calls Tryz.prog 101 #[.agg #[.int .u32 la, .int .u64 tr, .int .i64 leaf, .int .i64 n]] w fun e w' => e = .returned (.agg ((otsZ la tr leaf).map (Value.int .u32)).toArray) ∧ Below w.heap.size w w' := by
  have b1 := (Below.refl w.heap.size w).alloc (Nat.le_refl _) (.cells #[.int .u32 la, .int .u64 tr, .int .i64 leaf, .int .i64 n] 110 (0, 0))
  have b2 := b1.alloc b1.size (.cells (zA.map (Value.int .u32)).toArray 66 (0, 0))
  have Kp := hid ((Blk.new (w := w) (n := w.heap.size) rfl #[.int .u32 la, .int .u64 tr, .int .i64 leaf, .int .i64 n] 110).old (.cells (zA.map (Value.int .u32)).toArray 66 (0, 0)))
  have Kr := hid (Blk.new (w := (w.alloc (.cells #[.int .u32 la, .int .u64 tr, .int .i64 leaf, .int .i64 n] 110 (0, 0)))) (n := w.heap.size + 1) (by simp only [World.size_alloc]) (zA.map (Value.int .u32)).toArray 66)
  have Hb := hid b2
  have hbz := b2.size
  have Hbs := hid (show w.heap.size + 1 + 1 = ((w.alloc (.cells #[.int .u32 la, .int .u64 tr, .int .i64 leaf, .int .i64 n] 110 (0, 0))).alloc (.cells (zA.map (Value.int .u32)).toArray 66 (0, 0))).heap.size by simp only [World.size_alloc])
  clear b1 b2 
  go_enter Tryz.func101, Tryz.ntmps101
  have d0 : ((w.alloc (.cells #[.int .u32 la, .int .u64 tr, .int .i64 leaf, .int .i64 n] 110 (0, 0))).alloc (.cells (zA.map (Value.int .u32)).toArray 66 (0, 0))).cell? ⟨w.heap.size, 0, none⟩ = some (.int .u32 la) := by rw [Kp.out.cell]; rfl
  have d1 : ((w.alloc (.cells #[.int .u32 la, .int .u64 tr, .int .i64 leaf, .int .i64 n] 110 (0, 0))).alloc (.cells (zA.map (Value.int .u32)).toArray 66 (0, 0))).cell? ⟨w.heap.size, 1, none⟩ = some (.int .u64 tr) := by rw [Kp.out.cell]; rfl
  have d2 : ((w.alloc (.cells #[.int .u32 la, .int .u64 tr, .int .i64 leaf, .int .i64 n] 110 (0, 0))).alloc (.cells (zA.map (Value.int .u32)).toArray 66 (0, 0))).cell? ⟨w.heap.size, 2, none⟩ = some (.int .i64 leaf) := by rw [Kp.out.cell]; rfl
  go_wp2_with fail
  refine (ots_list la tr leaf _ htr.1 htr.2).mono ?_
  rintro e w1 ⟨rfl, bw1⟩
  have HBw1 := hid (Below.on Hb.out bw1)
  have hsw1 := HBw1.out.size
  have Kpw1 := hid (Kp.out.below bw1)
  have Krw1 := hid (Kr.out.below bw1)
  clear bw1
  go_wp2_with (
      refine wpList_store_blk rfl 66 _ _ rfl (w.heap.size + 1) ((otsZ la tr leaf).map (Value.int .u32)).toArray rfl rfl _ 66 Krw1.out 8 sizeAdrs rfl rfl (ints_one _ _) ?_
      intro w9 hb9 hk9
      have HB9 := hid (hb9.below HBw1.out HBw1.out.size (by omega))
      have HK9 := hid hk9
      clear hb9 hk9)
  exact bodyPost_ret (v := .agg ((otsZ la tr leaf).map (Value.int .u32)).toArray) (results_blk Tryz.results101 _ (w.heap.size + 1) rfl _ 66 HK9.out _ Tryz.underlying66 rfl 8 sizeAdrs rfl) rfl ⟨rfl, HB9.out⟩
theorem Dg.root {pub : List Int} {V : Nat} {la tr leaf : Int} {o a : List (List Int)} {m : List Int} (ho : ∀ d ∈ o, Dg d) : Dg (rootZ pub V la tr leaf o a m) := by
  unfold rootZ
  exact Dg.climb (compZ_dg _ _ 67 0 _ (rowW_each (Dg.fromP ho _ _ _)) (by rw [rowW_length]; omega) (by rw [rowW_length]; omega)) _
set_option maxHeartbeats 4000000 in
theorem root_good (la tr leaf : Int) (n : Nat) (o a : List (List Int)) (oa : Option Addr) (oc : Nat) (aa : Option Addr) (ac : Nat) (m pub : List Int) (w : World) (hO : DigsAt w oa 67 oc o) (hA : DigsAt w aa n ac a) (hm : Dg m) (hpub : Dg pub) (hla : 0 ≤ la ∧ la < 4294967296) (htr : 0 ≤ tr ∧ tr < 18446744073709551616) (hr : rightZ n leaf = true) (tab : ShaTab w) :
    Calls Tryz.prog 72 #[.agg #[.int .u32 la, .int .u64 tr, .int .i64 leaf, .int .i64 n], .agg #[.slice oa 67 oc, .slice aa n ac], .agg (m.map (Value.int .u8)).toArray, .agg (pub.map (Value.int .u8)).toArray] w fun e w' => e = .returned (.tuple #[.agg ((rootZ pub n la tr leaf o a m).map (Value.int .u8)).toArray, .bool true]) ∧ Below w.heap.size w w' := by
  have hr2 := hr
  simp only [rightZ, decide_eq_true_eq] at hr2
  have hle : 0 ≤ leaf ∧ leaf < 4294967296 := by
    rcases (show n = 1 ∨ n = 2 ∨ n = 3 ∨ n = 4 by omega) with rfl | rfl | rfl | rfl <;> simp at hr2 <;> omega
  clear hr2
  have HO := hid hO
  have HAu := hid hA
  have HA := hid (Aw.ots hla htr hle)
  have HT := hid (Aw.ltr hla htr hle)
  have HR := hid (Dg.root (pub := pub) (V := n) (la := la) (tr := tr) (leaf := leaf) (a := a) (m := m) hO.each)
  have HLF := hid (compZ_dg pub (ltrZ la tr leaf) 67 0 _ (rowW_each (Dg.fromP hO.each m pub (otsZ la tr leaf))) (by rw [rowW_length]; omega) (by rw [rowW_length]; omega))
  have CC := hid (fun (pa : Option Addr) (pc : Nat) (W : World) (h : DigsAt W pa 67 pc (rowW (fromP o m pub (otsZ la tr leaf)))) (t : ShaTab W) => compress_good pa 67 pc (rowW (fromP o m pub (otsZ la tr leaf))) pub (ltrZ la tr leaf) W h (by omega) hpub HT.out t)
  have CL := hid (fun (W : World) (h : DigsAt W aa n ac a) (t : ShaTab W) => climb_good (compZ pub (ltrZ la tr leaf) 67 0 (rowW (fromP o m pub (otsZ la tr leaf)))) pub aa n ac a leaf la tr W HLF.out hpub h hla htr hr t)
  rw [show climbZ pub (treeZ la tr) leaf a (compZ pub (ltrZ la tr leaf) 67 0 (rowW (fromP o m pub (otsZ la tr leaf)))) n = rootZ pub n la tr leaf o a m by unfold rootZ; rfl] at CL
  generalize rootZ pub n la tr leaf o a m = R at *
  generalize compZ pub (ltrZ la tr leaf) 67 0 (rowW (fromP o m pub (otsZ la tr leaf))) = lf at *
  clear hO hA
  have b1 := (Below.refl w.heap.size w).alloc (Nat.le_refl _) (.cells #[.int .u32 la, .int .u64 tr, .int .i64 leaf, .int .i64 n] 110 (0, 0))
  have b2 := b1.alloc b1.size (.cells #[.slice oa 67 oc, .slice aa n ac] 58 (0, 0))
  have b3 := b2.alloc b2.size (.cells (m.map (Value.int .u8)).toArray 25 (0, 0))
  have b4 := b3.alloc b3.size (.cells (pub.map (Value.int .u8)).toArray 25 (0, 0))
  have b5 := b4.alloc b4.size (.cells (byteCells 32 []) 25 (0, 0))
  have Kp := hid (((((Blk.new (w := w) (n := w.heap.size) rfl #[.int .u32 la, .int .u64 tr, .int .i64 leaf, .int .i64 n] 110).old (.cells #[.slice oa 67 oc, .slice aa n ac] 58 (0, 0))).old (.cells (m.map (Value.int .u8)).toArray 25 (0, 0))).old (.cells (pub.map (Value.int .u8)).toArray 25 (0, 0))).old (.cells (byteCells 32 []) 25 (0, 0)))
  have Kx := hid ((((Blk.new (w := (w.alloc (.cells #[.int .u32 la, .int .u64 tr, .int .i64 leaf, .int .i64 n] 110 (0, 0)))) (n := w.heap.size + 1) (by simp only [World.size_alloc]) #[.slice oa 67 oc, .slice aa n ac] 58).old (.cells (m.map (Value.int .u8)).toArray 25 (0, 0))).old (.cells (pub.map (Value.int .u8)).toArray 25 (0, 0))).old (.cells (byteCells 32 []) 25 (0, 0)))
  have Km := hid (((Blk.new (w := ((w.alloc (.cells #[.int .u32 la, .int .u64 tr, .int .i64 leaf, .int .i64 n] 110 (0, 0))).alloc (.cells #[.slice oa 67 oc, .slice aa n ac] 58 (0, 0)))) (n := w.heap.size + 1 + 1) (by simp only [World.size_alloc]) (m.map (Value.int .u8)).toArray 25).old (.cells (pub.map (Value.int .u8)).toArray 25 (0, 0))).old (.cells (byteCells 32 []) 25 (0, 0)))
  have Ku := hid ((Blk.new (w := (((w.alloc (.cells #[.int .u32 la, .int .u64 tr, .int .i64 leaf, .int .i64 n] 110 (0, 0))).alloc (.cells #[.slice oa 67 oc, .slice aa n ac] 58 (0, 0))).alloc (.cells (m.map (Value.int .u8)).toArray 25 (0, 0)))) (n := w.heap.size + 1 + 1 + 1) (by simp only [World.size_alloc]) (pub.map (Value.int .u8)).toArray 25).old (.cells (byteCells 32 []) 25 (0, 0)))
  have Kr := hid (Blk.new (w := ((((w.alloc (.cells #[.int .u32 la, .int .u64 tr, .int .i64 leaf, .int .i64 n] 110 (0, 0))).alloc (.cells #[.slice oa 67 oc, .slice aa n ac] 58 (0, 0))).alloc (.cells (m.map (Value.int .u8)).toArray 25 (0, 0))).alloc (.cells (pub.map (Value.int .u8)).toArray 25 (0, 0)))) (n := w.heap.size + 1 + 1 + 1 + 1) (by simp only [World.size_alloc]) (byteCells 32 []) 25)
  have Hb := hid b5
  have hbz := b5.size
  have Hbs := hid (show w.heap.size + 1 + 1 + 1 + 1 + 1 = (((((w.alloc (.cells #[.int .u32 la, .int .u64 tr, .int .i64 leaf, .int .i64 n] 110 (0, 0))).alloc (.cells #[.slice oa 67 oc, .slice aa n ac] 58 (0, 0))).alloc (.cells (m.map (Value.int .u8)).toArray 25 (0, 0))).alloc (.cells (pub.map (Value.int .u8)).toArray 25 (0, 0))).alloc (.cells (byteCells 32 []) 25 (0, 0))).heap.size by simp only [World.size_alloc])
  have Htab := hid tab
  clear b1 b2 b3 b4 b5 tab 
  go_enter Tryz.func72, Tryz.ntmps72
  go_wp2_with fail
  refine wp_region_late 10 9 10 [0, 1, 2, 3, 4, 5] [] [(.c 6, [7, 8, 9], [])] (by kernel_rfl) (by kernel_rfl) rfl (by kernel_rfl) (fun _ _ d _ _ h => by cases d <;> exact h) ?_
  simp only [late]
  apply Exists.intro
  refine ⟨fun w0 hb0 hF0 => ?_, ?_⟩
  · skip
    have x0 : ∀ w', (∃ x : Ext w0, w' = x.at_) → ∃ T, Blk w' (w.heap.size + 1 + 1) (m.map (Value.int .u8)).toArray T := fun w' ⟨x, hx⟩ => ⟨_, hx ▸ (Km.out.below hb0).below x.same⟩
    have x1 : ∀ w', (∃ x : Ext w0, w' = x.at_) → ∃ T, Blk w' (w.heap.size + 1 + 1 + 1) (pub.map (Value.int .u8)).toArray T := fun w' ⟨x, hx⟩ => ⟨_, hx ▸ (Ku.out.below hb0).below x.same⟩
    have x2 : ∀ w', (∃ x : Ext w0, w' = x.at_) → ∃ T, Blk w' (w.heap.size) #[.int .u32 la, .int .u64 tr, .int .i64 leaf, .int .i64 n] T := fun w' ⟨x, hx⟩ => ⟨_, hx ▸ (Kp.out.below hb0).below x.same⟩
    have y0 : ∀ w', (∃ x : Ext w0, w' = x.at_) → w'.cell? ⟨w.heap.size + 1, 0, none⟩ = some (.slice oa 67 oc) := fun w' ⟨x, hx⟩ => by rw [hx, ((Kx.out.below hb0).below x.same).cell]; rfl
    have c0 := fun e : Ext w0 => ots_pl la tr leaf n e.at_ htr hle
    simp only [pick, List.getElem?_toArray, List.getElem?_cons_succ, List.getElem?_cons_zero, Option.toList_some, List.cons_append, List.nil_append]
    repeat (first | (go_big_quiet_want; refine quiet_load_blk 25 _ rfl (w.heap.size + 1 + 1) rfl _ x0 _ Tryz.underlying25 rfl 32 size_digest hm.size ?_; go_big_quiet_on; simp only [Act.put, List.setIfInBounds_toArray, List.set_cons_zero, List.set_cons_succ]) | (go_big_quiet_want; refine quiet_load_blk 25 _ rfl (w.heap.size + 1 + 1 + 1) rfl _ x1 _ Tryz.underlying25 rfl 32 size_digest hpub.size ?_; go_big_quiet_on; simp only [Act.put, List.setIfInBounds_toArray, List.set_cons_zero, List.set_cons_succ]) | (go_big_quiet_want; refine quiet_load_blk 110 _ rfl (w.heap.size) rfl _ x2 _ Tryz.underlying110 rfl 4 size_place rfl ?_; go_big_quiet_on; simp only [Act.put, List.setIfInBounds_toArray, List.set_cons_zero, List.set_cons_succ]) | (go_big_quiet_want; refine quiet_load_one 33 _ rfl ⟨w.heap.size + 1, 0, none⟩ rfl _ y0 _ Tryz.underlying33 rfl ?_; go_big_quiet_on; simp only [Act.put, List.setIfInBounds_toArray, List.set_cons_zero, List.set_cons_succ]) | go_big_quiet_step (first | (go_at_call 101; with_reducible exact Calls.ext (c0 _))))
    exact wpQuiet_nil rfl
  refine AlChk.nil ?_
  refine Walk.call rfl 100 #[.slice oa 67 oc, .agg (m.map (Value.int .u8)).toArray, .agg (pub.map (Value.int .u8)).toArray, .agg ((otsZ la tr leaf).map (Value.int .u32)).toArray] (TupV 67 (rowW (fromP o m pub (otsZ la tr leaf)))) (fun v w' w'' h k => h.below k) rfl (fun w1 hb1 hF1 => ⟨by go_simp, ?_⟩) ?_
  · skip
    exact from_v o oa oc m pub (otsZ la tr leaf) w1 ((HO.out.below Hb.out).below hb1) hm hpub HA.out ((Htab.out.below Hb.out).below hb1)
  rintro v0 w1 hb1 hF1 ⟨pa, pc, rfl, _⟩
  apply Exists.intro
  refine ⟨fun w0 hb0 hF0 => ?_, ?_⟩
  · skip
    simp only [pick, List.getElem?_toArray, List.getElem?_cons_succ, List.getElem?_cons_zero, Option.toList_some, List.cons_append, List.nil_append, Act.put, List.setIfInBounds_toArray, List.set_cons_zero, List.set_cons_succ]
    repeat (first | go_big_quiet_step (fail))
    exact wpQuiet_nil rfl
  refine AlChk.nil ?_
  refine Walk.fin fun w1 hw1 hFw1 _ => ?_
  simp only [List.drop_succ_cons, List.drop_zero]
  have HFw1 := hid hFw1
  have HBw1 := hid (Below.on Hb.out hw1)
  have hsw1 := HBw1.out.size
  have Kpw1 := hid (Kp.out.below hw1)
  have Kxw1 := hid (Kx.out.below hw1)
  have Kmw1 := hid (Km.out.below hw1)
  have Kuw1 := hid (Ku.out.below hw1)
  have Krw1 := hid (Kr.out.below hw1)
  clear hw1 hFw1
  have Hp := hid ((show TupV 67 (rowW (fromP o m pub (otsZ la tr leaf))) (.tuple #[.slice pa 67 pc, .int .i64 0]) w1 from HFw1.out.2).digs)
  clear HFw1
  go_wp2_with fail
  refine wp_region_late 15 13 15 [0, 1, 2, 3, 4, 5, 6, 7, 8, 9, 10, 11, 12, 13] [14] [(.b 14, [], [])] (by kernel_rfl) (by kernel_rfl) rfl (by kernel_rfl) (fun _ _ d _ _ h => by cases d <;> exact h) ?_
  simp only [late]
  apply Exists.intro
  refine ⟨fun w0 hb0 hF0 => ?_, ?_⟩
  · skip
    have x0 : ∀ w', (∃ x : Ext w0, w' = x.at_) → ∃ T, Blk w' (w.heap.size + 1 + 1 + 1) (pub.map (Value.int .u8)).toArray T := fun w' ⟨x, hx⟩ => ⟨_, hx ▸ (Kuw1.out.below hb0).below x.same⟩
    have y0 : ∀ w', (∃ x : Ext w0, w' = x.at_) → w'.cell? ⟨w.heap.size, 0, none⟩ = some (.int .u32 la) := fun w' ⟨x, hx⟩ => by rw [hx, ((Kpw1.out.below hb0).below x.same).cell]; rfl
    have y1 : ∀ w', (∃ x : Ext w0, w' = x.at_) → w'.cell? ⟨w.heap.size, 1, none⟩ = some (.int .u64 tr) := fun w' ⟨x, hx⟩ => by rw [hx, ((Kpw1.out.below hb0).below x.same).cell]; rfl
    have y2 : ∀ w', (∃ x : Ext w0, w' = x.at_) → w'.cell? ⟨w.heap.size, 2, none⟩ = some (.int .i64 leaf) := fun w' ⟨x, hx⟩ => by rw [hx, ((Kpw1.out.below hb0).below x.same).cell]; rfl
    have c0 := fun e : Ext w0 => ltr_list la tr leaf e.at_ htr.1 htr.2
    have c1 := fun e : Ext w0 => CC.out pa pc e.at_ ((Hp.out.below hb0).below e.same) ((Htab.out.below (Below.on HBw1.out hb0)).below e.same)
    simp only [pick, List.getElem?_toArray, List.getElem?_cons_succ, List.getElem?_cons_zero, Option.toList_some, List.cons_append, List.nil_append]
    repeat (first | (go_big_quiet_want; refine quiet_load_blk 25 _ rfl (w.heap.size + 1 + 1 + 1) rfl _ x0 _ Tryz.underlying25 rfl 32 size_digest hpub.size ?_; go_big_quiet_on; simp only [Act.put, List.setIfInBounds_toArray, List.set_cons_zero, List.set_cons_succ]) | (go_big_quiet_want; refine quiet_load_one 64 _ rfl ⟨w.heap.size, 0, none⟩ rfl _ y0 _ Tryz.underlying64 rfl ?_; go_big_quiet_on; simp only [Act.put, List.setIfInBounds_toArray, List.set_cons_zero, List.set_cons_succ]) | (go_big_quiet_want; refine quiet_load_one 68 _ rfl ⟨w.heap.size, 1, none⟩ rfl _ y1 _ Tryz.underlying68 rfl ?_; go_big_quiet_on; simp only [Act.put, List.setIfInBounds_toArray, List.set_cons_zero, List.set_cons_succ]) | (go_big_quiet_want; refine quiet_load_one 3 _ rfl ⟨w.heap.size, 2, none⟩ rfl _ y2 _ Tryz.underlying3 rfl ?_; go_big_quiet_on; simp only [Act.put, List.setIfInBounds_toArray, List.set_cons_zero, List.set_cons_succ]) | go_big_quiet_step (first | (go_at_call 103; with_reducible exact Calls.ext (c0 _)) | (go_at_call 102; with_reducible exact Calls.ext (c1 _))))
    exact wpQuiet_nil rfl
  refine AlChk.one rfl (fun b => .pointer (some ⟨b, 0, none⟩)) (.cells (byteCells 32 []) 25 (0, 0)) rfl (fun w3 hb3 hF3 => by go_simp; rfl) ?_
  refine AlChk.nil ?_
  refine Walk.blk rfl (fun b => .pointer (some ⟨b, 0, none⟩)) (.cells (byteCells 32 []) 25 (0, 0)) (by simp) ?_
  intro bw2 wz hbz_ hFz hgew2 _
  apply Exists.intro
  refine ⟨fun w4 hb4 hF4 => wpQuiet_nil rfl, ?_⟩
  refine AlChk.nil ?_
  refine Walk.fin fun w2 hw2 hFw2 _ => ?_
  simp only [List.drop_succ_cons, List.drop_zero]
  have kbw2 : Blk w2 bw2 (byteCells 32 []) 25 := hFw2.2
  have Kzw2 := hid kbw2
  have hgww2 : w.heap.size ≤ bw2 := Nat.le_trans HBw1.out.size hgew2
  clear hbz_ hFz hFw2 kbw2
  have hnpw2 : w.heap.size ≠ bw2 := by have := Kpw1.out.lt; omega
  have hnxw2 : w.heap.size + 1 ≠ bw2 := by have := Kxw1.out.lt; omega
  have hnmw2 : w.heap.size + 1 + 1 ≠ bw2 := by have := Kmw1.out.lt; omega
  have hnuw2 : w.heap.size + 1 + 1 + 1 ≠ bw2 := by have := Kuw1.out.lt; omega
  have hnrw2 : w.heap.size + 1 + 1 + 1 + 1 ≠ bw2 := by have := Krw1.out.lt; omega
  have HBw2 := hid (Below.on HBw1.out hw2)
  have hsw2 := HBw2.out.size
  have Kpw2 := hid (Kpw1.out.below hw2)
  have Kxw2 := hid (Kxw1.out.below hw2)
  have Kmw2 := hid (Kmw1.out.below hw2)
  have Kuw2 := hid (Kuw1.out.below hw2)
  have Krw2 := hid (Krw1.out.below hw2)
  clear hw2
  go_wp2_with (first
     | (
        refine wpList_store_blk rfl 25 _ _ rfl bw2 (lf.map (Value.int .u8)).toArray rfl rfl _ 25 Kzw2.out 32 size_digest zsize HLF.out.size (ints_one _ _) ?_
        intro w3 hbw3 hkw3
        have HBw3 := hid (hbw3.below HBw2.out HBw2.out.size hgww2)
        have hsw3 := HBw3.out.size
        have Kyw3 := hid hkw3
        have Kpw3 := hid (hbw3.blk Kpw2.out hnpw2)
        have Kxw3 := hid (hbw3.blk Kxw2.out hnxw2)
        have Kmw3 := hid (hbw3.blk Kmw2.out hnmw2)
        have Kuw3 := hid (hbw3.blk Kuw2.out hnuw2)
        have Krw3 := hid (hbw3.blk Krw2.out hnrw2)
        clear hbw3 hkw3
        have d0 : w3.cell? ⟨w.heap.size, 0, none⟩ = some (.int .u32 la) := by rw [Kpw3.out.cell]; rfl
        have d1 : w3.cell? ⟨w.heap.size, 1, none⟩ = some (.int .u64 tr) := by rw [Kpw3.out.cell]; rfl
        have d2 : w3.cell? ⟨w.heap.size, 2, none⟩ = some (.int .i64 leaf) := by rw [Kpw3.out.cell]; rfl
        have d3 : w3.cell? ⟨w.heap.size + 1, 1, none⟩ = some (.slice aa n ac) := by rw [Kxw3.out.cell]; rfl)
     | (refine wpList_load_blk rfl 25 _ rfl (bw2) rfl _ 25 Kyw3.out _ Tryz.underlying25 rfl 32 size_digest HLF.out.size ?_)
     | (refine wpList_load_blk rfl 25 _ rfl (w.heap.size + 1 + 1 + 1) rfl _ 25 Kuw3.out _ Tryz.underlying25 rfl 32 size_digest hpub.size ?_))
  refine (CL.out _ (HAu.out.below HBw3.out) (Htab.out.below HBw3.out)).mono ?_
  rintro e w4 ⟨rfl, bw4⟩
  have HBw4 := hid (Below.on HBw3.out bw4)
  have hsw4 := HBw4.out.size
  have Kpw4 := hid (Kpw3.out.below bw4)
  have Kxw4 := hid (Kxw3.out.below bw4)
  have Kmw4 := hid (Kmw3.out.below bw4)
  have Kuw4 := hid (Kuw3.out.below bw4)
  have Krw4 := hid (Krw3.out.below bw4)
  have Kyw4 := hid (Kyw3.out.below bw4)
  clear bw4
  go_wp2_with (first
     | (
        refine wpList_store_blk rfl 25 _ _ rfl (w4.heap.size) (R.map (Value.int .u8)).toArray rfl rfl _ 25 (Blk.new rfl (byteCells 32 []) _) 32 size_digest zsize HR.out.size (ints_one _ _) ?_
        intro w5 hbw5 hkw5
        have hw5 := hbw5.below ((Below.refl w4.heap.size w4).alloc (Nat.le_refl _) _) (by simp only [World.size_alloc]; omega) (Nat.le_refl _)
        have HBw5 := hid (Below.on HBw4.out hw5)
        have hsw5 := HBw5.out.size
        have Kpw5 := hid (Kpw4.out.below hw5)
        have hlpw5 := Kpw4.out.lt
        have Kxw5 := hid (Kxw4.out.below hw5)
        have hlxw5 := Kxw4.out.lt
        have Kmw5 := hid (Kmw4.out.below hw5)
        have hlmw5 := Kmw4.out.lt
        have Kuw5 := hid (Kuw4.out.below hw5)
        have hluw5 := Kuw4.out.lt
        have Krw5 := hid (Krw4.out.below hw5)
        have hlrw5 := Krw4.out.lt
        have Kyw5 := hid (Kyw4.out.below hw5)
        have hlyw5 := Kyw4.out.lt
        have Ktw5 := hid hkw5
        have hfw5 : w.heap.size ≤ w4.heap.size := HBw4.out.size
        clear hbw5 hkw5 hw5)
     | (refine wpList_load_blk rfl 25 _ rfl (w4.heap.size) rfl _ 25 Ktw5.out _ Tryz.underlying25 rfl 32 size_digest HR.out.size ?_)
     | (
      refine wpList_store_blk rfl 25 _ _ rfl (w.heap.size + 1 + 1 + 1 + 1) (R.map (Value.int .u8)).toArray rfl rfl _ 25 Krw5.out 32 size_digest zsize HR.out.size (ints_one _ _) ?_
      intro w9 hb9 hk9
      have HB9 := hid (hb9.below HBw5.out HBw5.out.size (by omega))
      have HK9 := hid hk9
      clear hb9 hk9))
  exact bodyPost_ret (v := .tuple #[.agg (R.map (Value.int .u8)).toArray, .bool true]) (results_blk_tmp Tryz.results72 _ (w.heap.size + 1 + 1 + 1 + 1) rfl _ rfl _ 25 HK9.out _ Tryz.underlying25 rfl 32 size_digest HR.out.size) rfl ⟨rfl, HB9.out⟩
end Go.Proofs.YtkakoiaahgchmaaGreatDoor
namespace Go.Proofs.YtkakoiaahgchmaaGreatDoor
set_option maxRecDepth 100000
open Go.ChangeShapes Go.WideShapes Go.ChangeAt Go.RowKit
/-- Where the way of an index is, so many layers up. -/
def atK (p i : Int) : Nat → Int
  | 0 => i
  | k + 1 => atK p i k / p
/-- What the first so many parts lead to. -/
def verK (pub : List Int) (V : Nat) (p i : Int) (ps : List Prt) (m : List Int) : Nat → List Int
  | 0 => m
  | k + 1 => rootZ pub V (k : Int) (atK p i (k + 1)) (atK p i k % p) (ps.getD k ([], [])).1 (ps.getD k ([], [])).2 (verK pub V p i ps m k)
/-- Does a signature hold? -/
def verB (L V i : Int) (root pub r : List Int) (ps : List Prt) (text : List Int) : Bool :=
  formB L V i ps && decide (verK pub V.toNat ((2 ^ V.toNat : Nat) : Int) i ps (msgZ r root i text) ps.length = root)
theorem atK_nonneg {p i : Int} (hp : 0 < p) (hi : 0 ≤ i) : ∀ k, 0 ≤ atK p i k
  | 0 => hi
  | k + 1 => Int.ediv_nonneg (atK_nonneg hp hi k) (Int.le_of_lt hp)
theorem atK_le {p i : Int} (hp : 0 < p) (hi : 0 ≤ i) : ∀ k, atK p i k ≤ i
  | 0 => Int.le_refl _
  | k + 1 => Int.le_trans (Int.ediv_le_self _ (atK_nonneg hp hi k)) (atK_le hp hi k)
theorem Dg.ver {pub : List Int} {V : Nat} {p i : Int} {ps : List Prt} {m : List Int} (hm : Dg m) (hps : ∀ k, k < ps.length → ∀ d ∈ (ps.getD k ([], [])).1, Dg d) : ∀ k, k ≤ ps.length → Dg (verK pub V p i ps m k)
  | 0, _ => hm
  | k + 1, h => Dg.root (hps k h)
theorem PartsAt.dg {w : World} {a : Option Addr} {len cap : Nat} {ps : List Prt} (h : PartsAt w a len cap ps) : ∀ k, k < ps.length → ∀ d ∈ (ps.getD k ([], [])).1, Dg d := fun k hk => by
  obtain ⟨x, o, oa, oc, aa, ac, _, hpc⟩ := h.part (k := k) (by rw [← h.length]; exact hk)
  exact hpc.ots.each
theorem formB_spec {L V i : Int} {ps : List Prt} (h : formB L V i ps = true) : rightS L V = true ∧ 0 ≤ i ∧ i < manyS L V ∧ (ps.length : Int) = L ∧ ∀ j, j < ps.length → (ps.getD j ([], [])).1.length = 67 ∧ ((ps.getD j ([], [])).2.length : Int) = V := by
  simp only [formB, Bool.and_eq_true, decide_eq_true_eq] at h
  exact ⟨h.1.1.1.1, h.1.1.1.2, h.1.1.2, h.1.2, h.2⟩
theorem manyS_le {L V : Int} (h : rightS L V = true) : manyS L V ≤ 65536 := by
  have h2 := h
  simp only [rightS, decide_eq_true_eq] at h2
  obtain ⟨n, hn⟩ : ∃ n : Nat, L * V = (n : Int) := ⟨(L * V).toNat, by have := Int.mul_nonneg (show 0 ≤ L by omega) (show 0 ≤ V by omega); omega⟩
  have hm16 : n ≤ 16 := by
    have h1 : L * V ≤ 4 * 4 := Int.mul_le_mul (by omega) (by omega) (by omega) (by omega)
    omega
  have hmz : manyS L V = ((2 ^ n : Nat) : Int) := by rw [manyS, if_pos h, hn]; rfl
  have : 2 ^ n ≤ 2 ^ 16 := Nat.pow_le_pow_right (by omega) hm16
  rw [hmz]
  omega
theorem leaf_right {n : Nat} {x : Int} (hn : 1 ≤ n ∧ n ≤ 4) : rightZ n (x % ((2 ^ n : Nat) : Int)) = true := by
  simp only [rightZ, decide_eq_true_eq]
  rcases (show n = 1 ∨ n = 2 ∨ n = 3 ∨ n = 4 by omega) with rfl | rfl | rfl | rfl <;> simp <;> omega
set_option maxHeartbeats 4000000 in
theorem verify_false (L V i : Int) (root pub r : List Int) (a : Option Addr) (pn c : Nat) (ps : List Prt) (v : Value) (w : World) (hrt : rightS L V = true) (hf : formB L V i ps = false) (hr : Dg r) (hP : PartsAt w a pn c ps) :
    Calls Tryz.prog 31 #[.agg (pubC L V root pub).toArray, .agg (sigC i r (.slice a pn c)).toArray, v] w fun e w' => e = .returned (.bool false) ∧ Below w.heap.size w w' := by
  have CF := hid (fun (W : World) (h : PartsAt W a pn c ps) => by have := formed_right L V i r a pn c ps W hrt hr h; rw [hf] at this; exact this)
  have b1 := (Below.refl w.heap.size w).alloc (Nat.le_refl _) (.cells (pubC L V root pub).toArray 27 (0, 0))
  have b2 := b1.alloc b1.size (.cells (sigC i r (.slice a pn c)).toArray 32 (0, 0))
  have Kp := hid ((Blk.new (w := w) (n := w.heap.size) rfl (pubC L V root pub).toArray 27).old (.cells (sigC i r (.slice a pn c)).toArray 32 (0, 0)))
  have Kg := hid (Blk.new (w := (w.alloc (.cells (pubC L V root pub).toArray 27 (0, 0)))) (n := w.heap.size + 1) (by simp only [World.size_alloc]) (sigC i r (.slice a pn c)).toArray 32)
  have Hb := hid b2
  have hbz := b2.size
  have Hbs := hid (show w.heap.size + 1 + 1 = ((w.alloc (.cells (pubC L V root pub).toArray 27 (0, 0))).alloc (.cells (sigC i r (.slice a pn c)).toArray 32 (0, 0))).heap.size by simp only [World.size_alloc])
  clear b1 b2 
  go_enter Tryz.func31, Tryz.ntmps31
  go_wp2_with (first
     | (refine wpList_load_mid rfl 23 _ rfl (w.heap.size) 0 rfl _ _ (pubC_shape Kp.out) Tryz.underlying23 rfl (by exact size_shape) ?_)
     | (refine wpList_load_blk rfl 32 _ rfl (w.heap.size + 1) rfl _ 32 Kg.out _ Tryz.underlying32 rfl 34 size_sig (sigC_size hr) ?_))
  have hb := hf
  refine (CF.out _ (hP.below Hb.out)).mono ?_
  rintro e w1 ⟨rfl, bw1⟩
  have HBw1 := hid (Below.on Hb.out bw1)
  have hsw1 := HBw1.out.size
  have Kpw1 := hid (Kp.out.below bw1)
  have Kgw1 := hid (Kg.out.below bw1)
  clear bw1
  go_wp2_with fail
  go_returns
  exact ⟨rfl, HBw1.out⟩
set_option maxHeartbeats 4000000 in
theorem verify_good (L i : Int) (n : Nat) (root pub r : List Int) (a : Option Addr) (pn c : Nat) (ps : List Prt) (ta : Option Addr) (tn tc : Nat) (ts : List (List Int)) (w : World) (hf : formB L n i ps = true) (hr : Dg r) (hroot : Dg root) (hpub : Dg pub) (hP : PartsAt w a pn c ps) (hT : TextsAt w ta tn tc ts) (htn : tn ≤ 4000000000000) (hsl : sumLen ts < 1000000000000000000) (tab : ShaTab w) :
    Calls Tryz.prog 31 #[.agg (pubC L n root pub).toArray, .agg (sigC i r (.slice a pn c)).toArray, .slice ta tn tc] w fun e w' => e = .returned (.bool (decide (verK pub n ((2 ^ n : Nat) : Int) i ps (msgZ r root i ts.flatten) ps.length = root))) ∧ Below w.heap.size w w' := by
  obtain ⟨hrt, h0, h1, h2, hall⟩ := formB_spec hf
  have hrt2 := hrt
  simp only [rightS, decide_eq_true_eq] at hrt2
  have hn : 1 ≤ n ∧ n ≤ 4 := by omega
  have hmy := manyS_le hrt
  have hlen := hP.length
  have hdg := hP.dg
  have CF := hid (fun (W : World) (h : PartsAt W a pn c ps) => by have := formed_right L n i r a pn c ps W hrt hr h; rw [hf] at this; exact this)
  have CM := hid (fun (W : World) (h : TextsAt W ta tn tc ts) (t : ShaTab W) => Message_any r root i ta tn tc ts W hr hroot h0 (by omega) h htn hsl t)
  have HM := hid (Dg.msg r root i ts.flatten)
  have CLo := hid (fun W : World => lowest_any L i n W hn h0 (by omega))
  have CAb := hid (fun (la tr leaf : Int) (W : World) (hla : 0 ≤ la ∧ la < 100) (q0 : 0 ≤ tr) (q1 : tr < 18446744073709551616) => above_pl la tr leaf n W hn hla q0 q1)
  have Hlf := hid (fun x : Int => leaf_right (x := x) hn)
  have hp0 : (0 : Int) < ((2 ^ n : Nat) : Int) := by have := Nat.pow_pos (n := n) (show 0 < 2 by omega); omega
  generalize msgZ r root i ts.flatten = M at *
  generalize ((2 ^ n : Nat) : Int) = p at *
  have h1 : i < 65536 := by omega
  clear hf hmy
  have b1 := (Below.refl w.heap.size w).alloc (Nat.le_refl _) (.cells (pubC L n root pub).toArray 27 (0, 0))
  have b2 := b1.alloc b1.size (.cells (sigC i r (.slice a pn c)).toArray 32 (0, 0))
  have Kp := hid ((Blk.new (w := w) (n := w.heap.size) rfl (pubC L n root pub).toArray 27).old (.cells (sigC i r (.slice a pn c)).toArray 32 (0, 0)))
  have Kg := hid (Blk.new (w := (w.alloc (.cells (pubC L n root pub).toArray 27 (0, 0)))) (n := w.heap.size + 1) (by simp only [World.size_alloc]) (sigC i r (.slice a pn c)).toArray 32)
  have Hb := hid b2
  have hbz := b2.size
  have Hbs := hid (show w.heap.size + 1 + 1 = ((w.alloc (.cells (pubC L n root pub).toArray 27 (0, 0))).alloc (.cells (sigC i r (.slice a pn c)).toArray 32 (0, 0))).heap.size by simp only [World.size_alloc])
  have Htab := hid tab
  clear b1 b2 tab 
  go_enter Tryz.func31, Tryz.ntmps31
  go_wp2_with (first
     | (refine wpList_load_mid rfl 23 _ rfl (w.heap.size) 0 rfl _ _ (pubC_shape Kp.out) Tryz.underlying23 rfl (by exact size_shape) ?_)
     | (refine wpList_load_blk rfl 32 _ rfl (w.heap.size + 1) rfl _ 32 Kg.out _ Tryz.underlying32 rfl 34 size_sig (sigC_size hr) ?_))
  refine (CF.out _ (hP.below Hb.out)).mono ?_
  rintro e w1 ⟨rfl, bw1⟩
  have HBw1 := hid (Below.on Hb.out bw1)
  have hsw1 := HBw1.out.size
  have Kpw1 := hid (Kp.out.below bw1)
  have Kgw1 := hid (Kg.out.below bw1)
  clear bw1
  have gi := sigC_index Kgw1.out
  go_wp2_with (first
     | (refine wpList_load_mid rfl 25 _ rfl (w.heap.size + 1) 1 rfl _ _ (sigC_r Kgw1.out) Tryz.underlying25 rfl (by rw [List.length_map, hr.len]; exact size_digest) ?_)
     | (refine wpList_load_mid rfl 25 _ rfl (w.heap.size) 2 rfl _ _ (pubC_root Kpw1.out) Tryz.underlying25 rfl (by rw [List.length_map, hroot.len]; exact size_digest) ?_))
  refine (CM.out _ (hT.below HBw1.out) (Htab.out.below HBw1.out)).mono ?_
  rintro e w2 ⟨rfl, bw2⟩
  have HBw2 := hid (Below.on HBw1.out bw2)
  have hsw2 := HBw2.out.size
  have Kpw2 := hid (Kpw1.out.below bw2)
  have Kgw2 := hid (Kgw1.out.below bw2)
  clear bw2
  go_wp2_with (first
     | (
        refine wpList_store_blk rfl 25 _ _ rfl (w2.heap.size) (M.map (Value.int .u8)).toArray rfl rfl _ 25 (Blk.new rfl (byteCells 32 []) _) 32 size_digest zsize HM.out.size (ints_one _ _) ?_
        intro w3 hbw3 hkw3
        have hw3 := hbw3.below ((Below.refl w2.heap.size w2).alloc (Nat.le_refl _) _) (by simp only [World.size_alloc]; omega) (Nat.le_refl _)
        have HBw3 := hid (Below.on HBw2.out hw3)
        have hsw3 := HBw3.out.size
        have Kpw3 := hid (Kpw2.out.below hw3)
        have hlpw3 := Kpw2.out.lt
        have Kgw3 := hid (Kgw2.out.below hw3)
        have hlgw3 := Kgw2.out.lt
        have Kmw3 := hid hkw3
        have hfw3 : w.heap.size ≤ w2.heap.size := HBw2.out.size
        clear hbw3 hkw3 hw3
        have gi2 := sigC_index Kgw3.out)
     | (refine wpList_load_mid rfl 23 _ rfl (w.heap.size) 0 rfl _ _ (pubC_shape Kpw3.out) Tryz.underlying23 rfl (by exact size_shape) ?_))
  refine (CLo.out _).mono ?_
  rintro e w4 ⟨rfl, bw4⟩
  have HBw4 := hid (Below.on HBw3.out bw4)
  have hsw4 := HBw4.out.size
  have Kpw4 := hid (Kpw3.out.below bw4)
  have Kgw4 := hid (Kgw3.out.below bw4)
  have Kmw4 := hid (Kmw3.out.below bw4)
  clear bw4
  have Kpw5 := hid (Kpw4.out.old (.cells #[.int .u32 0, .int .u64 (i / p), .int .i64 (i % p), .int .i64 n] 110 (0, 0)))
  have hlpw5 := Kpw4.out.lt
  have Kgw5 := hid (Kgw4.out.old (.cells #[.int .u32 0, .int .u64 (i / p), .int .i64 (i % p), .int .i64 n] 110 (0, 0)))
  have hlgw5 := Kgw4.out.lt
  have Kmw5 := hid (Kmw4.out.old (.cells #[.int .u32 0, .int .u64 (i / p), .int .i64 (i % p), .int .i64 n] 110 (0, 0)))
  have hlmw5 := Kmw4.out.lt
  have Ktw5 := hid (Blk.new (w := w4) rfl #[.int .u32 0, .int .u64 (i / p), .int .i64 (i % p), .int .i64 n] 110)
  have HBw5 := hid (HBw4.out.alloc HBw4.out.size (.cells #[.int .u32 0, .int .u64 (i / p), .int .i64 (i % p), .int .i64 n] 110 (0, 0)))
  have hsw5 := HBw5.out.size
  have hfw5 : w.heap.size ≤ w4.heap.size := HBw4.out.size
  have gp := sigC_parts hr Kgw5.out
  go_wp2_with fail
  have hm7 : w.heap.size + 1 < w2.heap.size := by have := Kmw5.out.lt; omega
  have hm8 : w2.heap.size < w4.heap.size := by omega
  have Hmb := hid Kmw5.out
  have Htb := hid Ktw5.out
  have Hbe := hid HBw5.out
  have Hpb := hid Kpw5.out
  have Hgb := hid Kgw5.out
  generalize w2.heap.size = bm at *
  generalize w4.heap.size = bt at *
  clear hbz
  go_loopw [35] (fun iv wr => ∃ k : Nat, k ≤ pn ∧ iv = .int .i64 k ∧ Blk wr (w.heap.size) (pubC L n root pub).toArray 27 ∧ Blk wr (w.heap.size + 1) (sigC i r (.slice a pn c)).toArray 32 ∧ Blk wr bm ((verK pub n p i ps M k).map (Value.int .u8)).toArray 25 ∧ Blk wr bt #[.int .u32 k, .int .u64 (atK p i (k + 1)), .int .i64 (atK p i k % p), .int .i64 n] 110 ∧ Below w.heap.size w wr) (fun iv _ => pn - (intOf iv).toNat)
  case atStart => exact ⟨0, Nat.zero_le _, rfl, Hpb.out, Hgb.out, Hmb.out, Htb.out, Hbe.out⟩
  case round =>
    obtain ⟨k, hk, rfl, kp, kg, km, kt, bel⟩ := hrel
    have Kpwr := hid kp
    have Kgwr := hid kg
    have Kmwr := hid km
    have Ktwr := hid kt
    have HBwr := hid bel
    have hswr := bel.size
    have hbmlt := km.lt
    have hbtlt := kt.lt
    clear kp kg km kt bel
    have HX := hid (Dg.ver (pub := pub) (V := n) (p := p) (i := i) HM.out hdg k (by omega))
    by_cases hlt : k < pn
    · have hc0 : (k : Int) < pn := by omega
      obtain ⟨x, o, oa, oc, aa, ac, rfl, hpc⟩ := hP.part hlt
      have hkl : k < ps.length := by omega
      obtain ⟨hq1, hq2⟩ := hall k hkl
      have hq2 : (ps.getD k ([], [])).2.length = n := by omega
      have HPC := hid hpc
      clear hpc
      have Hnx := hid (show verK pub n p i ps M (k + 1) = rootZ pub n (k : Int) (atK p i (k + 1)) (atK p i k % p) (ps.getD k ([], [])).1 (ps.getD k ([], [])).2 (verK pub n p i ps M k) from rfl)
      have Hat := hid (show atK p i (k + 1 + 1) = atK p i (k + 1) / p from rfl)
      have ha1 : 0 ≤ atK p i (k + 1) ∧ atK p i (k + 1) < 18446744073709551616 := ⟨atK_nonneg hp0 h0 _, by have := atK_le hp0 h0 (k + 1); omega⟩
      have HX2 := hid (Dg.ver (pub := pub) (V := n) (p := p) (i := i) HM.out hdg (k + 1) (by omega))
      have CR := hid (fun (W : World) (hO : DigsAt W oa 67 oc (ps.getD k ([], [])).1) (hA : DigsAt W aa n ac (ps.getD k ([], [])).2) (t : ShaTab W) => root_good (k : Int) (atK p i (k + 1)) (atK p i k % p) n (ps.getD k ([], [])).1 (ps.getD k ([], [])).2 oa oc aa ac (verK pub n p i ps M k) pub W hO hA HX.out hpub (by omega) ha1 (Hlf.out (atK p i k)) t)
      have CA := hid (fun (W : World) => CAb.out (k : Int) (atK p i (k + 1)) (atK p i k % p) W (by omega) ha1.1 ha1.2)
      rw [← Hnx.out] at CR
      rw [← Hat.out] at CA
      clear Hnx Hat
      obtain ⟨q, hq⟩ : ∃ q, ps.getD k ([], []) = q := ⟨_, rfl⟩
      rw [hq] at HPC CR hq1 hq2
      clear hq
      have HO := hid HPC.out.ots
      have HAu := hid HPC.out.auth
      have Hrg := hid (HPC.out.below HBwr.out).range
      have hsz := HBwr.out
      rw [hq1] at HO Hrg
      rw [hq2] at HAu Hrg
      generalize hdl : verK pub n p i ps M (k + 1) = dl at *
      generalize hdk : verK pub n p i ps M k = dk at *
      generalize hll1 : atK p i (k + 1) % p = l2 at *
      generalize hl1 : atK p i k % p = l1 at *
      generalize ha2 : atK p i (k + 1 + 1) = a2 at *
      generalize ha1' : atK p i (k + 1) = a1 at *
      have Kpw31 := hid (Kpwr.out.old (.cells #[.slice oa 67 oc, .slice aa n ac] 58 (0, 0)))
      have hlpw31 := Kpwr.out.lt
      have Kgw31 := hid (Kgwr.out.old (.cells #[.slice oa 67 oc, .slice aa n ac] 58 (0, 0)))
      have hlgw31 := Kgwr.out.lt
      have Kmw31 := hid (Kmwr.out.old (.cells #[.slice oa 67 oc, .slice aa n ac] 58 (0, 0)))
      have hlmw31 := Kmwr.out.lt
      have Ktw31 := hid (Ktwr.out.old (.cells #[.slice oa 67 oc, .slice aa n ac] 58 (0, 0)))
      have hltw31 := Ktwr.out.lt
      have Kxw31 := hid (Blk.new (w := wr) rfl #[.slice oa 67 oc, .slice aa n ac] 58)
      have HBw31 := hid (HBwr.out.alloc HBwr.out.size (.cells #[.slice oa 67 oc, .slice aa n ac] 58 (0, 0)))
      have hsw31 := HBw31.out.size
      have hfw31 : w.heap.size ≤ wr.heap.size := HBwr.out.size
      go_wp2_with (first
         | (refine wpList_index_s 2 (by first | rfl | go_simp) 30 _ _ rfl Tryz.underlying30 size_part x (o) (pn) (c) rfl _ _ rfl k (by omega) (by omega) ?_)
         | (refine wpList_load_mid rfl 58 _ rfl x (o + k * 2) rfl _ _ Hrg.out Tryz.underlying58 rfl (by exact size_part) ?_)
         | (refine wpList_load_blk rfl 110 _ rfl (bt) rfl _ 110 Ktw31.out _ Tryz.underlying110 rfl 4 size_place rfl ?_)
         | (refine wpList_load_blk rfl 58 _ rfl (wr.heap.size) rfl _ 58 Kxw31.out _ Tryz.underlying58 rfl 2 size_part rfl ?_)
         | (refine wpList_load_blk rfl 25 _ rfl (bm) rfl _ 25 Kmw31.out _ Tryz.underlying25 rfl 32 size_digest HX.out.size ?_)
         | (refine wpList_load_mid rfl 25 _ rfl (w.heap.size) 34 rfl _ _ (pubC_pub hroot Kpw31.out) Tryz.underlying25 rfl (by rw [List.length_map, hpub.len]; exact size_digest) ?_))
      refine (CR.out _ (HO.out.below (HBw31.out)) (HAu.out.below (HBw31.out)) (Htab.out.below HBw31.out)).mono ?_
      rintro e w32 ⟨rfl, bw32⟩
      have HBw32 := hid (Below.on HBw31.out bw32)
      have hsw32 := HBw32.out.size
      have Kpw32 := hid (Kpw31.out.below bw32)
      have Kgw32 := hid (Kgw31.out.below bw32)
      have Kmw32 := hid (Kmw31.out.below bw32)
      have Ktw32 := hid (Ktw31.out.below bw32)
      have Kxw32 := hid (Kxw31.out.below bw32)
      clear bw32
      go_wp2_with (first
         | (
            refine wpList_store_blk rfl 25 _ _ rfl (w32.heap.size) (dl.map (Value.int .u8)).toArray rfl rfl _ 25 (Blk.new rfl (byteCells 32 []) _) 32 size_digest zsize HX2.out.size (ints_one _ _) ?_
            intro w33 hbw33 hkw33
            have hw33 := hbw33.below ((Below.refl w32.heap.size w32).alloc (Nat.le_refl _) _) (by simp only [World.size_alloc]; omega) (Nat.le_refl _)
            have HBw33 := hid (Below.on HBw32.out hw33)
            have hsw33 := HBw33.out.size
            have Kpw33 := hid (Kpw32.out.below hw33)
            have hlpw33 := Kpw32.out.lt
            have Kgw33 := hid (Kgw32.out.below hw33)
            have hlgw33 := Kgw32.out.lt
            have Kmw33 := hid (Kmw32.out.below hw33)
            have hlmw33 := Kmw32.out.lt
            have Ktw33 := hid (Ktw32.out.below hw33)
            have hltw33 := Ktw32.out.lt
            have Kxw33 := hid (Kxw32.out.below hw33)
            have hlxw33 := Kxw32.out.lt
            have Kyw33 := hid hkw33
            have hfw33 : w.heap.size ≤ w32.heap.size := HBw32.out.size
            clear hbw33 hkw33 hw33)
         | (refine wpList_load_blk rfl 25 _ rfl (w32.heap.size) rfl _ 25 Kyw33.out _ Tryz.underlying25 rfl 32 size_digest HX2.out.size ?_)
         | (
            refine wpList_store_blk rfl 25 _ _ rfl (bm) (dl.map (Value.int .u8)).toArray rfl rfl _ 25 Kmw33.out 32 size_digest HX.out.size HX2.out.size (ints_one _ _) ?_
            intro w34 hbw34 hkw34
            have HBw34 := hid (hbw34.below HBw33.out HBw33.out.size (by omega))
            have hsw34 := HBw34.out.size
            have Kpw34 := hid (hbw34.blk Kpw33.out (by have := Kpw33.out.lt; omega))
            have Kgw34 := hid (hbw34.blk Kgw33.out (by have := Kgw33.out.lt; omega))
            have Ktw34 := hid (hbw34.blk Ktw33.out (by have := Ktw33.out.lt; omega))
            have Kxw34 := hid (hbw34.blk Kxw33.out (by have := Kxw33.out.lt; omega))
            have Kyw34 := hid (hbw34.blk Kyw33.out (by have := Kyw33.out.lt; omega))
            have Kmw34 := hid hkw34
            clear hbw34 hkw34)
         | (refine wpList_load_blk rfl 110 _ rfl (bt) rfl _ 110 Ktw34.out _ Tryz.underlying110 rfl 4 size_place rfl ?_))
      refine (CA.out _).mono ?_
      rintro e w35 ⟨rfl, bw35⟩
      have HBw35 := hid (Below.on HBw34.out bw35)
      have hsw35 := HBw35.out.size
      have Kpw35 := hid (Kpw34.out.below bw35)
      have Kgw35 := hid (Kgw34.out.below bw35)
      have Kmw35 := hid (Kmw34.out.below bw35)
      have Ktw35 := hid (Ktw34.out.below bw35)
      have Kxw35 := hid (Kxw34.out.below bw35)
      have Kyw35 := hid (Kyw34.out.below bw35)
      clear bw35
      have Kpw36 : Hid (Blk ((((w35.setCell ⟨bt, 0, none⟩ (.int .u32 (k + 1))).setCell ⟨bt, 1, none⟩ (.int .u64 a2)).setCell ⟨bt, 2, none⟩ (.int .i64 l2)).setCell ⟨bt, 3, none⟩ (.int .i64 n)) (w.heap.size) (pubC L n root pub).toArray 27) := hid (Blk.setAll_other (b := bt) (by have := Kpw35.out.lt; omega) [.int .u32 (k + 1), .int .u64 a2, .int .i64 l2, .int .i64 n] 0 _ Kpw35.out)
      have Kgw36 : Hid (Blk ((((w35.setCell ⟨bt, 0, none⟩ (.int .u32 (k + 1))).setCell ⟨bt, 1, none⟩ (.int .u64 a2)).setCell ⟨bt, 2, none⟩ (.int .i64 l2)).setCell ⟨bt, 3, none⟩ (.int .i64 n)) (w.heap.size + 1) (sigC i r (.slice (some ⟨x, o, none⟩) pn c)).toArray 32) := hid (Blk.setAll_other (b := bt) (by have := Kgw35.out.lt; omega) [.int .u32 (k + 1), .int .u64 a2, .int .i64 l2, .int .i64 n] 0 _ Kgw35.out)
      have Kmw36 : Hid (Blk ((((w35.setCell ⟨bt, 0, none⟩ (.int .u32 (k + 1))).setCell ⟨bt, 1, none⟩ (.int .u64 a2)).setCell ⟨bt, 2, none⟩ (.int .i64 l2)).setCell ⟨bt, 3, none⟩ (.int .i64 n)) (bm) (dl.map (Value.int .u8)).toArray 25) := hid (Blk.setAll_other (b := bt) (by have := Kmw35.out.lt; omega) [.int .u32 (k + 1), .int .u64 a2, .int .i64 l2, .int .i64 n] 0 _ Kmw35.out)
      have Kxw36 : Hid (Blk ((((w35.setCell ⟨bt, 0, none⟩ (.int .u32 (k + 1))).setCell ⟨bt, 1, none⟩ (.int .u64 a2)).setCell ⟨bt, 2, none⟩ (.int .i64 l2)).setCell ⟨bt, 3, none⟩ (.int .i64 n)) (wr.heap.size) #[.slice oa 67 oc, .slice aa n ac] 58) := hid (Blk.setAll_other (b := bt) (by have := Kxw35.out.lt; omega) [.int .u32 (k + 1), .int .u64 a2, .int .i64 l2, .int .i64 n] 0 _ Kxw35.out)
      have Kyw36 : Hid (Blk ((((w35.setCell ⟨bt, 0, none⟩ (.int .u32 (k + 1))).setCell ⟨bt, 1, none⟩ (.int .u64 a2)).setCell ⟨bt, 2, none⟩ (.int .i64 l2)).setCell ⟨bt, 3, none⟩ (.int .i64 n)) (w32.heap.size) (dl.map (Value.int .u8)).toArray 25) := hid (Blk.setAll_other (b := bt) (by have := Kyw35.out.lt; omega) [.int .u32 (k + 1), .int .u64 a2, .int .i64 l2, .int .i64 n] 0 _ Kyw35.out)
      have q0w36 := (Ktw35.out.cell 0).trans (show _ = some _ from rfl)
      have r0w36 := Ktw35.out.free 0
      have q1w36 := (Ktw35.out.cell 1).trans (show _ = some _ from rfl)
      have r1w36 := Ktw35.out.free 1
      have q2w36 := (Ktw35.out.cell 2).trans (show _ = some _ from rfl)
      have r2w36 := Ktw35.out.free 2
      have q3w36 := (Ktw35.out.cell 3).trans (show _ = some _ from rfl)
      have r3w36 := Ktw35.out.free 3
      have Ktw36 : Hid (Blk ((((w35.setCell ⟨bt, 0, none⟩ (.int .u32 (k + 1))).setCell ⟨bt, 1, none⟩ (.int .u64 a2)).setCell ⟨bt, 2, none⟩ (.int .i64 l2)).setCell ⟨bt, 3, none⟩ (.int .i64 n)) (bt) #[.int .u32 (k + 1), .int .u64 a2, .int .i64 l2, .int .i64 n] 110) := hid (Blk.setAll_self Ktw35.out [.int .u32 (k + 1), .int .u64 a2, .int .i64 l2, .int .i64 n] rfl)
      have HBw36 : Hid (Below w.heap.size w ((((w35.setCell ⟨bt, 0, none⟩ (.int .u32 (k + 1))).setCell ⟨bt, 1, none⟩ (.int .u64 a2)).setCell ⟨bt, 2, none⟩ (.int .i64 l2)).setCell ⟨bt, 3, none⟩ (.int .i64 n))) := hid (Below.setAll (by omega) [.int .u32 (k + 1), .int .u64 a2, .int .i64 l2, .int .i64 n] 0 _ HBw35.out)
      have hsw36 := HBw36.out.size
      go_wp2_with fail
      exact ⟨⟨k + 1, by omega, by first | rfl | simp, Kpw36.out, Kgw36.out, by rw [hdl]; exact Kmw36.out, by rw [ha2, ha1', hll1]; exact Ktw36.out, HBw36.out⟩, by simp [intOf]; omega⟩
    · obtain rfl : k = pn := by omega
      have hc0 : ¬ ((k : Int) < k) := by omega
      have hl := hP.length
      obtain ⟨X, hX⟩ : ∃ X, verK pub n p i ps M k = X := ⟨_, rfl⟩
      rw [hX] at HX Kmwr
      have q1 := fun W => eqD X root HX.out.len hroot.len W
      go_wp2_with (first
         | (refine wpList_load_blk rfl 25 _ rfl (bm) rfl _ 25 Kmwr.out _ Tryz.underlying25 rfl 32 size_digest HX.out.size ?_)
         | (refine wpList_load_mid rfl 25 _ rfl (w.heap.size) 2 rfl _ _ (pubC_root Kpwr.out) Tryz.underlying25 rfl (by rw [List.length_map, hroot.len]; exact size_digest) ?_))
      go_returns
      exact ⟨by first | (rw [hX]; rfl) | (rw [hl, hX]; rfl) | rfl, HBwr.out⟩
end Go.Proofs.YtkakoiaahgchmaaGreatDoor
namespace Go.Proofs.YtkakoiaahgchmaaGreatDoor
set_option maxRecDepth 100000
open Go.ChangeShapes Go.WideShapes Go.ChangeAt Go.RowKit
set_option maxHeartbeats 4000000 in
theorem refmsg11_any (L V i : Int) (root pub r m : List Int) (ta : Option Addr) (tn tc : Nat) (w : World) (hr : Dg r) (hroot : Dg root) (_hpub : Dg pub) (h0 : 0 ≤ i) (h1 : i < 65536) (hT : TextAt w ta tn tc m) (hn : tn ≤ 140737488320000) :
    Calls Tryz.prog 22 #[.agg (pubC L V root pub).toArray, .agg (r.map (Value.int .u8)).toArray, .int .i64 i, .slice ta tn tc] w fun e w' => e = .returned (.agg ((msgZ r root i m).map (Value.int .u8)).toArray) ∧ Below w.heap.size w w' := by
  have CM := hid (fun (W : World) (h : TextAt W ta tn tc m) => refMessage_any r root m i ta tn tc W hr hroot h0 (by omega) h hn)
  have HM := hid (Dg.msg r root i m)
  generalize msgZ r root i m = M at *
  have b1 := (Below.refl w.heap.size w).alloc (Nat.le_refl _) (.cells (pubC L V root pub).toArray 27 (0, 0))
  have b2 := b1.alloc b1.size (.cells (r.map (Value.int .u8)).toArray 25 (0, 0))
  have b3 := b2.alloc b2.size (.cells (byteCells 32 []) 25 (0, 0))
  have Kp := hid (((Blk.new (w := w) (n := w.heap.size) rfl (pubC L V root pub).toArray 27).old (.cells (r.map (Value.int .u8)).toArray 25 (0, 0))).old (.cells (byteCells 32 []) 25 (0, 0)))
  have Kd := hid ((Blk.new (w := (w.alloc (.cells (pubC L V root pub).toArray 27 (0, 0)))) (n := w.heap.size + 1) (by simp only [World.size_alloc]) (r.map (Value.int .u8)).toArray 25).old (.cells (byteCells 32 []) 25 (0, 0)))
  have Kr := hid (Blk.new (w := ((w.alloc (.cells (pubC L V root pub).toArray 27 (0, 0))).alloc (.cells (r.map (Value.int .u8)).toArray 25 (0, 0)))) (n := w.heap.size + 1 + 1) (by simp only [World.size_alloc]) (byteCells 32 []) 25)
  have Hb := hid b3
  have hbz := b3.size
  have Hbs := hid (show w.heap.size + 1 + 1 + 1 = (((w.alloc (.cells (pubC L V root pub).toArray 27 (0, 0))).alloc (.cells (r.map (Value.int .u8)).toArray 25 (0, 0))).alloc (.cells (byteCells 32 []) 25 (0, 0))).heap.size by simp only [World.size_alloc])
  clear b1 b2 b3 
  go_enter Tryz.func22, Tryz.ntmps22
  go_wp2_with (first
     | (refine wpList_load_blk rfl 25 _ rfl (w.heap.size + 1) rfl _ 25 Kd.out _ Tryz.underlying25 rfl 32 size_digest hr.size ?_)
     | (refine wpList_load_mid rfl 25 _ rfl (w.heap.size) 2 rfl _ _ (pubC_root Kp.out) Tryz.underlying25 rfl (by rw [List.length_map, hroot.len]; exact size_digest) ?_))
  refine (CM.out _ (hT.below Hb.out)).mono ?_
  rintro e w1 ⟨rfl, bw1⟩
  have HBw1 := hid (Below.on Hb.out bw1)
  have hsw1 := HBw1.out.size
  have Kpw1 := hid (Kp.out.below bw1)
  have Kdw1 := hid (Kd.out.below bw1)
  have Krw1 := hid (Kr.out.below bw1)
  clear bw1
  go_wp2_with (
      refine wpList_store_blk rfl 25 _ _ rfl (w.heap.size + 1 + 1) (M.map (Value.int .u8)).toArray rfl rfl _ 25 Krw1.out 32 size_digest zsize HM.out.size (ints_one _ _) ?_
      intro w9 hb9 hk9
      have HB9 := hid (hb9.below HBw1.out HBw1.out.size (by omega))
      have HK9 := hid hk9
      clear hb9 hk9)
  exact bodyPost_ret (v := .agg (M.map (Value.int .u8)).toArray) (results_blk Tryz.results22 _ (w.heap.size + 1 + 1) rfl _ 25 HK9.out _ Tryz.underlying25 rfl 32 size_digest HM.out.size) rfl ⟨rfl, HB9.out⟩
set_option maxHeartbeats 4000000 in
theorem refverify_bad (L V i : Int) (root pub r : List Int) (a : Option Addr) (pn c : Nat) (ps : List Prt) (v : Value) (w : World) (hrt : rightS L V = false) (_hr : Dg r) (_hP : PartsAt w a pn c ps) :
    Calls Tryz.prog 7 #[.agg (pubC L V root pub).toArray, .agg (sigC i r (.slice a pn c)).toArray, v] w fun e w' => e = .returned (.bool false) ∧ Below w.heap.size w w' := by
  have b1 := (Below.refl w.heap.size w).alloc (Nat.le_refl _) (.cells (pubC L V root pub).toArray 27 (0, 0))
  have b2 := b1.alloc b1.size (.cells (sigC i r (.slice a pn c)).toArray 32 (0, 0))
  have Kp := hid ((Blk.new (w := w) (n := w.heap.size) rfl (pubC L V root pub).toArray 27).old (.cells (sigC i r (.slice a pn c)).toArray 32 (0, 0)))
  have Kg := hid (Blk.new (w := (w.alloc (.cells (pubC L V root pub).toArray 27 (0, 0)))) (n := w.heap.size + 1) (by simp only [World.size_alloc]) (sigC i r (.slice a pn c)).toArray 32)
  have Hb := hid b2
  have hbz := b2.size
  have Hbs := hid (show w.heap.size + 1 + 1 = ((w.alloc (.cells (pubC L V root pub).toArray 27 (0, 0))).alloc (.cells (sigC i r (.slice a pn c)).toArray 32 (0, 0))).heap.size by simp only [World.size_alloc])
  clear b1 b2 
  go_enter Tryz.func7, Tryz.ntmps7
  go_wp2_with (refine wpList_load_mid rfl 23 _ rfl (w.heap.size) 0 rfl _ _ (pubC_shape Kp.out) Tryz.underlying23 rfl (by exact size_shape) ?_)
  refine (refright_b L V false hrt _).mono ?_
  rintro e w1 ⟨rfl, bw1⟩
  have HBw1 := hid (Below.on Hb.out bw1)
  have hsw1 := HBw1.out.size
  have Kpw1 := hid (Kp.out.below bw1)
  have Kgw1 := hid (Kg.out.below bw1)
  clear bw1
  go_wp2_with fail
  go_returns
  exact ⟨rfl, HBw1.out⟩
theorem wpList_load_mid_if {P : Program} {ops : Array Oper} {rest : List Oper} {op : Oper} {a : Act} {w : World} {Q : Exit → Act → World → Prop} (hw : Region.wanted op (yielded ops a.tmps) = true) (ty : TypeId) (x : Operand) (ho : op.op = .load ty x) (b o : Nat) (hx : a.eval x = .pointer (some ⟨b, o, none⟩)) (cs : List Value) (d : TypeDesc) (hk : w.rangeAt b o cs)
    (hu : P.underlying ty = some d) (hd : d.isRow = true) (hi : (P.info? ty).map (·.size) = some cs.length)
    (h : wpList P ops Q rest (a.put op.dst (.agg cs.toArray)) w) : wpList P ops Q (op :: rest) a w := by
  unfold wpList
  rw [if_pos hw]
  exact .inl (wp_load_mid ty x ho b o hx cs d hk hu hd hi h)
set_option maxHeartbeats 4000000 in
theorem refverify_false (L V i : Int) (root pub r : List Int) (a : Option Addr) (pn c : Nat) (ps : List Prt) (v : Value) (w : World) (hrt : rightS L V = true) (hf : formB L V i ps = false) (hr : Dg r) (hP : PartsAt w a pn c ps) :
    Calls Tryz.prog 7 #[.agg (pubC L V root pub).toArray, .agg (sigC i r (.slice a pn c)).toArray, v] w fun e w' => e = .returned (.bool false) ∧ Below w.heap.size w w' := by
  have CF := hid (fun (W : World) (h : PartsAt W a pn c ps) => by have := refformed_right L V i r a pn c ps W hrt hr h; rw [hf] at this; exact this)
  have b1 := (Below.refl w.heap.size w).alloc (Nat.le_refl _) (.cells (pubC L V root pub).toArray 27 (0, 0))
  have b2 := b1.alloc b1.size (.cells (sigC i r (.slice a pn c)).toArray 32 (0, 0))
  have Kp := hid ((Blk.new (w := w) (n := w.heap.size) rfl (pubC L V root pub).toArray 27).old (.cells (sigC i r (.slice a pn c)).toArray 32 (0, 0)))
  have Kg := hid (Blk.new (w := (w.alloc (.cells (pubC L V root pub).toArray 27 (0, 0)))) (n := w.heap.size + 1) (by simp only [World.size_alloc]) (sigC i r (.slice a pn c)).toArray 32)
  have Hb := hid b2
  have hbz := b2.size
  have Hbs := hid (show w.heap.size + 1 + 1 = ((w.alloc (.cells (pubC L V root pub).toArray 27 (0, 0))).alloc (.cells (sigC i r (.slice a pn c)).toArray 32 (0, 0))).heap.size by simp only [World.size_alloc])
  clear b1 b2 
  go_enter Tryz.func7, Tryz.ntmps7
  go_wp2_with (refine wpList_load_mid rfl 23 _ rfl (w.heap.size) 0 rfl _ _ (pubC_shape Kp.out) Tryz.underlying23 rfl (by exact size_shape) ?_)
  refine (refright_b L V true hrt _).mono ?_
  rintro e w1 ⟨rfl, bw1⟩
  have HBw1 := hid (Below.on Hb.out bw1)
  have hsw1 := HBw1.out.size
  have Kpw1 := hid (Kp.out.below bw1)
  have Kgw1 := hid (Kg.out.below bw1)
  clear bw1
  go_wp2_with (first
     | (refine wpList_load_mid_if (by first | rfl | go_simp) 23 _ rfl (w.heap.size) 0 rfl _ _ (pubC_shape Kpw1.out) Tryz.underlying23 rfl (by exact size_shape) ?_)
     | (refine wpList_load_blk_if (by first | rfl | go_simp) 32 _ rfl (w.heap.size + 1) rfl _ 32 Kgw1.out _ Tryz.underlying32 rfl 34 size_sig (sigC_size hr) ?_))
  refine (CF.out _ (hP.below HBw1.out)).mono ?_
  rintro e w2 ⟨rfl, bw2⟩
  have HBw2 := hid (Below.on HBw1.out bw2)
  have hsw2 := HBw2.out.size
  have Kpw2 := hid (Kpw1.out.below bw2)
  have Kgw2 := hid (Kgw1.out.below bw2)
  clear bw2
  go_wp2_with fail
  go_returns
  exact ⟨rfl, HBw2.out⟩
set_option maxHeartbeats 4000000 in
theorem refverify_good (L i : Int) (n : Nat) (root pub r : List Int) (a : Option Addr) (pn c : Nat) (ps : List Prt) (ta : Option Addr) (tn tc : Nat) (m : List Int) (w : World) (hf : formB L n i ps = true) (hr : Dg r) (hroot : Dg root) (hpub : Dg pub) (hP : PartsAt w a pn c ps) (hT : TextAt w ta tn tc m) (htn : tn ≤ 140737488320000) :
    Calls Tryz.prog 7 #[.agg (pubC L n root pub).toArray, .agg (sigC i r (.slice a pn c)).toArray, .slice ta tn tc] w fun e w' => e = .returned (.bool (decide (verK pub n ((2 ^ n : Nat) : Int) i ps (msgZ r root i m) ps.length = root))) ∧ Below w.heap.size w w' := by
  obtain ⟨hrt, h0, h1, h2, hall⟩ := formB_spec hf
  have hrt2 := hrt
  simp only [rightS, decide_eq_true_eq] at hrt2
  have hn : 1 ≤ n ∧ n ≤ 4 := by omega
  have hmy := manyS_le hrt
  have hlen := hP.length
  have hdg := hP.dg
  have CF := hid (fun (W : World) (h : PartsAt W a pn c ps) => by have := refformed_right L n i r a pn c ps W hrt hr h; rw [hf] at this; exact this)
  have CM := hid (fun (W : World) (h : TextAt W ta tn tc m) => refmsg11_any L n i root pub r m ta tn tc W hr hroot hpub h0 (by omega) h htn)
  have HM := hid (Dg.msg r root i m)
  have CP := hid (fun W : World => power_any n (by omega) W)
  have Hlf := hid (fun x : Int => leaf_right (x := x) hn)
  have hp0 : (0 : Int) < ((2 ^ n : Nat) : Int) := by have := Nat.pow_pos (n := n) (show 0 < 2 by omega); omega
  have hp16 : ((2 ^ n : Nat) : Int) ≤ 16 := by
    rcases (show n = 1 ∨ n = 2 ∨ n = 3 ∨ n = 4 by omega) with h | h | h | h <;> rw [h] <;> decide
  generalize msgZ r root i m = M at *
  generalize ((2 ^ n : Nat) : Int) = p at *
  have h1 : i < 65536 := by omega
  clear hf hmy
  have b1 := (Below.refl w.heap.size w).alloc (Nat.le_refl _) (.cells (pubC L n root pub).toArray 27 (0, 0))
  have b2 := b1.alloc b1.size (.cells (sigC i r (.slice a pn c)).toArray 32 (0, 0))
  have Kp := hid ((Blk.new (w := w) (n := w.heap.size) rfl (pubC L n root pub).toArray 27).old (.cells (sigC i r (.slice a pn c)).toArray 32 (0, 0)))
  have Kg := hid (Blk.new (w := (w.alloc (.cells (pubC L n root pub).toArray 27 (0, 0)))) (n := w.heap.size + 1) (by simp only [World.size_alloc]) (sigC i r (.slice a pn c)).toArray 32)
  have Hb := hid b2
  have hbz := b2.size
  have Hbs := hid (show w.heap.size + 1 + 1 = ((w.alloc (.cells (pubC L n root pub).toArray 27 (0, 0))).alloc (.cells (sigC i r (.slice a pn c)).toArray 32 (0, 0))).heap.size by simp only [World.size_alloc])
  clear b1 b2 
  go_enter Tryz.func7, Tryz.ntmps7
  go_wp2_with (refine wpList_load_mid rfl 23 _ rfl (w.heap.size) 0 rfl _ _ (pubC_shape Kp.out) Tryz.underlying23 rfl (by exact size_shape) ?_)
  refine (refright_b L n true hrt _).mono ?_
  rintro e w1 ⟨rfl, bw1⟩
  have HBw1 := hid (Below.on Hb.out bw1)
  have hsw1 := HBw1.out.size
  have Kpw1 := hid (Kp.out.below bw1)
  have Kgw1 := hid (Kg.out.below bw1)
  clear bw1
  go_wp2_with (first
     | (refine wpList_load_mid_if (by first | rfl | go_simp) 23 _ rfl (w.heap.size) 0 rfl _ _ (pubC_shape Kpw1.out) Tryz.underlying23 rfl (by exact size_shape) ?_)
     | (refine wpList_load_blk_if (by first | rfl | go_simp) 32 _ rfl (w.heap.size + 1) rfl _ 32 Kgw1.out _ Tryz.underlying32 rfl 34 size_sig (sigC_size hr) ?_))
  refine (CF.out _ (hP.below HBw1.out)).mono ?_
  rintro e w2 ⟨rfl, bw2⟩
  have HBw2 := hid (Below.on HBw1.out bw2)
  have hsw2 := HBw2.out.size
  have Kpw2 := hid (Kpw1.out.below bw2)
  have Kgw2 := hid (Kgw1.out.below bw2)
  clear bw2
  have gi := sigC_index Kgw2.out
  go_wp2_with (first
     | (refine wpList_load_mid rfl 25 _ rfl (w.heap.size + 1) 1 rfl _ _ (sigC_r Kgw2.out) Tryz.underlying25 rfl (by rw [List.length_map, hr.len]; exact size_digest) ?_)
     | (refine wpList_load_blk rfl 27 _ rfl (w.heap.size) rfl _ 27 Kpw2.out _ Tryz.underlying27 rfl 66 size_public (pubC_size hroot hpub) ?_))
  refine (CM.out _ (hT.below HBw2.out)).mono ?_
  rintro e w3 ⟨rfl, bw3⟩
  have HBw3 := hid (Below.on HBw2.out bw3)
  have hsw3 := HBw3.out.size
  have Kpw3 := hid (Kpw2.out.below bw3)
  have Kgw3 := hid (Kgw2.out.below bw3)
  clear bw3
  go_wp2_with (
        refine wpList_store_blk rfl 25 _ _ rfl (w3.heap.size) (M.map (Value.int .u8)).toArray rfl rfl _ 25 (Blk.new rfl (byteCells 32 []) _) 32 size_digest zsize HM.out.size (ints_one _ _) ?_
        intro w4 hbw4 hkw4
        have hw4 := hbw4.below ((Below.refl w3.heap.size w3).alloc (Nat.le_refl _) _) (by simp only [World.size_alloc]; omega) (Nat.le_refl _)
        have HBw4 := hid (Below.on HBw3.out hw4)
        have hsw4 := HBw4.out.size
        have Kpw4 := hid (Kpw3.out.below hw4)
        have hlpw4 := Kpw3.out.lt
        have Kgw4 := hid (Kgw3.out.below hw4)
        have hlgw4 := Kgw3.out.lt
        have Kmw4 := hid hkw4
        have hfw4 : w.heap.size ≤ w3.heap.size := HBw3.out.size
        clear hbw4 hkw4 hw4
        have gi2 := sigC_index Kgw4.out
        have s1 : w4.cell? ⟨w.heap.size, 1, none⟩ = some (.int .i64 n) := by rw [Kpw4.out.cell]; rfl)
  refine (CP.out _).mono ?_
  rintro e w5 ⟨rfl, bw5⟩
  have HBw5 := hid (Below.on HBw4.out bw5)
  have hsw5 := HBw5.out.size
  have Kpw5 := hid (Kpw4.out.below bw5)
  have Kgw5 := hid (Kgw4.out.below bw5)
  have Kmw5 := hid (Kmw4.out.below bw5)
  clear bw5
  have gi3 := sigC_index Kgw5.out
  go_wp2_with fail
  have hm7 : w.heap.size + 1 < w3.heap.size := by have := HBw4.out.size; omega
  have Hmb := hid Kmw5.out
  have Hbe := hid HBw5.out
  have Hpb := hid Kpw5.out
  have Hgb := hid Kgw5.out
  generalize w3.heap.size = bm at *
  go_loopw [9, 10] (fun av iv wr => ∃ k : Nat, k ≤ pn ∧ iv = .int .i64 k ∧ av = .int .i64 (atK p i k) ∧ Blk wr (w.heap.size) (pubC L n root pub).toArray 27 ∧ Blk wr (w.heap.size + 1) (sigC i r (.slice a pn c)).toArray 32 ∧ Blk wr bm ((verK pub n p i ps M k).map (Value.int .u8)).toArray 25 ∧ Below w.heap.size w wr) (fun _ iv _ => pn - (intOf iv).toNat)
  case atStart => exact ⟨0, Nat.zero_le _, rfl, rfl, Hpb.out, Hgb.out, Hmb.out, Hbe.out⟩
  case round =>
    obtain ⟨k, hk, rfl, rfl, kp, kg, km, bel⟩ := hrel
    have Kpwr := hid kp
    have Kgwr := hid kg
    have Kmwr := hid km
    have HBwr := hid bel
    have hswr := bel.size
    have hbmlt := km.lt
    have s0 : wr.cell? ⟨w.heap.size, 0, none⟩ = some (.int .i64 L) := by rw [kp.cell]; rfl
    clear kp kg km bel
    have HX := hid (Dg.ver (pub := pub) (V := n) (p := p) (i := i) HM.out hdg k (by omega))
    by_cases hlt : k < pn
    · have hc0 : (k : Int) < L := by omega
      obtain ⟨x, o, oa, oc, aa, ac, rfl, hpc⟩ := hP.part hlt
      have hkl : k < ps.length := by omega
      obtain ⟨hq1, hq2⟩ := hall k hkl
      have hq2 : (ps.getD k ([], [])).2.length = n := by omega
      have HPC := hid hpc
      clear hpc
      have Hnx := hid (show verK pub n p i ps M (k + 1) = rootZ pub n (k : Int) (atK p i (k + 1)) (atK p i k % p) (ps.getD k ([], [])).1 (ps.getD k ([], [])).2 (verK pub n p i ps M k) from rfl)
      have Hat := hid (show atK p i (k + 1) = atK p i k / p from rfl)
      have ha0 : 0 ≤ atK p i k ∧ atK p i k < 65536 := ⟨atK_nonneg hp0 h0 _, by have := atK_le hp0 h0 k; omega⟩
      have ha1 : 0 ≤ atK p i (k + 1) ∧ atK p i (k + 1) < 65536 := ⟨atK_nonneg hp0 h0 _, by have := atK_le hp0 h0 (k + 1); omega⟩
      have hl0 : 0 ≤ atK p i k % p ∧ atK p i k % p < 16 := ⟨Int.emod_nonneg _ (by omega), Int.lt_of_lt_of_le (Int.emod_lt_of_pos _ hp0) hp16⟩
      have HX2 := hid (Dg.ver (pub := pub) (V := n) (p := p) (i := i) HM.out hdg (k + 1) (by omega))
      have Hrz := hid (Hlf.out (atK p i k))
      have g33 := sigC_parts hr Kgwr.out
      obtain ⟨q, hq⟩ : ∃ q, ps.getD k ([], []) = q := ⟨_, rfl⟩
      rw [hq] at HPC hq1 hq2 Hnx
      clear hq
      have HO := hid HPC.out.ots
      have HAu := hid HPC.out.auth
      have Hrg := hid (HPC.out.below HBwr.out).range
      rw [hq1] at HO Hrg
      rw [hq2] at HAu Hrg
      have HLF := hid (compZ_dg pub (ltrZ (k : Int) (atK p i (k + 1)) (atK p i k % p)) 67 0 _ (rowW_each (Dg.fromP HO.out.each (verK pub n p i ps M k) pub (otsZ (k : Int) (atK p i (k + 1)) (atK p i k % p)))) (by rw [rowW_length]; omega) (by rw [rowW_length]; omega))
      rw [show rootZ pub n (k : Int) (atK p i (k + 1)) (atK p i k % p) q.1 q.2 (verK pub n p i ps M k) = climbZ pub (treeZ (k : Int) (atK p i (k + 1))) (atK p i k % p) q.2 (compZ pub (ltrZ (k : Int) (atK p i (k + 1)) (atK p i k % p)) 67 0 (rowW (fromP q.1 (verK pub n p i ps M k) pub (otsZ (k : Int) (atK p i (k + 1)) (atK p i k % p))))) n by unfold rootZ; rfl] at Hnx
      generalize hdl : verK pub n p i ps M (k + 1) = dl at *
      generalize hdk : verK pub n p i ps M k = dk at *
      generalize ha0' : atK p i k = a0 at *
      generalize ha1' : atK p i (k + 1) = a1 at *
      have hz0 : ¬ p = 0 := by omega
      have hl1' : Int.tmod a0 p = a0 % p := Int.tmod_eq_emod_of_nonneg ha0.1
      have hq1' : Int.tdiv a0 p = a1 := by rw [Int.tdiv_eq_ediv_of_nonneg ha0.1, ← Hat.out]
      have hq2' : a0 / p = a1 := Hat.out.symm
      have hw1 : wrap64 a1 = a1 := by unfold wrap64; omega
      have HAo := hid (Aw.ots (la := (k : Int)) (tr := a1) (i := a0 % p) (by omega) (by omega) (by omega))
      have HAl := hid (Aw.ltr (la := (k : Int)) (tr := a1) (i := a0 % p) (by omega) (by omega) (by omega))
      have Kpw31 := hid (Kpwr.out.old (.cells #[.slice oa 67 oc, .slice aa n ac] 58 (0, 0)))
      have hlpw31 := Kpwr.out.lt
      have Kgw31 := hid (Kgwr.out.old (.cells #[.slice oa 67 oc, .slice aa n ac] 58 (0, 0)))
      have hlgw31 := Kgwr.out.lt
      have Kmw31 := hid (Kmwr.out.old (.cells #[.slice oa 67 oc, .slice aa n ac] 58 (0, 0)))
      have hlmw31 := Kmwr.out.lt
      have Kxw31 := hid (Blk.new (w := wr) rfl #[.slice oa 67 oc, .slice aa n ac] 58)
      have HBw31 := hid (HBwr.out.alloc HBwr.out.size (.cells #[.slice oa 67 oc, .slice aa n ac] 58 (0, 0)))
      have hsw31 := HBw31.out.size
      have hfw31 : w.heap.size ≤ wr.heap.size := HBwr.out.size
      go_wp2_with (first
         | (refine wpList_index_s 2 (by first | rfl | go_simp) 30 _ _ rfl Tryz.underlying30 size_part x (o) (pn) (c) rfl _ _ rfl k (by omega) (by omega) ?_)
         | (refine wpList_load_mid rfl 58 _ rfl x (o + k * 2) rfl _ _ Hrg.out Tryz.underlying58 rfl (by exact size_part) ?_))
      refine wp_region_flow 13 [0, 1, 2, 3, 4, 5, 6, 7, 8, 9, 10, 11] [] [(.c 12, [], [])] (by kernel_rfl) (by kernel_rfl) ?_
      apply Exists.intro
      refine ⟨fun w0 hb0 hF0 => ?_, ?_⟩
      · skip
        have x0 : ∀ w', (∃ x : Ext w0, w' = x.at_) → ∃ T, Blk w' (bm) (dk.map (Value.int .u8)).toArray T := fun w' ⟨x, hx⟩ => ⟨_, hx ▸ (Kmw31.out.below hb0).below x.same⟩
        have y0 : ∀ w', (∃ x : Ext w0, w' = x.at_) → w'.cell? ⟨wr.heap.size, 0, none⟩ = some (.slice oa 67 oc) := fun w' ⟨x, hx⟩ => by rw [hx, ((Kxw31.out.below hb0).below x.same).cell]; rfl
        have z0 : ∀ w', (∃ x : Ext w0, w' = x.at_) → w'.rangeAt (w.heap.size) 34 (pub.map (Value.int .u8)) := fun w' ⟨x, hx⟩ => hx ▸ pubC_pub hroot ((Kpw31.out.below hb0).below x.same)
        have c0 := fun e : Ext w0 => refbase_ots k a1 (a0 % p) e.at_ (by omega) (by omega)
        simp only [pick, List.getElem?_toArray, List.getElem?_cons_succ, List.getElem?_cons_zero, Option.toList_some, List.cons_append, List.nil_append]
        repeat (first | (go_big_quiet_want; refine quiet_load_blk 25 _ rfl (bm) rfl _ x0 _ Tryz.underlying25 rfl 32 size_digest HX.out.size ?_; go_big_quiet_on; simp only [Act.put, List.setIfInBounds_toArray, List.set_cons_zero, List.set_cons_succ]) | (go_big_quiet_want; refine quiet_load_one 33 _ rfl ⟨wr.heap.size, 0, none⟩ rfl _ y0 _ Tryz.underlying33 rfl ?_; go_big_quiet_on; simp only [Act.put, List.setIfInBounds_toArray, List.set_cons_zero, List.set_cons_succ]) | (go_big_quiet_want; refine quiet_load_mid 25 _ rfl (w.heap.size) 34 rfl _ z0 _ Tryz.underlying25 rfl (by rw [List.length_map, hpub.len]; exact size_digest) ?_; go_big_quiet_on; simp only [Act.put, List.setIfInBounds_toArray, List.set_cons_zero, List.set_cons_succ]) | go_big_quiet_step (first | (go_at_call 25; with_reducible exact Calls.ext (c0 _))))
        exact wpQuiet_nil rfl
      refine AlChk.nil ?_
      refine Walk.call rfl 24 #[.slice oa 67 oc, .agg (dk.map (Value.int .u8)).toArray, .agg (pub.map (Value.int .u8)).toArray, .agg ((otsZ k a1 (a0 % p)).map (Value.int .u32)).toArray] (RowV 67 (rowW (fromP q.1 dk pub (otsZ k a1 (a0 % p))))) (fun v w' w'' h k => h.below k) rfl (fun w1 hb1 hF1 => ⟨by go_simp, ?_⟩) ?_
      · skip
        exact reffrom_any q.1 oa oc dk pub (otsZ k a1 (a0 % p)) w1 ((HO.out.below HBw31.out).below hb1) HX.out hpub HAo.out
      rintro v0 w1 hb1 hF1 ⟨pa, pc, rfl, _⟩
      apply Exists.intro
      refine ⟨fun w0 hb0 hF0 => ?_, ?_⟩
      · skip
        exact wpQuiet_nil rfl
      refine AlChk.nil ?_
      refine Walk.fin fun w32 hw32 hFw32 _ => ?_
      simp only [List.drop_succ_cons, List.drop_zero]
      have HFw32 := hid hFw32
      have HBw32 := hid (Below.on HBw31.out hw32)
      have hsw32 := HBw32.out.size
      have Kpw32 := hid (Kpw31.out.below hw32)
      have Kgw32 := hid (Kgw31.out.below hw32)
      have Kmw32 := hid (Kmw31.out.below hw32)
      have Kxw32 := hid (Kxw31.out.below hw32)
      clear hw32 hFw32
      have Hp := hid ((show RowV 67 (rowW (fromP q.1 dk pub (otsZ k a1 (a0 % p)))) (.slice pa 67 pc) w32 from HFw32.out.2).digs.2)
      clear HFw32
      have CC := hid (fun (W : World) (h : DigsAt W pa 67 pc (rowW (fromP q.1 dk pub (otsZ k a1 (a0 % p))))) => refcompress_any pa 67 pc (rowW (fromP q.1 dk pub (otsZ k a1 (a0 % p)))) pub (ltrZ k a1 (a0 % p)) W h (by omega) hpub HAl.out)
      generalize hlf : compZ pub (ltrZ k a1 (a0 % p)) 67 0 (rowW (fromP q.1 dk pub (otsZ k a1 (a0 % p)))) = lf at *
      go_wp2_with fail
      refine wp_region_flow 12 [0, 1, 2, 3, 4, 5, 6, 7, 8, 9, 10] [11] [(.b 11, [], [])] (by kernel_rfl) (by kernel_rfl) ?_
      apply Exists.intro
      refine ⟨fun w0 hb0 hF0 => ?_, ?_⟩
      · skip
        have z0 : ∀ w', (∃ x : Ext w0, w' = x.at_) → w'.rangeAt (w.heap.size) 34 (pub.map (Value.int .u8)) := fun w' ⟨x, hx⟩ => hx ▸ pubC_pub hroot ((Kpw32.out.below hb0).below x.same)
        have c0 := fun e : Ext w0 => refbase_ltr k a1 (a0 % p) e.at_ (by omega) (by omega)
        have c1 := fun e : Ext w0 => CC.out e.at_ ((Hp.out.below hb0).below e.same)
        simp only [pick, List.getElem?_toArray, List.getElem?_cons_succ, List.getElem?_cons_zero, Option.toList_some, List.cons_append, List.nil_append]
        repeat (first | (go_big_quiet_want; refine quiet_load_mid 25 _ rfl (w.heap.size) 34 rfl _ z0 _ Tryz.underlying25 rfl (by rw [List.length_map, hpub.len]; exact size_digest) ?_; go_big_quiet_on; simp only [Act.put, List.setIfInBounds_toArray, List.set_cons_zero, List.set_cons_succ]) | go_big_quiet_step (first | (go_at_call 25; with_reducible exact Calls.ext (c0 _)) | (go_at_call 26; with_reducible exact Calls.ext (c1 _))))
        exact wpQuiet_nil rfl
      refine AlChk.one rfl (fun b => .pointer (some ⟨b, 0, none⟩)) (.cells (byteCells 32 []) 25 (0, 0)) rfl (fun w3 hb3 hF3 => by go_simp; rfl) ?_
      refine AlChk.nil ?_
      refine Walk.blk rfl (fun b => .pointer (some ⟨b, 0, none⟩)) (.cells (byteCells 32 []) 25 (0, 0)) (by simp) ?_
      intro bw33 wz hbz_ hFz hgew33 _
      apply Exists.intro
      refine ⟨fun w4 hb4 hF4 => wpQuiet_nil rfl, ?_⟩
      refine AlChk.nil ?_
      refine Walk.fin fun w33 hw33 hFw33 _ => ?_
      simp only [List.drop_succ_cons, List.drop_zero]
      have kbw33 : Blk w33 bw33 (byteCells 32 []) 25 := hFw33.2
      have Kzw33 := hid kbw33
      have hgww33 : w.heap.size ≤ bw33 := Nat.le_trans HBw32.out.size hgew33
      clear hbz_ hFz hFw33 kbw33
      have hnpw33 : w.heap.size ≠ bw33 := by have := Kpw32.out.lt; omega
      have hngw33 : w.heap.size + 1 ≠ bw33 := by have := Kgw32.out.lt; omega
      have hnmw33 : bm ≠ bw33 := by have := Kmw32.out.lt; omega
      have hnxw33 : wr.heap.size ≠ bw33 := by have := Kxw32.out.lt; omega
      have HBw33 := hid (Below.on HBw32.out hw33)
      have hsw33 := HBw33.out.size
      have Kpw33 := hid (Kpw32.out.below hw33)
      have Kgw33 := hid (Kgw32.out.below hw33)
      have Kmw33 := hid (Kmw32.out.below hw33)
      have Kxw33 := hid (Kxw32.out.below hw33)
      clear hw33
      go_wp2_with (first
         | (
            refine wpList_store_blk rfl 25 _ _ rfl bw33 (lf.map (Value.int .u8)).toArray rfl rfl _ 25 Kzw33.out 32 size_digest zsize HLF.out.size (ints_one _ _) ?_
            intro w34 hbw34 hkw34
            have HBw34 := hid (hbw34.below HBw33.out HBw33.out.size hgww33)
            have hsw34 := HBw34.out.size
            have Kyw34 := hid hkw34
            have Kpw34 := hid (hbw34.blk Kpw33.out hnpw33)
            have Kgw34 := hid (hbw34.blk Kgw33.out hngw33)
            have Kmw34 := hid (hbw34.blk Kmw33.out hnmw33)
            have Kxw34 := hid (hbw34.blk Kxw33.out hnxw33)
            clear hbw34 hkw34
            have d1 : w34.cell? ⟨wr.heap.size, 1, none⟩ = some (.slice aa n ac) := by rw [Kxw34.out.cell]; rfl)
         | (refine wpList_load_blk rfl 25 _ rfl (bw33) rfl _ 25 Kyw34.out _ Tryz.underlying25 rfl 32 size_digest HLF.out.size ?_)
         | (refine wpList_load_mid rfl 25 _ rfl (w.heap.size) 34 rfl _ _ (pubC_pub hroot Kpw34.out) Tryz.underlying25 rfl (by rw [List.length_map, hpub.len]; exact size_digest) ?_))
      refine (refclimb_any lf pub aa n ac q.2 (a0 % p) k a1 _ HLF.out hpub (HAu.out.below HBw34.out) (by omega) (by omega) Hrz.out).mono ?_
      rintro e w35 ⟨rfl, bw35⟩
      have HBw35 := hid (Below.on HBw34.out bw35)
      have hsw35 := HBw35.out.size
      have Kpw35 := hid (Kpw34.out.below bw35)
      have Kgw35 := hid (Kgw34.out.below bw35)
      have Kmw35 := hid (Kmw34.out.below bw35)
      have Kxw35 := hid (Kxw34.out.below bw35)
      have Kyw35 := hid (Kyw34.out.below bw35)
      clear bw35
      rw [← Hnx.out]
      go_wp2_with (
            refine wpList_store_blk rfl 25 _ _ rfl (bm) (dl.map (Value.int .u8)).toArray rfl rfl _ 25 Kmw35.out 32 size_digest HX.out.size HX2.out.size (ints_one _ _) ?_
            intro w36 hbw36 hkw36
            have HBw36 := hid (hbw36.below HBw35.out HBw35.out.size (by omega))
            have hsw36 := HBw36.out.size
            have Kpw36 := hid (hbw36.blk Kpw35.out (by have := Kpw35.out.lt; omega))
            have Kgw36 := hid (hbw36.blk Kgw35.out (by have := Kgw35.out.lt; omega))
            have Kxw36 := hid (hbw36.blk Kxw35.out (by have := Kxw35.out.lt; omega))
            have Kyw36 := hid (hbw36.blk Kyw35.out (by have := Kyw35.out.lt; omega))
            have Kmw36 := hid hkw36
            clear hbw36 hkw36)
      exact ⟨⟨k + 1, by omega, by first | rfl | simp, by rw [ha1'], Kpw36.out, Kgw36.out, by rw [hdl]; exact Kmw36.out, HBw36.out⟩, by simp [intOf]; omega⟩
    · obtain rfl : k = pn := by omega
      have hc0 : ¬ ((k : Int) < L) := by omega
      have hl := hP.length
      obtain ⟨X, hX⟩ : ∃ X, verK pub n p i ps M k = X := ⟨_, rfl⟩
      rw [hX] at HX Kmwr
      have q1 := fun W => eqD X root HX.out.len hroot.len W
      go_wp2_with (first
         | (refine wpList_load_blk rfl 25 _ rfl (bm) rfl _ 25 Kmwr.out _ Tryz.underlying25 rfl 32 size_digest HX.out.size ?_)
         | (refine wpList_load_mid rfl 25 _ rfl (w.heap.size) 2 rfl _ _ (pubC_root Kpwr.out) Tryz.underlying25 rfl (by rw [List.length_map, hroot.len]; exact size_digest) ?_))
      go_returns
      exact ⟨by first | (rw [hX]; rfl) | (rw [hl, hX]; rfl) | rfl, HBwr.out⟩
end Go.Proofs.YtkakoiaahgchmaaGreatDoor
namespace Go.Proofs.YtkakoiaahgchmaaGreatDoor
set_option maxRecDepth 100000
open Go.ChangeShapes Go.WideShapes Go.ChangeAt Go.RowKit
theorem verify_b (L V i : Int) (root pub r : List Int) (a : Option Addr) (pn c : Nat) (ps : List Prt) (ta : Option Addr) (tn tc : Nat) (ts : List (List Int)) (w : World) (hr : Dg r) (hroot : Dg root) (hpub : Dg pub) (hP : PartsAt w a pn c ps) (hT : TextsAt w ta tn tc ts) (htn : tn ≤ 4000000000000) (hsl : sumLen ts < 1000000000000000000) (tab : ShaTab w) :
    Calls Tryz.prog 31 #[.agg (pubC L V root pub).toArray, .agg (sigC i r (.slice a pn c)).toArray, .slice ta tn tc] w fun e w' => e = .returned (.bool (verB L V i root pub r ps ts.flatten)) ∧ Below w.heap.size w w' := by
  cases hrt : rightS L V with
  | false =>
    have h : verB L V i root pub r ps ts.flatten = false := by unfold verB; rw [formB_right hrt]; rfl
    rw [h]
    exact verify_bad L V root pub _ _ w hrt (sigC_size hr)
  | true =>
    have hr2 := hrt
    simp only [rightS, decide_eq_true_eq] at hr2
    obtain ⟨n, rfl⟩ := Int.eq_ofNat_of_zero_le (show 0 ≤ V by omega)
    cases hf : formB L n i ps with
    | false =>
      have h : verB L n i root pub r ps ts.flatten = false := by unfold verB; rw [hf]; rfl
      rw [h]
      exact verify_false L n i root pub r a pn c ps _ w hrt hf hr hP
    | true =>
      have h : verB L n i root pub r ps ts.flatten = decide (verK pub n ((2 ^ n : Nat) : Int) i ps (msgZ r root i ts.flatten) ps.length = root) := by unfold verB; rw [hf, Bool.true_and, Int.toNat_natCast]
      rw [h]
      exact verify_good L i n root pub r a pn c ps ta tn tc ts w hf hr hroot hpub hP hT htn hsl tab
theorem refverify_b (L V i : Int) (root pub r : List Int) (a : Option Addr) (pn c : Nat) (ps : List Prt) (ta : Option Addr) (tn tc : Nat) (m : List Int) (w : World) (hr : Dg r) (hroot : Dg root) (hpub : Dg pub) (hP : PartsAt w a pn c ps) (hT : TextAt w ta tn tc m) (htn : tn ≤ 140737488320000) :
    Calls Tryz.prog 7 #[.agg (pubC L V root pub).toArray, .agg (sigC i r (.slice a pn c)).toArray, .slice ta tn tc] w fun e w' => e = .returned (.bool (verB L V i root pub r ps m)) ∧ Below w.heap.size w w' := by
  cases hrt : rightS L V with
  | false =>
    have h : verB L V i root pub r ps m = false := by unfold verB; rw [formB_right hrt]; rfl
    rw [h]
    exact refverify_bad L V i root pub r a pn c ps _ w hrt hr hP
  | true =>
    have hr2 := hrt
    simp only [rightS, decide_eq_true_eq] at hr2
    obtain ⟨n, rfl⟩ := Int.eq_ofNat_of_zero_le (show 0 ≤ V by omega)
    cases hf : formB L n i ps with
    | false =>
      have h : verB L n i root pub r ps m = false := by unfold verB; rw [hf]; rfl
      rw [h]
      exact refverify_false L n i root pub r a pn c ps _ w hrt hf hr hP
    | true =>
      have h : verB L n i root pub r ps m = decide (verK pub n ((2 ^ n : Nat) : Int) i ps (msgZ r root i m) ps.length = root) := by unfold verB; rw [hf, Bool.true_and, Int.toNat_natCast]
      rw [h]
      exact refverify_good L i n root pub r a pn c ps ta tn tc m w hf hr hroot hpub hP hT htn
end Go.Proofs.YtkakoiaahgchmaaGreatDoor
namespace Go.Proofs.YtkakoiaahgchmaaGreatDoor
set_option maxRecDepth 100000
open Go.ChangeShapes Go.WideShapes Go.ChangeAt Go.RowKit
/-- The greatest power of two below a number. -/
def halfN (n : Nat) : Nat := 2 ^ Nat.log2 (n - 1)
theorem halfN_two : halfN 2 = 1 := by decide
theorem halfN_step {n : Nat} (h : 2 < n) : halfN n = 2 * halfN ((n + 1) / 2) := by
  unfold halfN
  rw [show (n + 1) / 2 - 1 = (n - 1) / 2 by omega]
  have : Nat.log2 (n - 1) = Nat.log2 ((n - 1) / 2) + 1 := by
    rw [Nat.log2_def, if_pos (by omega)]
  rw [this, Nat.pow_succ, Nat.mul_comm]
theorem halfN_lt {n : Nat} (h : 2 ≤ n) : 1 ≤ halfN n ∧ halfN n < n := by
  have h1 := Nat.log2_self_le (n := n - 1) (by omega)
  have h2 := Nat.pow_pos (n := Nat.log2 (n - 1)) (show 0 < 2 by omega)
  unfold halfN
  omega
/-- What a text's leaf is. -/
@[irreducible] def leafL (m : List Int) : List Int := sumZ (0 :: m)
/-- What the node above two is. -/
@[irreducible] def nodeL (a b : List Int) : List Int := sumZ (1 :: (a ++ b))
theorem Dg.nodeL (a b : List Int) : Dg (nodeL a b) := by unfold Go.Proofs.YtkakoiaahgchmaaGreatDoor.nodeL; exact Dg.sum _
/-- A log's root: so many calls are enough. -/
def rootL : Nat → List (List Int) → List Int
  | 0, _ => zD
  | f + 1, ts => if ts.length = 0 then zD else if ts.length = 1 then leafL (ts.getD 0 []) else nodeL (rootL f (ts.take (halfN ts.length))) (rootL f (ts.drop (halfN ts.length)))
/-- where a part of a row of texts begins -/
def cutS (a : Option Addr) (l cap : Nat) : Option Addr := if cap = l then a else a.map (·.add (l * 1))
set_option maxHeartbeats 4000000 in
theorem lonode_any (a b : List Int) (w : World) (ha : Dg a) (hb_ : Dg b) (tab : ShaTab w) :
    Calls Tryz.prog 79 #[.agg (a.map (Value.int .u8)).toArray, .agg (b.map (Value.int .u8)).toArray] w fun e w' => e = .returned (.agg ((nodeL a b).map (Value.int .u8)).toArray) ∧ Below w.heap.size w w' := by
  have CS := hid (fun (W : World) (g g0 : Nat) (h : Blk W g #[.slice (some ⟨g0, 0, none⟩) 1 1, .slice (some ⟨w.heap.size, 0, none⟩) 32 32, .slice (some ⟨w.heap.size + 1, 0, none⟩) 32 32] 37) (h0 : Blk W g0 (([1] : List Int).map (Value.int .u8)).toArray 5) (ka : Blk W w.heap.size (a.map (Value.int .u8)).toArray 25) (kb : Blk W (w.heap.size + 1) (b.map (Value.int .u8)).toArray 25) (t : ShaTab W) => sum_any (some ⟨g, 0, none⟩) 3 3 [[1], a, b] W (TextsAt.of_blk h rfl (Nat.le_refl _) (by omega) fun j hj => by
    match j, hj with
    | 0, _ => exact ⟨_, _, _, rfl, TextAt.of_ints h0 rfl (by omega) (by simp)⟩
    | 1, _ => exact ⟨_, _, _, rfl, ha.text ka⟩
    | 2, _ => exact ⟨_, _, _, rfl, hb_.text kb⟩) (by simp only [sumLen, List.map_cons, List.map_nil, List.sum_cons, List.sum_nil, List.length_cons, List.length_nil, ha.len, hb_.len]; omega) t)
  have HX := hid (Dg.nodeL a b)
  rw [show ([[1], a, b] : List (List Int)).flatten = 1 :: (a ++ b) by simp, show sumZ (1 :: (a ++ b)) = nodeL a b by unfold nodeL; rfl] at CS
  generalize nodeL a b = X at *
  have b1 := (Below.refl w.heap.size w).alloc (Nat.le_refl _) (.cells (a.map (Value.int .u8)).toArray 25 (0, 0))
  have b2 := b1.alloc b1.size (.cells (b.map (Value.int .u8)).toArray 25 (0, 0))
  have b3 := b2.alloc b2.size (.cells (byteCells 32 []) 25 (0, 0))
  have Ka := hid (((Blk.new (w := w) (n := w.heap.size) rfl (a.map (Value.int .u8)).toArray 25).old (.cells (b.map (Value.int .u8)).toArray 25 (0, 0))).old (.cells (byteCells 32 []) 25 (0, 0)))
  have Kb := hid ((Blk.new (w := (w.alloc (.cells (a.map (Value.int .u8)).toArray 25 (0, 0)))) (n := w.heap.size + 1) (by simp only [World.size_alloc]) (b.map (Value.int .u8)).toArray 25).old (.cells (byteCells 32 []) 25 (0, 0)))
  have Kr := hid (Blk.new (w := ((w.alloc (.cells (a.map (Value.int .u8)).toArray 25 (0, 0))).alloc (.cells (b.map (Value.int .u8)).toArray 25 (0, 0)))) (n := w.heap.size + 1 + 1) (by simp only [World.size_alloc]) (byteCells 32 []) 25)
  have Hb := hid b3
  have hbz := b3.size
  have Hbs := hid (show w.heap.size + 1 + 1 + 1 = (((w.alloc (.cells (a.map (Value.int .u8)).toArray 25 (0, 0))).alloc (.cells (b.map (Value.int .u8)).toArray 25 (0, 0))).alloc (.cells (byteCells 32 []) 25 (0, 0))).heap.size by simp only [World.size_alloc])
  have Htab := hid tab
  clear b1 b2 b3 tab 
  go_enter Tryz.func79, Tryz.ntmps79
  go_wp2_with fail
  refine wp_region_flow 5 [1, 2] [0] [(.b 0, [], [3]), (.b 3, [4], [])] (by kernel_rfl) (by kernel_rfl) ?_
  apply Exists.intro
  refine ⟨fun w0 hb0 hF0 => ?_, ?_⟩
  · skip
    simp only [pick, List.getElem?_toArray, List.getElem?_cons_succ, List.getElem?_cons_zero, Option.toList_some, List.cons_append, List.nil_append]
    repeat (first | go_big_quiet_step (fail))
    exact wpQuiet_nil rfl
  refine AlChk.one rfl (fun b => .slice (some ⟨b, 0, none⟩) 1 1) (.cells #[.int .u8 1] 5 (0, 0)) rfl (fun w3 hb3 hF3 => by go_simp) ?_
  refine AlChk.nil ?_
  refine Walk.blk rfl (fun b => .slice (some ⟨b, 0, none⟩) 1 1) (.cells #[.int .u8 1] 5 (0, 0)) (by simp) ?_
  intro b8 w1 hb1 hF1 hge1 _
  apply Exists.intro
  refine ⟨fun w2 hb2 hF2 => wpQuiet_nil rfl, ?_⟩
  refine AlChk.one rfl (fun b => .slice (some ⟨b, 0, none⟩) 3 3) (.cells #[.slice (some ⟨b8, 0, none⟩) 1 1, .slice (some ⟨w.heap.size, 0, none⟩) 32 32, .slice (some ⟨w.heap.size + 1, 0, none⟩) 32 32] 37 (0, 0)) rfl (fun w3 hb3 hF3 => by go_simp) ?_
  refine AlChk.nil ?_
  refine Walk.blk rfl (fun b => .slice (some ⟨b, 0, none⟩) 3 3) (.cells #[.slice (some ⟨b8, 0, none⟩) 1 1, .slice (some ⟨w.heap.size, 0, none⟩) 32 32, .slice (some ⟨w.heap.size + 1, 0, none⟩) 32 32] 37 (0, 0)) (by simp) ?_
  intro b9 w2 hb2 hF2 hge2 _
  apply Exists.intro
  refine ⟨fun w0 hb0 hF0 => ?_, ?_⟩
  · have k9 : Blk w0 b9 #[.slice (some ⟨b8, 0, none⟩) 1 1, .slice (some ⟨w.heap.size, 0, none⟩) 32 32, .slice (some ⟨w.heap.size + 1, 0, none⟩) 32 32] 37 := hF0.2
    have k8 : Blk w0 b8 (([1] : List Int).map (Value.int .u8)).toArray 5 := hF0.1.2
    have hs := fun e : Ext w0 => CS.out e.at_ b9 b8 (k9.below e.same) (k8.below e.same) ((Ka.out.below hb0).below e.same) ((Kb.out.below hb0).below e.same) ((Htab.out.below (Below.on Hb.out hb0)).below e.same)
    simp only [pick, List.getElem?_toArray, List.getElem?_cons_succ, List.getElem?_cons_zero, Option.toList_some, List.cons_append, List.nil_append, Act.put, List.setIfInBounds_toArray, List.set_cons_zero, List.set_cons_succ]
    repeat (go_big_quiet_step (first | (go_at_call 86; exact Calls.ext (hs _))))
    exact wpQuiet_nil rfl
  refine AlChk.nil ?_
  refine Walk.fin fun w4 h4 _ _ => ?_
  simp only [List.drop_succ_cons, List.drop_zero]
  have HBw4 := hid (Below.on Hb.out h4)
  have hsw4 := HBw4.out.size
  have Kaw4 := hid (Ka.out.below h4)
  have Kbw4 := hid (Kb.out.below h4)
  have Krw4 := hid (Kr.out.below h4)
  clear h4
  go_wp2_with (
      refine wpList_store_blk rfl 25 _ _ rfl (w.heap.size + 1 + 1) (X.map (Value.int .u8)).toArray rfl rfl _ 25 Krw4.out 32 size_digest zsize HX.out.size (ints_one _ _) ?_
      intro w9 hb9 hk9
      have HB9 := hid (hb9.below HBw4.out HBw4.out.size (by omega))
      have HK9 := hid hk9
      clear hb9 hk9)
  exact bodyPost_ret (v := .agg (X.map (Value.int .u8)).toArray) (results_blk Tryz.results79 _ (w.heap.size + 1 + 1) rfl _ 25 HK9.out _ Tryz.underlying25 rfl 32 size_digest HX.out.size) rfl ⟨rfl, HB9.out⟩
set_option maxHeartbeats 4000000 in
theorem refnode_any (a b : List Int) (w : World) (ha : Dg a) (hb_ : Dg b) :
    Calls Tryz.prog 68 #[.agg (a.map (Value.int .u8)).toArray, .agg (b.map (Value.int .u8)).toArray] w fun e w' => e = .returned (.agg ((nodeL a b).map (Value.int .u8)).toArray) ∧ Below w.heap.size w w' := by
  have CS := hid (fun (x : Option Addr) (c : Nat) (W : World) (h : TextAt W x 65 c (1 :: (a ++ b))) => refsum_any x 65 c (1 :: (a ++ b)) W h (by omega))
  have HX := hid (Dg.nodeL a b)
  rw [show sumZ (1 :: (a ++ b)) = nodeL a b by unfold nodeL; rfl] at CS
  generalize nodeL a b = X at *
  have b1 := (Below.refl w.heap.size w).alloc (Nat.le_refl _) (.cells (a.map (Value.int .u8)).toArray 25 (0, 0))
  have b2 := b1.alloc b1.size (.cells (b.map (Value.int .u8)).toArray 25 (0, 0))
  have b3 := b2.alloc b2.size (.cells (byteCells 32 []) 25 (0, 0))
  have Ka := hid (((Blk.new (w := w) (n := w.heap.size) rfl (a.map (Value.int .u8)).toArray 25).old (.cells (b.map (Value.int .u8)).toArray 25 (0, 0))).old (.cells (byteCells 32 []) 25 (0, 0)))
  have Kb := hid ((Blk.new (w := (w.alloc (.cells (a.map (Value.int .u8)).toArray 25 (0, 0)))) (n := w.heap.size + 1) (by simp only [World.size_alloc]) (b.map (Value.int .u8)).toArray 25).old (.cells (byteCells 32 []) 25 (0, 0)))
  have Kr := hid (Blk.new (w := ((w.alloc (.cells (a.map (Value.int .u8)).toArray 25 (0, 0))).alloc (.cells (b.map (Value.int .u8)).toArray 25 (0, 0)))) (n := w.heap.size + 1 + 1) (by simp only [World.size_alloc]) (byteCells 32 []) 25)
  have Hb := hid b3
  have hbz := b3.size
  have Hbs := hid (show w.heap.size + 1 + 1 + 1 = (((w.alloc (.cells (a.map (Value.int .u8)).toArray 25 (0, 0))).alloc (.cells (b.map (Value.int .u8)).toArray 25 (0, 0))).alloc (.cells (byteCells 32 []) 25 (0, 0))).heap.size by simp only [World.size_alloc])
  clear b1 b2 b3 
  go_enter Tryz.func68, Tryz.ntmps68
  go_wp2_with fail
  have HBB : Hid (w.heap.size + 1 + 1 + 1 ≤ (((w.alloc (.cells (a.map (Value.int .u8)).toArray 25 (0, 0))).alloc (.cells (b.map (Value.int .u8)).toArray 25 (0, 0))).alloc (.cells (byteCells 32 []) 25 (0, 0))).heap.size) := hid (Nat.le_of_eq Hbs.out)
  obtain ⟨i0, hi, hz0, hz1, hz2⟩ := info_parts info_byte
  refine FlowB.wp_region_typed (w.heap.size + 1 + 1 + 1) 5 4 [1, 3] [] [(.c 0, [], []), (.c 2, [], [])] (by kernel_rfl) (by kernel_rfl) ?_
  apply Exists.intro
  refine ⟨fun w0 hb0 hF0 => ?_, ?_⟩
  · simp only [pick, List.getElem?_toArray, List.getElem?_cons_succ, List.getElem?_cons_zero, Option.toList_some, List.cons_append, List.nil_append]
    repeat (go_big_quiet_step (fail))
    exact wpQuiet_nil rfl
  refine FlowB.AlChk.nil ?_
  refine FlowB.Walk.does rfl (fun _ _ => True) (fun v w' => OwnB w' (w.heap.size + 1 + 1 + 1) 5 v [1]) (fun v w' w'' _ h _ => h) (fun v w' w'' h k => h.below k) rfl (fun w5 hb5 hF5 _ => ?_) ?_
  · exact ⟨.slice (some ⟨w5.heap.size, 0, none⟩) 1 1, w5.alloc (.cells (([1] : List Int).map (Value.int .u8)).toArray 5), by first | (go_simp; done) | (go_simp; rfl), (FlowB.rel_typed _ _).of ((Below.refl _ _).alloc (Nat.le_refl _) _), trivial, OwnB.of_blk (Blk.new rfl _ _) (Nat.le_trans HBB.out hb5.size) rfl (by omega) (by simp)⟩
  rintro vl w5 hb5 hF5 _
  apply Exists.intro
  refine ⟨fun w4 hb4 hF4 => wpQuiet_nil rfl, ?_⟩
  refine FlowB.AlChk.nil ?_
  refine FlowB.Walk.does rfl (fun _ _ => True) (fun v w' => OwnB w' (w.heap.size + 1 + 1 + 1) 5 v ([1] ++ a)) (fun v w' w'' _ h _ => h) (fun v w' w'' h k => h.below k) rfl (fun w2 hb2 hF2 hG2 => ?_) ?_
  · have hbB := hb2.below (B := w.heap.size + 1 + 1 + 1) HBB.out
    obtain ⟨v', w', hr, q2, q3, q4⟩ := run_append_text (P := Tryz.prog) 37 Tryz.underlying37 hi hz0 hz1 hz2 hG2 (ha.text (Ka.out.belowB (by omega) hbB)) (by simp) (Nat.le_trans HBB.out hb2.size)
    exact ⟨v', w', FlowB.exec_append rfl rfl rfl hr, hG2.typed (Nat.le_refl _) q3, trivial, q2⟩
  rintro v3 w3 hb3 hF3 _
  apply Exists.intro
  refine ⟨fun w2 hb2 hF2 => wpQuiet_nil rfl, ?_⟩
  refine FlowB.AlChk.nil ?_
  refine FlowB.Walk.fin fun w4 h4 _ hG4 => ?_
  simp only [List.drop_succ_cons, List.drop_zero]
  have hbB := h4.below (B := w.heap.size + 1 + 1 + 1) HBB.out
  have Kr4 := hid (Kr.out.belowB (by omega) hbB)
  have Kb4 := hid (Kb.out.belowB (by omega) hbB)
  have Hb4 := hid (Hb.out.trans (hbB.mono (by omega)))
  have Ho4 := hid (show OwnB w4 (w.heap.size + 1 + 1 + 1) 5 v3 ([1] ++ a) from hG4)
  have hsz4 : w.heap.size + 1 + 1 + 1 ≤ w4.heap.size := Nat.le_trans HBB.out h4.size
  clear h4 hG4 hbB Kr Ka Hb
  go_wp2_with (at_builtin; refine wpList_append_text rfl _ _ rfl Tryz.underlying37 hi hz0 hz1 hz2 rfl Ho4.out rfl (hb_.text Kb4.out) (by rw [List.length_append, ha.len]; simp) hsz4 ?_)
  intro v5 w5 own5 _ b5
  obtain ⟨a5, c5, rfl, hT5, _⟩ := own5.text
  rw [show (1 :: (a ++ b)).length = 65 by rw [List.length_cons, List.length_append, ha.len, hb_.len]] at hT5 ⊢
  have HT5 := hid hT5
  have HBw5 := hid (Hb4.out.trans (b5.mono (by omega)))
  have Krw5 := hid (Kr4.out.belowB (by omega) b5)
  clear own5 hT5 b5
  go_wp2_with fail
  refine (CS.out a5 c5 w5 HT5.out).mono ?_
  rintro e w6 ⟨rfl, b6⟩
  have HBw6 := hid (Below.on HBw5.out b6)
  have Krw6 := hid (Krw5.out.below b6)
  clear b6 HT5
  go_wp2_with (
      refine wpList_store_blk rfl 25 _ _ rfl (w.heap.size + 1 + 1) (X.map (Value.int .u8)).toArray rfl rfl _ 25 Krw6.out 32 size_digest zsize HX.out.size (ints_one _ _) ?_
      intro w9 hb9 hk9
      have HB9 := hid (hb9.below HBw6.out HBw6.out.size (by omega))
      have HK9 := hid hk9
      clear hb9 hk9)
  exact bodyPost_ret (v := .agg (X.map (Value.int .u8)).toArray) (results_blk Tryz.results68 _ (w.heap.size + 1 + 1) rfl _ 25 HK9.out _ Tryz.underlying25 rfl 32 size_digest HX.out.size) rfl ⟨rfl, HB9.out⟩
end Go.Proofs.YtkakoiaahgchmaaGreatDoor
namespace Go.Proofs.YtkakoiaahgchmaaGreatDoor
set_option maxRecDepth 100000
open Go.ChangeShapes Go.WideShapes Go.ChangeAt Go.RowKit
section
variable {P : Program} {ops : Array Oper} {rest : List Oper} {op : Oper} {a : Act} {w : World} {Q : Exit → Act → World → Prop} {t e : TypeId}
end
/-- The way of a place. -/
def pathL : Nat → List (List Int) → Nat → List (List Int)
  | 0, _, _ => []
  | f + 1, ts, i => if ts.length = 1 then [] else if i < halfN ts.length then pathL f (ts.take (halfN ts.length)) i ++ [rootL f (ts.drop (halfN ts.length))] else pathL f (ts.drop (halfN ts.length)) (i - halfN ts.length) ++ [rootL f (ts.take (halfN ts.length))]
/-- The way from a beginning. -/
def growL : Nat → List (List Int) → Nat → Bool → List (List Int)
  | 0, _, _, _ => []
  | f + 1, ts, m, cut => if m = ts.length then (if cut then [rootL (f + 1) ts] else []) else if m ≤ halfN ts.length then growL f (ts.take (halfN ts.length)) m cut ++ [rootL f (ts.drop (halfN ts.length))] else growL f (ts.drop (halfN ts.length)) (m - halfN ts.length) true ++ [rootL f (ts.take (halfN ts.length))]
set_option maxHeartbeats 4000000 in
theorem refhalf_any (k : Nat) : ∀ (n : Nat) (w : World), n ≤ k → 2 ≤ n → n ≤ 1000000 → Calls Tryz.prog 67 #[.int .i64 n] w fun e w' => e = .returned (.int .i64 (halfN n : Int)) ∧ w' = w := by
  induction k with
  | zero => intro n w h1 h2 _; omega
  | succ k ih =>
    intro n w h1 h2 h3
    rcases Nat.eq_or_lt_of_le h2 with rfl | hlt
    · go_enter Tryz.func67, Tryz.ntmps67
      go_wp2_with fail
      go_ret
      exact ⟨by rw [halfN_two]; rfl, rfl⟩
    · have hne : ¬ ((n : Int) = 2) := by omega
      have hh := halfN_lt (n := (n + 1) / 2) (by omega)
      have hw1 : wrap64 ((n : Int) + 1) = (n : Int) + 1 := by unfold wrap64; omega
      have hd : Int.tdiv ((n : Int) + 1) 2 = (((n + 1) / 2 : Nat) : Int) := by rw [Int.tdiv_eq_ediv_of_nonneg (by omega)]; omega
      have hd2 : ((n : Int) + 1) / 2 = (((n + 1) / 2 : Nat) : Int) := by omega
      have hw2 : wrap64 (((n + 1) / 2 : Nat) : Int) = (((n + 1) / 2 : Nat) : Int) := by unfold wrap64; omega
      have hs := halfN_step hlt
      have hw3 : wrap64 (2 * (halfN ((n + 1) / 2) : Int)) = (halfN n : Int) := by unfold wrap64; omega
      have ih2 := ih ((n + 1) / 2)
      generalize (n + 1) / 2 = q at *
      go_enter Tryz.func67, Tryz.ntmps67
      go_wp2_with (go_at_call 67; refine (ih2 _ (by omega) (by omega) (by omega)).mono ?_; rintro e w' ⟨rfl, rfl⟩)
      go_ret
      exact ⟨by rw [show ((halfN n : Nat) : Int) = 2 * (halfN q : Int) by omega]; rfl, rfl⟩
section
variable {P : Program} {ops : Array Oper} {rest : List Oper} {op : Oper} {a : Act} {w : World} {Q : Exit → Act → World → Prop}
theorem wpList_index_len8 (hgd : op.guard = none) (t : TypeId) (s : ByteArray) (x : Operand) (ho : op.op = .index t (.const (.string s)) x) (hs : s = Lib.len8tab) (ht : P.underlying t = some .string) (k : IntKind) (i : Int) (hx : a.eval x = .int k i) (h0 : 0 ≤ i) (h1 : i ≤ 255)
    (h : wpList P ops Q rest (a.put op.dst (.int .u8 (Lib.len8 i))) w) : wpList P ops Q (op :: rest) a w :=
  wpList_plain hgd fun K hK => by
    subst hs
    unfold Oper.wp execOp
    have hc : a.eval (.const (.string Lib.len8tab)) = .string Lib.len8tab := rfl
    simp only [ho, hx, hc, Sem.run_bind, Sem.run_pure, Result.andThen_ok, Lib.run_index_len8tab w t k i ht h0 h1, Oper.upon_value]
    exact hK _ _ h
end
theorem len8_log (x : Nat) (hx : x < 256) : Lib.len8 (x : Int) = (if x = 0 then 0 else (Nat.log2 x : Int) + 1) :=
  (by decide +kernel : ∀ i : Fin 256, Lib.len8 ((i.val : Nat) : Int) = (if i.val = 0 then 0 else (Nat.log2 i.val : Int) + 1)) ⟨x, hx⟩
set_option maxHeartbeats 4000000 in
theorem len64_any (x : Int) (w : World) (h0 : 0 ≤ x) (h1 : x ≤ 255) : Calls Tryz.prog 134 #[.int .u64 x] w fun e w' => e = .returned (.int .i64 (Lib.len8 x)) ∧ w' = w := by
  have h2 : ¬ (4294967296 ≤ x) := by omega
  have h3 : ¬ (65536 ≤ x) := by omega
  have h4 : ¬ (256 ≤ x) := by omega
  have h5 : x % 256 = x := by omega
  have h6 : wrap64 (Lib.len8 x) = Lib.len8 x := by
    obtain ⟨n, rfl⟩ := Int.eq_ofNat_of_zero_le h0
    have hn : n < 256 := by omega
    have hl : Nat.log2 n ≤ 7 := (by decide +kernel : ∀ i : Fin 256, Nat.log2 i.val ≤ 7) ⟨n, hn⟩
    rw [len8_log n hn]
    unfold wrap64
    split <;> omega
  go_enter Tryz.func134, Tryz.ntmps134
  go_wp2_with (refine wpList_index_len8 rfl _ _ _ rfl (by kernel_rfl) Tryz.underlying9 .u8 x rfl (by omega) (by omega) ?_)
  go_ret
  exact ⟨by first | rfl | (rw [h6]; rfl) | (rw [h6, h6]; rfl), rfl⟩
set_option maxHeartbeats 4000000 in
theorem len_any (x : Int) (w : World) (h0 : 0 ≤ x) (h1 : x ≤ 255) : Calls Tryz.prog 109 #[.int .u64 x] w fun e w' => e = .returned (.int .i64 (Lib.len8 x)) ∧ w' = w := by
  go_enter Tryz.func109, Tryz.ntmps109
  go_wp2_with (go_at_call 134; refine (len64_any x _ h0 h1).mono ?_; rintro e w' ⟨rfl, rfl⟩)
  go_ret
  exact ⟨rfl, rfl⟩
theorem log2_half {n : Nat} (h : 2 ≤ n) (h2 : n ≤ 256) : ∃ k : Nat, k ≤ 7 ∧ Lib.len8 ((n : Int) - 1) = (k : Int) + 1 ∧ halfN n = 2 ^ k := by
  refine ⟨Nat.log2 (n - 1), (by decide +kernel : ∀ i : Fin 256, Nat.log2 i.val ≤ 7) ⟨n - 1, by omega⟩, ?_, rfl⟩
  have := len8_log (n - 1) (by omega)
  rw [if_neg (by omega)] at this
  rw [← this]
  congr 1
  omega
theorem wrap_pow7 {n : Nat} (h : n ≤ 7) : wrap64 ((2 : Int) ^ n) = ((2 ^ n : Nat) : Int) := (by decide +kernel : ∀ i : Fin 8, wrap64 ((2 : Int) ^ i.val) = ((2 ^ i.val : Nat) : Int)) ⟨n, by omega⟩
set_option maxHeartbeats 4000000 in
theorem lohalf_any (n : Nat) (w : World) (h : 2 ≤ n) (h2 : n ≤ 256) : Calls Tryz.prog 78 #[.int .i64 n] w fun e w' => e = .returned (.int .i64 (halfN n : Int)) ∧ w' = w := by
  obtain ⟨k, hk, hl, hn⟩ := log2_half h h2
  rw [hn]
  have CL := hid (fun W : World => len_any ((n : Int) - 1) W (by omega) (by omega))
  rw [hl] at CL
  have hw := wrap_pow7 hk
  have hw1 : wrap64 ((n : Int) - 1) = (n : Int) - 1 := by unfold wrap64; omega
  have hw2 : wrap64 ((k : Int) + 1 - 1) = (k : Int) := by unfold wrap64; omega
  have hk1 : (k : Int) + 1 - 1 = k := by omega
  have hw3 : wrap64 (k : Int) = (k : Int) := by unfold wrap64; omega
  have hc : ((n : Int) - 1) % 18446744073709551616 = (n : Int) - 1 := by omega
  go_enter Tryz.func78, Tryz.ntmps78
  go_wp2_with (go_at_call 109; refine (CL.out _).mono ?_; rintro e w' ⟨rfl, rfl⟩)
  go_ret
  exact ⟨by first | rfl | (rw [← hw]; rfl), rfl⟩
end Go.Proofs.YtkakoiaahgchmaaGreatDoor
namespace Go.Proofs.YtkakoiaahgchmaaGreatDoor
set_option maxRecDepth 100000
open Go.ChangeShapes Go.WideShapes Go.ChangeAt Go.RowKit
section
variable {P : Program} {ops : Array Oper} {rest : List Oper} {op : Oper} {a : Act} {w : World} {Q : Exit → Act → World → Prop}
theorem wpList_store_cell_q (hgd : op.guard = none) (ty : TypeId) (x y : Operand) (ho : op.op = .store ty x y) (b o : Nat) (v : Value) (hx : a.eval x = .pointer (some ⟨b, o, none⟩)) (hy : a.eval y = v) (h1 : v.oneCell' = true) (hc : v.cells = #[v])
    (cs : Array Value) (T : TypeId) (hk : Blk w b cs T) (hlt : o < cs.size) (hi : (P.info? ty).map (·.size) = some 1)
    (h : ∀ w', But b w w' → Blk w' b (cs.setIfInBounds o v) T → wpList P ops Q rest (a.put op.dst undef) w') : wpList P ops Q (op :: rest) a w :=
  wpList_plain hgd fun K hK => by
    unfold Oper.wp execOp
    simp only [ho, hx, hy, Instr.storeAt, Instr.sureAddr, Sem.run_bind, Sem.run_pure, Result.andThen_ok, run_store_one w hk hlt hi h1 hc, Oper.upon_skip]
    exact hK _ _ (h _ (But.setCells [v] o w (But.of (Below.refl _ _))) (hk.set o v))
end
theorem size_int : (Tryz.prog.info? 3).map (·.size) = some 1 := by kernel_rfl
/-- What is taken, where so many are left. -/
def takeZ (ds : List (List Int)) (left : Int) : List Int := if left - 1 < 0 then zD else ds.getD (left - 1).toNat []
theorem Dg.take {ds : List (List Int)} {left : Int} (h : ∀ d ∈ ds, Dg d) (hl : left ≤ ds.length) : Dg (takeZ ds left) := by
  unfold takeZ
  split
  · exact Dg.zero
  · exact Dg.getD h (by omega)
set_option maxHeartbeats 4000000 in
theorem take_none (bl bw : Nat) (left : Int) (ya : Option Addr) (yn yc : Nat) (w : World) (hne : bl ≠ bw) (kl : Blk w bl #[.int .i64 left] 3) (kw : Blk w bw #[.slice ya yn yc] 33) (hlo : -1000 ≤ left) (h0 : left - 1 < 0) :
    Calls Tryz.prog 107 #[.pointer (some ⟨bl, 0, none⟩), .pointer (some ⟨bw, 0, none⟩)] w fun e w' => e = .returned (.agg (zD.map (Value.int .u8)).toArray) ∧ But bl w w' ∧ Blk w' bl #[.int .i64 (left - 1)] 3 := by
  have hw1 : wrap64 (left - 1) = left - 1 := by unfold wrap64; omega
  have b1 := (Below.refl w.heap.size w).alloc (Nat.le_refl _) (.cells (byteCells 32 []) 25 (0, 0))
  have Kr := hid (Blk.new (w := w) (n := w.heap.size) rfl (byteCells 32 []) 25)
  have Hb := hid b1
  have hbz := b1.size
  have Hbs := hid (show w.heap.size + 1 = (w.alloc (.cells (byteCells 32 []) 25 (0, 0))).heap.size by simp only [World.size_alloc])
  clear b1 
  have Kl := hid (kl.below Hb.out)
  have Kw := hid (kw.below Hb.out)
  have hlt0 := kl.lt
  have hlt1 := kw.lt
  clear kl kw
  have cl : (w.alloc (.cells #[.int .u8 0, .int .u8 0, .int .u8 0, .int .u8 0, .int .u8 0, .int .u8 0, .int .u8 0, .int .u8 0, .int .u8 0, .int .u8 0, .int .u8 0, .int .u8 0, .int .u8 0, .int .u8 0, .int .u8 0, .int .u8 0, .int .u8 0, .int .u8 0, .int .u8 0, .int .u8 0, .int .u8 0, .int .u8 0, .int .u8 0, .int .u8 0, .int .u8 0, .int .u8 0, .int .u8 0, .int .u8 0, .int .u8 0, .int .u8 0, .int .u8 0, .int .u8 0] 25 (0, 0))).cell? ⟨bl, 0, none⟩ = some (.int .i64 left) := (show (w.alloc (.cells (byteCells 32 []) 25 (0, 0))).cell? ⟨bl, 0, none⟩ = some (.int .i64 left) by rw [Kl.out.cell]; rfl)
  go_enter Tryz.func107, Tryz.ntmps107
  go_wp2_with (first
     | (
        refine wpList_store_cell_q rfl 3 _ _ rfl bl 0 (.int .i64 (left - 1)) rfl rfl rfl rfl #[.int .i64 left] 3 Kl.out (by simp) size_int ?_
        intro w1 hb1 hk1
        have HB1 := hid hb1
        have Kl1 := hid (show Blk w1 bl #[.int .i64 (left - 1)] 3 from hk1)
        have Kr1 := hid (hb1.blk Kr.out (by omega))
        have Kw1 := hid (hb1.blk Kw.out (fun e => hne e.symm))
        have cl1 : w1.cell? ⟨bl, 0, none⟩ = some (.int .i64 (left - 1)) := by rw [Kl1.out.cell]; rfl
        have cw1 : w1.cell? ⟨bw, 0, none⟩ = some (.slice ya yn yc) := by rw [Kw1.out.cell]; rfl
        clear hb1 hk1)
     | (
        refine wpList_store_blk rfl 25 _ _ rfl (w.heap.size) (zD.map (Value.int .u8)).toArray rfl rfl _ 25 Kr1.out 32 size_digest zsize Dg.zero.size (ints_one _ _) ?_
        intro w9 hb9 hk9
        have HB9 := hid hb9
        have HK9 := hid hk9
        have Kl9 := hid (hb9.blk Kl1.out (by omega))
        clear hb9 hk9))
  exact bodyPost_ret (v := .agg (zD.map (Value.int .u8)).toArray) (results_blk Tryz.results107 _ (w.heap.size) rfl _ 25 HK9.out _ Tryz.underlying25 rfl 32 size_digest Dg.zero.size) rfl ⟨rfl, But.fresh (But.trans (But.of Hb.out) HB1.out) HB9.out (Nat.le_refl _), Kl9.out⟩
set_option maxHeartbeats 4000000 in
theorem take_some (bl bw : Nat) (x o q yn yc : Nat) (X : List Int) (w : World) (hne : bl ≠ bw) (kl : Blk w bl #[.int .i64 ((q : Int) + 1)] 3) (kw : Blk w bw #[.slice (some ⟨x, o, none⟩) yn yc] 33) (hq : q ≤ 1000000) (hqn : q < yn) (hx : x < w.heap.size) (hxl : x ≠ bl) (hc : w.rangeAt x (o + q * 32) (X.map (Value.int .u8))) (hX : Dg X) :
    Calls Tryz.prog 107 #[.pointer (some ⟨bl, 0, none⟩), .pointer (some ⟨bw, 0, none⟩)] w fun e w' => e = .returned (.agg (X.map (Value.int .u8)).toArray) ∧ But bl w w' ∧ Blk w' bl #[.int .i64 q] 3 := by
  have hw1 : wrap64 (q : Int) = (q : Int) := by unfold wrap64; omega
  have h0 : ¬ ((q : Int) < 0) := by omega
  have HX := hid hX
  have Hc := hid hc
  clear hc hX
  have b1 := (Below.refl w.heap.size w).alloc (Nat.le_refl _) (.cells (byteCells 32 []) 25 (0, 0))
  have Kr := hid (Blk.new (w := w) (n := w.heap.size) rfl (byteCells 32 []) 25)
  have Hb := hid b1
  have hbz := b1.size
  have Hbs := hid (show w.heap.size + 1 = (w.alloc (.cells (byteCells 32 []) 25 (0, 0))).heap.size by simp only [World.size_alloc])
  clear b1 
  have Kl := hid (kl.below Hb.out)
  have Kw := hid (kw.below Hb.out)
  have hlt0 := kl.lt
  have hlt1 := kw.lt
  clear kl kw
  have cl : (w.alloc (.cells #[.int .u8 0, .int .u8 0, .int .u8 0, .int .u8 0, .int .u8 0, .int .u8 0, .int .u8 0, .int .u8 0, .int .u8 0, .int .u8 0, .int .u8 0, .int .u8 0, .int .u8 0, .int .u8 0, .int .u8 0, .int .u8 0, .int .u8 0, .int .u8 0, .int .u8 0, .int .u8 0, .int .u8 0, .int .u8 0, .int .u8 0, .int .u8 0, .int .u8 0, .int .u8 0, .int .u8 0, .int .u8 0, .int .u8 0, .int .u8 0, .int .u8 0, .int .u8 0] 25 (0, 0))).cell? ⟨bl, 0, none⟩ = some (.int .i64 ((q : Int) + 1)) := (show (w.alloc (.cells (byteCells 32 []) 25 (0, 0))).cell? ⟨bl, 0, none⟩ = some (.int .i64 ((q : Int) + 1)) by rw [Kl.out.cell]; rfl)
  go_enter Tryz.func107, Tryz.ntmps107
  go_wp2_with (first
     | (
        refine wpList_store_cell_q rfl 3 _ _ rfl bl 0 (.int .i64 q) rfl rfl rfl rfl #[.int .i64 ((q : Int) + 1)] 3 Kl.out (by simp) size_int ?_
        intro w1 hb1 hk1
        have HB1 := hid hb1
        have Kl1 := hid (show Blk w1 bl #[.int .i64 q] 3 from hk1)
        have Kr1 := hid (hb1.blk Kr.out (by omega))
        have Kw1 := hid (hb1.blk Kw.out (fun e => hne e.symm))
        have cl1 : w1.cell? ⟨bl, 0, none⟩ = some (.int .i64 q) := by rw [Kl1.out.cell]; rfl
        have cw1 : w1.cell? ⟨bw, 0, none⟩ = some (.slice (some ⟨x, o, none⟩) yn yc) := by rw [Kw1.out.cell]; rfl
        have Hcx : Hid (w1.rangeAt x (o + q * 32) (X.map (Value.int .u8))) := hid (fun j v hv => by
          rw [hb1.cell (by rw [World.size_alloc]; omega) hxl]
          exact (Hb.out.cell (p := ⟨x, o + q * 32 + j, none⟩) hx).trans (Hc.out j v hv))
        clear hb1 hk1)
     | (refine wpList_index_digs rfl 33 _ _ rfl Tryz.underlying33 size_digest x o yn yc rfl _ _ rfl q (by omega) (by omega) ?_)
     | (refine wpList_load_mid rfl 25 _ rfl x (o + q * 32) rfl _ _ Hcx.out Tryz.underlying25 rfl (by rw [List.length_map, HX.out.len]; exact size_digest) ?_)
     | (
        refine wpList_store_blk rfl 25 _ _ rfl (w.heap.size) (X.map (Value.int .u8)).toArray rfl rfl _ 25 Kr1.out 32 size_digest zsize HX.out.size (ints_one _ _) ?_
        intro w9 hb9 hk9
        have HB9 := hid hb9
        have HK9 := hid hk9
        have Kl9 := hid (hb9.blk Kl1.out (by omega))
        clear hb9 hk9))
  exact bodyPost_ret (v := .agg (X.map (Value.int .u8)).toArray) (results_blk Tryz.results107 _ (w.heap.size) rfl _ 25 HK9.out _ Tryz.underlying25 rfl 32 size_digest HX.out.size) rfl ⟨rfl, But.fresh (But.trans (But.of Hb.out) HB1.out) HB9.out (Nat.le_refl _), Kl9.out⟩
set_option maxHeartbeats 4000000 in
theorem done_any (bl : Nat) (left : Int) (w : World) (kl : Blk w bl #[.int .i64 left] 3) :
    Calls Tryz.prog 108 #[.pointer (some ⟨bl, 0, none⟩)] w fun e w' => e = .returned (.bool (decide (left = 0))) ∧ w' = w := by
  have cl : w.cell? ⟨bl, 0, none⟩ = some (.int .i64 left) := by rw [kl.cell]; rfl
  go_enter Tryz.func108, Tryz.ntmps108
  go_wp2_with fail
  go_ret
  exact ⟨rfl, rfl⟩
set_option maxHeartbeats 4000000 in
theorem taker_any (ya : Option Addr) (yn yc : Nat) (w : World) :
    Calls Tryz.prog 76 #[.slice ya yn yc] w fun e w' => e = .returned (.tuple #[.func (.func 107) #[] #[.pointer (some ⟨w.heap.size + 1, 0, none⟩), .pointer (some ⟨w.heap.size, 0, none⟩)], .func (.func 108) #[] #[.pointer (some ⟨w.heap.size + 1, 0, none⟩)]]) ∧ Below w.heap.size w w' ∧ Blk w' (w.heap.size + 1) #[.int .i64 yn] 3 ∧ Blk w' w.heap.size #[.slice ya yn yc] 33 := by
  have b1 := (Below.refl w.heap.size w).alloc (Nat.le_refl _) (.cells #[.slice ya yn yc] 33 (0, 0))
  have Kw := hid (Blk.new (w := w) (n := w.heap.size) rfl #[.slice ya yn yc] 33)
  have Hb := hid b1
  have hbz := b1.size
  have Hbs := hid (show w.heap.size + 1 = (w.alloc (.cells #[.slice ya yn yc] 33 (0, 0))).heap.size by simp only [World.size_alloc])
  clear b1 
  go_enter Tryz.func76, Tryz.ntmps76
  have cw : (w.alloc (.cells #[.slice ya yn yc] 33 (0, 0))).cell? ⟨w.heap.size, 0, none⟩ = some (.slice ya yn yc) := by rw [Kw.out.cell]; rfl
  go_wp2_with fail
  go_returns
  exact ⟨rfl, Hb.out.alloc Hb.out.size _, Blk.new (w := (w.alloc (.cells #[.slice ya yn yc] 33 (0, 0)))) (n := w.heap.size + 1) (by simp only [World.size_alloc]) _ _, Kw.out.old _⟩
theorem Dg.head {d : List Int} (h : Dg d) : (d.map (Value.int .u8))[0]? = some (.int .u8 (d.getD 0 0)) := by
  have hl := h.len
  match d, hl with
  | x :: d, _ => rfl
  | [], hl => simp at hl
theorem blk_not {w : World} {bl x o : Nat} {left : Int} {v : Value} (kl : Blk w bl #[.int .i64 left] 3) (hc : w.cell? ⟨x, o, none⟩ = some v) (hv : ∀ n, v ≠ .int .i64 n) : x ≠ bl := fun e => by
  subst e
  rw [kl.cell] at hc
  match o, hc with
  | 0, hc => exact hv left (by simpa using hc.symm)
  | o + 1, hc => simp at hc
/-- What climbing from a leaf comes to, and how many digests are left then. -/
def upZ : Nat → List Int → Nat → Int → List (List Int) → Int → List Int × Int
  | 0, X, _, _, _, left => (X, left)
  | f + 1, X, n, i, ds, left => if n = 1 then (X, left) else if i < halfN n then
      (nodeL (upZ f X (halfN n) i ds (left - 1)).1 (takeZ ds left), (upZ f X (halfN n) i ds (left - 1)).2)
    else (nodeL (takeZ ds left) (upZ f X (n - halfN n) (i - halfN n) ds (left - 1)).1, (upZ f X (n - halfN n) (i - halfN n) ds (left - 1)).2)
end Go.Proofs.YtkakoiaahgchmaaGreatDoor
namespace Go.Proofs.YtkakoiaahgchmaaGreatDoor
set_option maxRecDepth 100000
open Go.ChangeShapes Go.WideShapes Go.ChangeAt Go.RowKit
theorem but_of_in {b : Nat} {w w' : World} (h : FlowB.ButIn [b] w w') : But b w w' := ⟨h.os, h.tape, h.output, h.size, fun k hk hne => h.block k hk (by simpa using hne)⟩
theorem st_butIn_q {b : Nat} {w : World} (obj : Obj) (hb : b < w.heap.size) : FlowB.St (FlowB.ButIn [b]) w obj := fun w1 w2 c h1 h2 hc ho => by
  have hlt : c < w1.heap.size := by
    have := (Array.getElem?_eq_some_iff.1 ho).1
    exact this
  rw [h2.block c hlt (by simp only [List.mem_cons, List.not_mem_nil, or_false]; omega)]
  exact ho
end Go.Proofs.YtkakoiaahgchmaaGreatDoor
namespace Go.Proofs.YtkakoiaahgchmaaGreatDoor
set_option maxRecDepth 100000
open Go.ChangeShapes Go.WideShapes Go.ChangeAt Go.RowKit
theorem size_f96 : (Tryz.prog.info? 116).map (·.size) = some 1 := by kernel_rfl
end Go.Proofs.YtkakoiaahgchmaaGreatDoor
namespace Go.Proofs.YtkakoiaahgchmaaGreatDoor
set_option maxRecDepth 100000
open Go.ChangeShapes Go.WideShapes Go.ChangeAt Go.RowKit
set_option maxHeartbeats 4000000 in
theorem quiet_cut_hh {op : Oper} {a : Act} {C : World → Prop} {K : Act → Prop} (x y : Operand) (ho : op.op = .slice 33 x none (some y) none) (a0 : Option Addr) (len cap n : Nat) (v : Int) (hx : a.eval x = .slice a0 len cap) (hy : a.eval y = .int .i64 v) (hv : v = n) (hn : n ≤ cap)
    (h : K (a.put op.dst (.slice a0 n cap))) : op.quiet Tryz.prog a C K :=
  ⟨.slice a0 n cap, fun w' _ => by
    subst hv
    have hr := run_cutd_h (P := Tryz.prog) Tryz.underlying33 size_digest a0 len cap (n : Int) w' (by omega) (by omega)
    rw [Int.toNat_natCast] at hr
    have he : Tryz.prog.elem 33 = 25 := by simp [Program.elem, Tryz.underlying33]
    have hs := run_sliceAt_slice (P := Tryz.prog) (w := w') 33 (.slice a0 len cap) none (some (.int .i64 n)) none (by rw [he]; exact Tryz.underlying33)
    rw [hr] at hs
    unfold Oper.quietAt execOp
    simp only [ho, hx, hy, Option.map_none, Option.map_some, Sem.run_bind, Sem.run_pure, Result.andThen_ok, hs]
    simp [Oper.quietUpon], h⟩
/-- Climbing, as the reference does it: with the digests that are left. -/
def upR : Nat → List Int → Nat → Nat → List (List Int) → List Int × Bool
  | 0, X, _, _, _ => (X, false)
  | f + 1, X, n, i, ds => if n = 1 then (X, decide (ds.length = 0)) else if ds.length = 0 then (X, false) else if i < halfN n then
      (nodeL (upR f X (halfN n) i (ds.take (ds.length - 1))).1 (ds.getD (ds.length - 1) []), (upR f X (halfN n) i (ds.take (ds.length - 1))).2)
    else (nodeL (ds.getD (ds.length - 1) []) (upR f X (n - halfN n) (i - halfN n) (ds.take (ds.length - 1))).1, (upR f X (n - halfN n) (i - halfN n) (ds.take (ds.length - 1))).2)
end Go.Proofs.YtkakoiaahgchmaaGreatDoor
namespace Go.Proofs.YtkakoiaahgchmaaGreatDoor
set_option maxRecDepth 100000
open Go.ChangeShapes Go.WideShapes Go.ChangeAt Go.RowKit
theorem take_at (ds : List (List Int)) (q : Nat) : takeZ ds ((q : Int) + 1) = ds.getD q [] := by
  unfold takeZ
  rw [if_neg (by omega), show ((q : Int) + 1 - 1).toNat = q by omega]
theorem getD_take (ds : List (List Int)) (q : Nat) : (ds.take (q + 1)).getD q [] = ds.getD q [] := by
  simp [List.getD]
end Go.Proofs.YtkakoiaahgchmaaGreatDoor
namespace Go.Proofs.YtkakoiaahgchmaaGreatDoor
set_option maxRecDepth 100000
open Go.ChangeShapes Go.WideShapes Go.ChangeAt Go.RowKit
structure GEnv (w : World) (ba bt bs bl bw : Nat) (A : List Int) (ya : Option Addr) (yn yc : Nat) (ds : List (List Int)) : Prop where
  kb : Blk w ba (A.map (Value.int .u8)).toArray 25
  kt : Blk w bt #[.func (.func 107) #[] #[.pointer (some ⟨bl, 0, none⟩), .pointer (some ⟨bw, 0, none⟩)]] 116
  ka : Blk w bs #[.func (.func 77) #[] #[.pointer (some ⟨ba, 0, none⟩), .pointer (some ⟨bt, 0, none⟩), .pointer (some ⟨bs, 0, none⟩)]] 119
  kw : Blk w bw #[.slice ya yn yc] 33
  way : DigsAt w ya yn yc ds
  tab : ShaTab w
  nb : ba ≠ bl
  nt : bt ≠ bl
  na : bs ≠ bl
  nw : bw ≠ bl
theorem GEnv.but {w w' : World} {ba bt bs bl bw : Nat} {A : List Int} {ya : Option Addr} {yn yc : Nat} {ds : List (List Int)} {left : Int} (h : GEnv w ba bt bs bl bw A ya yn yc ds) (kl : Blk w bl #[.int .i64 left] 3) (hb : But bl w w') : GEnv w' ba bt bs bl bw A ya yn yc ds := by
  obtain ⟨kb, kt, ka, kw, hw, tab, nb, nt, na, nw⟩ := h
  refine ⟨hb.blk kb nb, hb.blk kt nt, hb.blk ka na, hb.blk kw nw, ?_, ?_, nb, nt, na, nw⟩
  · obtain ⟨h1, h2, h3, h4, h5 | ⟨x, o, s, rfl, hc⟩⟩ := hw
    · exact ⟨h1, h2, h3, h4, .inl h5⟩
    · refine ⟨h1, h2, h3, h4, .inr ⟨x, o, s, rfl, fun j hj => ?_⟩⟩
      obtain ⟨q0, q1, q2⟩ := hc j hj
      have hd := Dg.getD h4 (j := j) (by omega)
      have hne : x ≠ bl := blk_not kl (q2 0 (.int .u8 ((ds.getD j []).getD 0 0)) hd.head) (fun n e => by cases e)
      exact ⟨q0, Nat.lt_of_lt_of_le q1 hb.size, fun k v hv => (hb.cell q1 hne).trans (q2 k v hv)⟩
  · exact tab.but hb (fun e => blk_not kl (tab.keys 0 (by omega)) (fun n e => by cases e) e.symm) (fun e => blk_not kl tab.start.1 (fun n e => by cases e) e.symm)
theorem But.freshIn {b : Nat} {S : List Nat} {w w' w'' : World} (h : But b w w') (h2 : FlowB.ButIn S w' w'') (hS : ∀ x ∈ S, w.heap.size ≤ x) : But b w w'' :=
  ⟨h2.os.trans h.os, h2.tape.trans h.tape, h2.output.trans h.output, Nat.le_trans h.size h2.size, fun k hk hne => (h2.block k (Nat.lt_of_lt_of_le hk h.size) (fun e => by have := hS k e; omega)).trans (h.block k hk hne)⟩
set_option maxHeartbeats 4000000 in
theorem gtake_any {w : World} {ba bt bs bl bw : Nat} {A : List Int} {ya : Option Addr} {yn yc : Nat} {ds : List (List Int)} {left : Int} (h : GEnv w ba bt bs bl bw A ya yn yc ds) (kl : Blk w bl #[.int .i64 left] 3) (hlo : -1000 ≤ left) (hhi : left ≤ yn) (hyn : yn ≤ 1000000) :
    Calls Tryz.prog 107 #[.pointer (some ⟨bl, 0, none⟩), .pointer (some ⟨bw, 0, none⟩)] w fun e w' => e = .returned (.agg ((takeZ ds left).map (Value.int .u8)).toArray) ∧ But bl w w' ∧ Blk w' bl #[.int .i64 (left - 1)] 3 := by
  unfold takeZ
  by_cases h0 : left - 1 < 0
  · rw [if_pos h0]
    exact take_none bl bw left ya yn yc w h.nw.symm kl h.kw hlo h0
  · rw [if_neg h0]
    obtain ⟨q, hq⟩ := Int.eq_ofNat_of_zero_le (show 0 ≤ left - 1 by omega)
    obtain rfl : left = (q : Int) + 1 := by omega
    obtain ⟨x, o, hxa, hx, hc⟩ := h.way.at_ (by omega)
    have hd := h.way.get (j := q) (by omega)
    have hkw := h.kw
    subst hxa
    have hne : x ≠ bl := blk_not kl (hc q (by omega) 0 (.int .u8 ((ds.getD q []).getD 0 0)) hd.head) (fun n e => by cases e)
    have := take_some bl bw x o q yn yc (ds.getD q []) w h.nw.symm kl hkw (by omega) (by omega) hx hne (hc q (by omega)) hd
    rw [show (q : Int) + 1 - 1 = (q : Int) by omega, Int.toNat_natCast]
    exact this
/-- What climbing from a beginning comes to, and how many digests are left then. -/
def groZ : Nat → List Int → Nat → Nat → Bool → List (List Int) → Int → (List Int × List Int) × Int
  | 0, A, _, _, _, _, left => ((A, A), left)
  | f + 1, A, m, n, cut, ds, left => if m = n then (if cut then ((takeZ ds left, takeZ ds left), left - 1) else ((A, A), left))
    else if m ≤ halfN n then
      (((groZ f A m (halfN n) cut ds (left - 1)).1.1, nodeL (groZ f A m (halfN n) cut ds (left - 1)).1.2 (takeZ ds left)), (groZ f A m (halfN n) cut ds (left - 1)).2)
    else ((nodeL (takeZ ds left) (groZ f A (m - halfN n) (n - halfN n) true ds (left - 1)).1.1, nodeL (takeZ ds left) (groZ f A (m - halfN n) (n - halfN n) true ds (left - 1)).1.2), (groZ f A (m - halfN n) (n - halfN n) true ds (left - 1)).2)
set_option maxHeartbeats 4000000 in
theorem gro_same (m : Int) (left : Int) (ba bt bs bl bw : Nat) (A : List Int) (ya : Option Addr) (yn yc : Nat) (ds : List (List Int)) (w : World) (he : GEnv w ba bt bs bl bw A ya yn yc ds) (kl : Blk w bl #[.int .i64 left] 3) (hA : Dg A) :
    Calls Tryz.prog 77 #[.int .i64 m, .int .i64 m, .bool false, .pointer (some ⟨ba, 0, none⟩), .pointer (some ⟨bt, 0, none⟩), .pointer (some ⟨bs, 0, none⟩)] w fun e w' => e = .returned (.tuple #[.agg (A.map (Value.int .u8)).toArray, .agg (A.map (Value.int .u8)).toArray]) ∧ But bl w w' ∧ Blk w' bl #[.int .i64 left] 3 := by
  have b1 := (Below.refl w.heap.size w).alloc (Nat.le_refl _) (.cells #[.int .u8 0, .int .u8 0, .int .u8 0, .int .u8 0, .int .u8 0, .int .u8 0, .int .u8 0, .int .u8 0, .int .u8 0, .int .u8 0, .int .u8 0, .int .u8 0, .int .u8 0, .int .u8 0, .int .u8 0, .int .u8 0, .int .u8 0, .int .u8 0, .int .u8 0, .int .u8 0, .int .u8 0, .int .u8 0, .int .u8 0, .int .u8 0, .int .u8 0, .int .u8 0, .int .u8 0, .int .u8 0, .int .u8 0, .int .u8 0, .int .u8 0, .int .u8 0] 25 (0, 0))
  have b2 := b1.alloc b1.size (.cells #[.int .u8 0, .int .u8 0, .int .u8 0, .int .u8 0, .int .u8 0, .int .u8 0, .int .u8 0, .int .u8 0, .int .u8 0, .int .u8 0, .int .u8 0, .int .u8 0, .int .u8 0, .int .u8 0, .int .u8 0, .int .u8 0, .int .u8 0, .int .u8 0, .int .u8 0, .int .u8 0, .int .u8 0, .int .u8 0, .int .u8 0, .int .u8 0, .int .u8 0, .int .u8 0, .int .u8 0, .int .u8 0, .int .u8 0, .int .u8 0, .int .u8 0, .int .u8 0] 25 (0, 0))
  have Kr1 := hid ((Blk.new (w := w) (n := w.heap.size) rfl #[.int .u8 0, .int .u8 0, .int .u8 0, .int .u8 0, .int .u8 0, .int .u8 0, .int .u8 0, .int .u8 0, .int .u8 0, .int .u8 0, .int .u8 0, .int .u8 0, .int .u8 0, .int .u8 0, .int .u8 0, .int .u8 0, .int .u8 0, .int .u8 0, .int .u8 0, .int .u8 0, .int .u8 0, .int .u8 0, .int .u8 0, .int .u8 0, .int .u8 0, .int .u8 0, .int .u8 0, .int .u8 0, .int .u8 0, .int .u8 0, .int .u8 0, .int .u8 0] 25).old (.cells #[.int .u8 0, .int .u8 0, .int .u8 0, .int .u8 0, .int .u8 0, .int .u8 0, .int .u8 0, .int .u8 0, .int .u8 0, .int .u8 0, .int .u8 0, .int .u8 0, .int .u8 0, .int .u8 0, .int .u8 0, .int .u8 0, .int .u8 0, .int .u8 0, .int .u8 0, .int .u8 0, .int .u8 0, .int .u8 0, .int .u8 0, .int .u8 0, .int .u8 0, .int .u8 0, .int .u8 0, .int .u8 0, .int .u8 0, .int .u8 0, .int .u8 0, .int .u8 0] 25 (0, 0)))
  have Kr2 := hid (Blk.new (w := (w.alloc (.cells #[.int .u8 0, .int .u8 0, .int .u8 0, .int .u8 0, .int .u8 0, .int .u8 0, .int .u8 0, .int .u8 0, .int .u8 0, .int .u8 0, .int .u8 0, .int .u8 0, .int .u8 0, .int .u8 0, .int .u8 0, .int .u8 0, .int .u8 0, .int .u8 0, .int .u8 0, .int .u8 0, .int .u8 0, .int .u8 0, .int .u8 0, .int .u8 0, .int .u8 0, .int .u8 0, .int .u8 0, .int .u8 0, .int .u8 0, .int .u8 0, .int .u8 0, .int .u8 0] 25 (0, 0)))) (n := w.heap.size + 1) (by simp only [World.size_alloc]) #[.int .u8 0, .int .u8 0, .int .u8 0, .int .u8 0, .int .u8 0, .int .u8 0, .int .u8 0, .int .u8 0, .int .u8 0, .int .u8 0, .int .u8 0, .int .u8 0, .int .u8 0, .int .u8 0, .int .u8 0, .int .u8 0, .int .u8 0, .int .u8 0, .int .u8 0, .int .u8 0, .int .u8 0, .int .u8 0, .int .u8 0, .int .u8 0, .int .u8 0, .int .u8 0, .int .u8 0, .int .u8 0, .int .u8 0, .int .u8 0, .int .u8 0, .int .u8 0] 25)
  have Hb := hid b2
  have hbz := b2.size
  have Hbs := hid (show w.heap.size + 1 + 1 = ((w.alloc (.cells #[.int .u8 0, .int .u8 0, .int .u8 0, .int .u8 0, .int .u8 0, .int .u8 0, .int .u8 0, .int .u8 0, .int .u8 0, .int .u8 0, .int .u8 0, .int .u8 0, .int .u8 0, .int .u8 0, .int .u8 0, .int .u8 0, .int .u8 0, .int .u8 0, .int .u8 0, .int .u8 0, .int .u8 0, .int .u8 0, .int .u8 0, .int .u8 0, .int .u8 0, .int .u8 0, .int .u8 0, .int .u8 0, .int .u8 0, .int .u8 0, .int .u8 0, .int .u8 0] 25 (0, 0))).alloc (.cells #[.int .u8 0, .int .u8 0, .int .u8 0, .int .u8 0, .int .u8 0, .int .u8 0, .int .u8 0, .int .u8 0, .int .u8 0, .int .u8 0, .int .u8 0, .int .u8 0, .int .u8 0, .int .u8 0, .int .u8 0, .int .u8 0, .int .u8 0, .int .u8 0, .int .u8 0, .int .u8 0, .int .u8 0, .int .u8 0, .int .u8 0, .int .u8 0, .int .u8 0, .int .u8 0, .int .u8 0, .int .u8 0, .int .u8 0, .int .u8 0, .int .u8 0, .int .u8 0] 25 (0, 0))).heap.size by simp only [World.size_alloc])
  clear b1 b2 
  have HE := hid (he.but kl (But.of Hb.out))
  have Kl := hid (kl.below Hb.out)
  have hbl := kl.lt
  have hbA := he.kb.lt
  clear he kl
  go_enter Tryz.func77, Tryz.ntmps77
  go_wp2_with (first
     | (refine wpList_load_blk rfl 25 _ rfl ba rfl _ 25 HE.out.kb _ Tryz.underlying25 rfl 32 size_digest hA.size ?_)
     | (
        refine wpList_store_blk rfl 25 _ _ rfl (w.heap.size + 1 + 1) (A.map (Value.int .u8)).toArray rfl rfl _ 25 (Blk.new (by simp only [World.size_alloc]) (byteCells 32 []) _) 32 size_digest zsize hA.size (ints_one _ _) ?_
        intro w1 hb1 hk1
        have h1 := hb1.below ((Below.refl (w.heap.size + 1 + 1) (((w.alloc (.cells #[.int .u8 0, .int .u8 0, .int .u8 0, .int .u8 0, .int .u8 0, .int .u8 0, .int .u8 0, .int .u8 0, .int .u8 0, .int .u8 0, .int .u8 0, .int .u8 0, .int .u8 0, .int .u8 0, .int .u8 0, .int .u8 0, .int .u8 0, .int .u8 0, .int .u8 0, .int .u8 0, .int .u8 0, .int .u8 0, .int .u8 0, .int .u8 0, .int .u8 0, .int .u8 0, .int .u8 0, .int .u8 0, .int .u8 0, .int .u8 0, .int .u8 0, .int .u8 0] 25 (0, 0))).alloc (.cells #[.int .u8 0, .int .u8 0, .int .u8 0, .int .u8 0, .int .u8 0, .int .u8 0, .int .u8 0, .int .u8 0, .int .u8 0, .int .u8 0, .int .u8 0, .int .u8 0, .int .u8 0, .int .u8 0, .int .u8 0, .int .u8 0, .int .u8 0, .int .u8 0, .int .u8 0, .int .u8 0, .int .u8 0, .int .u8 0, .int .u8 0, .int .u8 0, .int .u8 0, .int .u8 0, .int .u8 0, .int .u8 0, .int .u8 0, .int .u8 0, .int .u8 0, .int .u8 0] 25 (0, 0))))).alloc (by simp only [World.size_alloc]; omega) _) (by simp only [World.size_alloc]; omega) (Nat.le_refl _)
        rw [Hbs.out] at h1
        have HBw1 := hid (Below.on Hb.out h1)
        have Kr1w1 := hid (Kr1.out.below h1)
        have Kr2w1 := hid (Kr2.out.below h1)
        have Klw1 := hid (Kl.out.below h1)
        have Kxw1 := hid hk1
        have hsw1 := HBw1.out.size
        clear hb1 hk1 h1))
  refine FlowB.wp_region_butIn [w.heap.size, w.heap.size + 1] (fun wz => Blk wz (w.heap.size) #[.int .u8 0, .int .u8 0, .int .u8 0, .int .u8 0, .int .u8 0, .int .u8 0, .int .u8 0, .int .u8 0, .int .u8 0, .int .u8 0, .int .u8 0, .int .u8 0, .int .u8 0, .int .u8 0, .int .u8 0, .int .u8 0, .int .u8 0, .int .u8 0, .int .u8 0, .int .u8 0, .int .u8 0, .int .u8 0, .int .u8 0, .int .u8 0, .int .u8 0, .int .u8 0, .int .u8 0, .int .u8 0, .int .u8 0, .int .u8 0, .int .u8 0, .int .u8 0] 25 ∧ Blk wz (w.heap.size + 1) #[.int .u8 0, .int .u8 0, .int .u8 0, .int .u8 0, .int .u8 0, .int .u8 0, .int .u8 0, .int .u8 0, .int .u8 0, .int .u8 0, .int .u8 0, .int .u8 0, .int .u8 0, .int .u8 0, .int .u8 0, .int .u8 0, .int .u8 0, .int .u8 0, .int .u8 0, .int .u8 0, .int .u8 0, .int .u8 0, .int .u8 0, .int .u8 0, .int .u8 0, .int .u8 0, .int .u8 0, .int .u8 0, .int .u8 0, .int .u8 0, .int .u8 0, .int .u8 0] 25) 4 [0, 1] [] [(.c 2, [], []), (.c 3, [], [])] (by kernel_rfl) (by kernel_rfl) ⟨Kr1w1.out, Kr2w1.out⟩ (fun _ _ h hb => ⟨h.1.below hb, h.2.below hb⟩) ?_
  apply Exists.intro
  refine ⟨fun w0 hb0 hF0 => ?_, ?_⟩
  · skip
    have x0 : ∀ w', (∃ x : Ext w0, w' = x.at_) → ∃ T, Blk w' (w.heap.size + 1 + 1) (A.map (Value.int .u8)).toArray T := fun w' ⟨x, hx⟩ => ⟨_, hx ▸ (hb0.blk Kxw1.out (by simp only [List.mem_cons, List.not_mem_nil, or_false]; omega)).below x.same⟩
    simp only [pick, List.getElem?_toArray, List.getElem?_cons_succ, List.getElem?_cons_zero, Option.toList_some, List.cons_append, List.nil_append]
    repeat (first | (go_big_quiet_want; refine quiet_load_blk 25 _ rfl (w.heap.size + 1 + 1) rfl _ x0 _ Tryz.underlying25 rfl 32 size_digest hA.size ?_; go_big_quiet_on; simp only [Act.put, List.setIfInBounds_toArray, List.set_cons_zero, List.set_cons_succ]) | go_big_quiet_step (fail))
    exact wpQuiet_nil rfl
  refine FlowB.AlChk.nil ?_
  refine FlowB.Walk.skips rfl (fun wz => Blk wz (w.heap.size) (A.map (Value.int .u8)).toArray 25 ∧ Blk wz (w.heap.size + 1) #[.int .u8 0, .int .u8 0, .int .u8 0, .int .u8 0, .int .u8 0, .int .u8 0, .int .u8 0, .int .u8 0, .int .u8 0, .int .u8 0, .int .u8 0, .int .u8 0, .int .u8 0, .int .u8 0, .int .u8 0, .int .u8 0, .int .u8 0, .int .u8 0, .int .u8 0, .int .u8 0, .int .u8 0, .int .u8 0, .int .u8 0, .int .u8 0, .int .u8 0, .int .u8 0, .int .u8 0, .int .u8 0, .int .u8 0, .int .u8 0, .int .u8 0, .int .u8 0] 25) (fun _ _ h hb => ⟨h.1.below hb, h.2.below hb⟩) rfl (fun w1 hb1 hF1 hG1 => ?_) ?_
  · exact FlowB.store_skips 25 _ _ rfl (w.heap.size) (A.map (Value.int .u8)).toArray rfl rfl _ 25 hG1.1 32 size_digest rfl hA.size (ints_one _ _) (by simp) (fun w2 h2 h3 => ⟨h3, h2.blk hG1.2 (by omega)⟩)
  intro w1 hb1 hF1
  apply Exists.intro
  refine ⟨fun w2 hb2 hF2 => wpQuiet_nil rfl, ?_⟩
  refine FlowB.AlChk.nil ?_
  refine FlowB.Walk.skips rfl (fun wz => Blk wz (w.heap.size) (A.map (Value.int .u8)).toArray 25 ∧ Blk wz (w.heap.size + 1) (A.map (Value.int .u8)).toArray 25) (fun _ _ h hb => ⟨h.1.below hb, h.2.below hb⟩) rfl (fun w1 hb1 hF1 hG1 => ?_) ?_
  · exact FlowB.store_skips 25 _ _ rfl (w.heap.size + 1) (A.map (Value.int .u8)).toArray rfl rfl _ 25 hG1.2 32 size_digest rfl hA.size (ints_one _ _) (by simp) (fun w2 h2 h3 => ⟨h2.blk hG1.1 (by omega), h3⟩)
  intro w1 hb1 hF1
  apply Exists.intro
  refine ⟨fun w2 hb2 hF2 => wpQuiet_nil rfl, ?_⟩
  refine FlowB.AlChk.nil ?_
  refine FlowB.Walk.fin fun w2 hw2 _ hGw2 => ?_
  simp only [List.drop_succ_cons, List.drop_zero]
  have HIw2 := hid hw2
  have HBw2 := hid (hw2.below HBw1.out HBw1.out.size (by simp only [List.mem_cons, List.not_mem_nil, or_false, forall_eq_or_imp, forall_eq]; omega))
  have HGw2 := hid hGw2
  clear hw2 hGw2
  go_wp2_with fail
  exact bodyPost_ret (v := .tuple #[.agg (A.map (Value.int .u8)).toArray, .agg (A.map (Value.int .u8)).toArray]) (results_blk2 Tryz.results77 _ (w.heap.size) (w.heap.size + 1) rfl rfl _ _ 25 HGw2.out.1 HGw2.out.2 _ Tryz.underlying25 rfl 32 size_digest hA.size hA.size) rfl ⟨rfl, (But.of HBw2.out), (HIw2.out.blk Klw1.out (by simp only [List.mem_cons, List.not_mem_nil, or_false]; omega))⟩
set_option maxHeartbeats 4000000 in
theorem gro_cut (m : Int) (left : Int) (ba bt bs bl bw : Nat) (A : List Int) (ya : Option Addr) (yn yc : Nat) (ds : List (List Int)) (w : World) (he : GEnv w ba bt bs bl bw A ya yn yc ds) (kl : Blk w bl #[.int .i64 left] 3) (hA : Dg A) (hlo : -1000 ≤ left) (hhi : left ≤ yn) (hyn : yn ≤ 1000000) :
    Calls Tryz.prog 77 #[.int .i64 m, .int .i64 m, .bool true, .pointer (some ⟨ba, 0, none⟩), .pointer (some ⟨bt, 0, none⟩), .pointer (some ⟨bs, 0, none⟩)] w fun e w' => e = .returned (.tuple #[.agg ((takeZ ds left).map (Value.int .u8)).toArray, .agg ((takeZ ds left).map (Value.int .u8)).toArray]) ∧ But bl w w' ∧ Blk w' bl #[.int .i64 (left - 1)] 3 := by
  have CT := hid (fun (W : World) (h : GEnv W ba bt bs bl bw A ya yn yc ds) (k1 : Blk W bl #[.int .i64 left] 3) => gtake_any h k1 hlo hhi hyn)
  have hwl := he.way.length
  have HO := hid (Dg.take he.way.each (left := left) (by omega))
  generalize takeZ ds left = O at *
  have b1 := (Below.refl w.heap.size w).alloc (Nat.le_refl _) (.cells #[.int .u8 0, .int .u8 0, .int .u8 0, .int .u8 0, .int .u8 0, .int .u8 0, .int .u8 0, .int .u8 0, .int .u8 0, .int .u8 0, .int .u8 0, .int .u8 0, .int .u8 0, .int .u8 0, .int .u8 0, .int .u8 0, .int .u8 0, .int .u8 0, .int .u8 0, .int .u8 0, .int .u8 0, .int .u8 0, .int .u8 0, .int .u8 0, .int .u8 0, .int .u8 0, .int .u8 0, .int .u8 0, .int .u8 0, .int .u8 0, .int .u8 0, .int .u8 0] 25 (0, 0))
  have b2 := b1.alloc b1.size (.cells #[.int .u8 0, .int .u8 0, .int .u8 0, .int .u8 0, .int .u8 0, .int .u8 0, .int .u8 0, .int .u8 0, .int .u8 0, .int .u8 0, .int .u8 0, .int .u8 0, .int .u8 0, .int .u8 0, .int .u8 0, .int .u8 0, .int .u8 0, .int .u8 0, .int .u8 0, .int .u8 0, .int .u8 0, .int .u8 0, .int .u8 0, .int .u8 0, .int .u8 0, .int .u8 0, .int .u8 0, .int .u8 0, .int .u8 0, .int .u8 0, .int .u8 0, .int .u8 0] 25 (0, 0))
  have Kr1 := hid ((Blk.new (w := w) (n := w.heap.size) rfl #[.int .u8 0, .int .u8 0, .int .u8 0, .int .u8 0, .int .u8 0, .int .u8 0, .int .u8 0, .int .u8 0, .int .u8 0, .int .u8 0, .int .u8 0, .int .u8 0, .int .u8 0, .int .u8 0, .int .u8 0, .int .u8 0, .int .u8 0, .int .u8 0, .int .u8 0, .int .u8 0, .int .u8 0, .int .u8 0, .int .u8 0, .int .u8 0, .int .u8 0, .int .u8 0, .int .u8 0, .int .u8 0, .int .u8 0, .int .u8 0, .int .u8 0, .int .u8 0] 25).old (.cells #[.int .u8 0, .int .u8 0, .int .u8 0, .int .u8 0, .int .u8 0, .int .u8 0, .int .u8 0, .int .u8 0, .int .u8 0, .int .u8 0, .int .u8 0, .int .u8 0, .int .u8 0, .int .u8 0, .int .u8 0, .int .u8 0, .int .u8 0, .int .u8 0, .int .u8 0, .int .u8 0, .int .u8 0, .int .u8 0, .int .u8 0, .int .u8 0, .int .u8 0, .int .u8 0, .int .u8 0, .int .u8 0, .int .u8 0, .int .u8 0, .int .u8 0, .int .u8 0] 25 (0, 0)))
  have Kr2 := hid (Blk.new (w := (w.alloc (.cells #[.int .u8 0, .int .u8 0, .int .u8 0, .int .u8 0, .int .u8 0, .int .u8 0, .int .u8 0, .int .u8 0, .int .u8 0, .int .u8 0, .int .u8 0, .int .u8 0, .int .u8 0, .int .u8 0, .int .u8 0, .int .u8 0, .int .u8 0, .int .u8 0, .int .u8 0, .int .u8 0, .int .u8 0, .int .u8 0, .int .u8 0, .int .u8 0, .int .u8 0, .int .u8 0, .int .u8 0, .int .u8 0, .int .u8 0, .int .u8 0, .int .u8 0, .int .u8 0] 25 (0, 0)))) (n := w.heap.size + 1) (by simp only [World.size_alloc]) #[.int .u8 0, .int .u8 0, .int .u8 0, .int .u8 0, .int .u8 0, .int .u8 0, .int .u8 0, .int .u8 0, .int .u8 0, .int .u8 0, .int .u8 0, .int .u8 0, .int .u8 0, .int .u8 0, .int .u8 0, .int .u8 0, .int .u8 0, .int .u8 0, .int .u8 0, .int .u8 0, .int .u8 0, .int .u8 0, .int .u8 0, .int .u8 0, .int .u8 0, .int .u8 0, .int .u8 0, .int .u8 0, .int .u8 0, .int .u8 0, .int .u8 0, .int .u8 0] 25)
  have Hb := hid b2
  have hbz := b2.size
  have Hbs := hid (show w.heap.size + 1 + 1 = ((w.alloc (.cells #[.int .u8 0, .int .u8 0, .int .u8 0, .int .u8 0, .int .u8 0, .int .u8 0, .int .u8 0, .int .u8 0, .int .u8 0, .int .u8 0, .int .u8 0, .int .u8 0, .int .u8 0, .int .u8 0, .int .u8 0, .int .u8 0, .int .u8 0, .int .u8 0, .int .u8 0, .int .u8 0, .int .u8 0, .int .u8 0, .int .u8 0, .int .u8 0, .int .u8 0, .int .u8 0, .int .u8 0, .int .u8 0, .int .u8 0, .int .u8 0, .int .u8 0, .int .u8 0] 25 (0, 0))).alloc (.cells #[.int .u8 0, .int .u8 0, .int .u8 0, .int .u8 0, .int .u8 0, .int .u8 0, .int .u8 0, .int .u8 0, .int .u8 0, .int .u8 0, .int .u8 0, .int .u8 0, .int .u8 0, .int .u8 0, .int .u8 0, .int .u8 0, .int .u8 0, .int .u8 0, .int .u8 0, .int .u8 0, .int .u8 0, .int .u8 0, .int .u8 0, .int .u8 0, .int .u8 0, .int .u8 0, .int .u8 0, .int .u8 0, .int .u8 0, .int .u8 0, .int .u8 0, .int .u8 0] 25 (0, 0))).heap.size by simp only [World.size_alloc])
  clear b1 b2 
  have HE := hid (he.but kl (But.of Hb.out))
  have Kl := hid (kl.below Hb.out)
  have hbl := kl.lt
  have hbA := he.kb.lt
  clear he kl
  go_enter Tryz.func77, Tryz.ntmps77
  go_wp2_with (first
     | (refine wpList_load_blk rfl 25 _ rfl ba rfl _ 25 HE.out.kb _ Tryz.underlying25 rfl 32 size_digest hA.size ?_)
     | (
        refine wpList_store_blk rfl 25 _ _ rfl (w.heap.size + 1 + 1) (A.map (Value.int .u8)).toArray rfl rfl _ 25 (Blk.new (by simp only [World.size_alloc]) (byteCells 32 []) _) 32 size_digest zsize hA.size (ints_one _ _) ?_
        intro w1 hb1 hk1
        have h1 := hb1.below ((Below.refl (w.heap.size + 1 + 1) (((w.alloc (.cells #[.int .u8 0, .int .u8 0, .int .u8 0, .int .u8 0, .int .u8 0, .int .u8 0, .int .u8 0, .int .u8 0, .int .u8 0, .int .u8 0, .int .u8 0, .int .u8 0, .int .u8 0, .int .u8 0, .int .u8 0, .int .u8 0, .int .u8 0, .int .u8 0, .int .u8 0, .int .u8 0, .int .u8 0, .int .u8 0, .int .u8 0, .int .u8 0, .int .u8 0, .int .u8 0, .int .u8 0, .int .u8 0, .int .u8 0, .int .u8 0, .int .u8 0, .int .u8 0] 25 (0, 0))).alloc (.cells #[.int .u8 0, .int .u8 0, .int .u8 0, .int .u8 0, .int .u8 0, .int .u8 0, .int .u8 0, .int .u8 0, .int .u8 0, .int .u8 0, .int .u8 0, .int .u8 0, .int .u8 0, .int .u8 0, .int .u8 0, .int .u8 0, .int .u8 0, .int .u8 0, .int .u8 0, .int .u8 0, .int .u8 0, .int .u8 0, .int .u8 0, .int .u8 0, .int .u8 0, .int .u8 0, .int .u8 0, .int .u8 0, .int .u8 0, .int .u8 0, .int .u8 0, .int .u8 0] 25 (0, 0))))).alloc (by simp only [World.size_alloc]; omega) _) (by simp only [World.size_alloc]; omega) (Nat.le_refl _)
        rw [Hbs.out] at h1
        have HBw1 := hid (Below.on Hb.out h1)
        have Kr1w1 := hid (Kr1.out.below h1)
        have Kr2w1 := hid (Kr2.out.below h1)
        have Klw1 := hid (Kl.out.below h1)
        have Kxw1 := hid hk1
        have hsw1 := HBw1.out.size
        have HE1 := hid (HE.out.but Kl.out (But.of h1))
        have HC1 := hid (But.of (b := bl) h1)
        have ct1 : w1.cell? ⟨bt, 0, none⟩ = some (.func (.func 107) #[] #[.pointer (some ⟨bl, 0, none⟩), .pointer (some ⟨bw, 0, none⟩)]) := by rw [HE1.out.kt.cell]; rfl
        clear hb1 hk1 h1))
  refine (CT.out w1 HE1.out Klw1.out).mono ?_
  rintro e w2 ⟨rfl, b2, k2⟩
  have HC2 := hid (But.trans HC1.out b2)
  have Kl2 := hid k2
  have Kr12 := hid (b2.blk Kr1w1.out (by omega))
  have Kr22 := hid (b2.blk Kr2w1.out (by omega))
  have Kx2 := hid (b2.blk Kxw1.out (by omega))
  clear b2 k2
  go_wp2_with (
        refine wpList_store_blk rfl 25 _ _ rfl (w.heap.size + 1 + 1) (O.map (Value.int .u8)).toArray rfl rfl _ 25 Kx2.out 32 size_digest hA.size HO.out.size (ints_one _ _) ?_
        intro w3 hb3 hk3
        have HC3 := hid (But.fresh (But.trans (But.of Hb.out) HC2.out) hb3 (by omega))
        have Kr1w3 := hid (hb3.blk Kr12.out (by omega))
        have Kr2w3 := hid (hb3.blk Kr22.out (by omega))
        have Klw3 := hid (hb3.blk Kl2.out (by omega))
        have Kxw3 := hid hk3
        clear hb3 hk3)
  simp only [Act.put]
  refine FlowB.wp_region_butIn [w.heap.size, w.heap.size + 1] (fun wz => Blk wz (w.heap.size) #[.int .u8 0, .int .u8 0, .int .u8 0, .int .u8 0, .int .u8 0, .int .u8 0, .int .u8 0, .int .u8 0, .int .u8 0, .int .u8 0, .int .u8 0, .int .u8 0, .int .u8 0, .int .u8 0, .int .u8 0, .int .u8 0, .int .u8 0, .int .u8 0, .int .u8 0, .int .u8 0, .int .u8 0, .int .u8 0, .int .u8 0, .int .u8 0, .int .u8 0, .int .u8 0, .int .u8 0, .int .u8 0, .int .u8 0, .int .u8 0, .int .u8 0, .int .u8 0] 25 ∧ Blk wz (w.heap.size + 1) #[.int .u8 0, .int .u8 0, .int .u8 0, .int .u8 0, .int .u8 0, .int .u8 0, .int .u8 0, .int .u8 0, .int .u8 0, .int .u8 0, .int .u8 0, .int .u8 0, .int .u8 0, .int .u8 0, .int .u8 0, .int .u8 0, .int .u8 0, .int .u8 0, .int .u8 0, .int .u8 0, .int .u8 0, .int .u8 0, .int .u8 0, .int .u8 0, .int .u8 0, .int .u8 0, .int .u8 0, .int .u8 0, .int .u8 0, .int .u8 0, .int .u8 0, .int .u8 0] 25) 4 [0, 1] [] [(.c 2, [], []), (.c 3, [], [])] (by kernel_rfl) (by kernel_rfl) ⟨Kr1w3.out, Kr2w3.out⟩ (fun _ _ h hb => ⟨h.1.below hb, h.2.below hb⟩) ?_
  apply Exists.intro
  refine ⟨fun w0 hb0 hF0 => ?_, ?_⟩
  · skip
    have x0 : ∀ w', (∃ x : Ext w0, w' = x.at_) → ∃ T, Blk w' (w.heap.size + 1 + 1) (O.map (Value.int .u8)).toArray T := fun w' ⟨x, hx⟩ => ⟨_, hx ▸ (hb0.blk Kxw3.out (by simp only [List.mem_cons, List.not_mem_nil, or_false]; omega)).below x.same⟩
    simp only [pick, List.getElem?_toArray, List.getElem?_cons_succ, List.getElem?_cons_zero, Option.toList_some, List.cons_append, List.nil_append]
    repeat (first | (go_big_quiet_want; refine quiet_load_blk 25 _ rfl (w.heap.size + 1 + 1) rfl _ x0 _ Tryz.underlying25 rfl 32 size_digest HO.out.size ?_; go_big_quiet_on; simp only [Act.put, List.setIfInBounds_toArray, List.set_cons_zero, List.set_cons_succ]) | go_big_quiet_step (fail))
    exact wpQuiet_nil rfl
  refine FlowB.AlChk.nil ?_
  refine FlowB.Walk.skips rfl (fun wz => Blk wz (w.heap.size) (O.map (Value.int .u8)).toArray 25 ∧ Blk wz (w.heap.size + 1) #[.int .u8 0, .int .u8 0, .int .u8 0, .int .u8 0, .int .u8 0, .int .u8 0, .int .u8 0, .int .u8 0, .int .u8 0, .int .u8 0, .int .u8 0, .int .u8 0, .int .u8 0, .int .u8 0, .int .u8 0, .int .u8 0, .int .u8 0, .int .u8 0, .int .u8 0, .int .u8 0, .int .u8 0, .int .u8 0, .int .u8 0, .int .u8 0, .int .u8 0, .int .u8 0, .int .u8 0, .int .u8 0, .int .u8 0, .int .u8 0, .int .u8 0, .int .u8 0] 25) (fun _ _ h hb => ⟨h.1.below hb, h.2.below hb⟩) rfl (fun w1 hb1 hF1 hG1 => ?_) ?_
  · exact FlowB.store_skips 25 _ _ rfl (w.heap.size) (O.map (Value.int .u8)).toArray rfl rfl _ 25 hG1.1 32 size_digest rfl HO.out.size (ints_one _ _) (by simp) (fun w2 h2 h3 => ⟨h3, h2.blk hG1.2 (by omega)⟩)
  intro w1 hb1 hF1
  apply Exists.intro
  refine ⟨fun w2 hb2 hF2 => wpQuiet_nil rfl, ?_⟩
  refine FlowB.AlChk.nil ?_
  refine FlowB.Walk.skips rfl (fun wz => Blk wz (w.heap.size) (O.map (Value.int .u8)).toArray 25 ∧ Blk wz (w.heap.size + 1) (O.map (Value.int .u8)).toArray 25) (fun _ _ h hb => ⟨h.1.below hb, h.2.below hb⟩) rfl (fun w1 hb1 hF1 hG1 => ?_) ?_
  · exact FlowB.store_skips 25 _ _ rfl (w.heap.size + 1) (O.map (Value.int .u8)).toArray rfl rfl _ 25 hG1.2 32 size_digest rfl HO.out.size (ints_one _ _) (by simp) (fun w2 h2 h3 => ⟨h2.blk hG1.1 (by omega), h3⟩)
  intro w1 hb1 hF1
  apply Exists.intro
  refine ⟨fun w2 hb2 hF2 => wpQuiet_nil rfl, ?_⟩
  refine FlowB.AlChk.nil ?_
  refine FlowB.Walk.fin fun w2 hw2 _ hGw2 => ?_
  simp only [List.drop_succ_cons, List.drop_zero]
  have HIw2 := hid hw2
  have HGw2 := hid hGw2
  clear hw2 hGw2
  go_wp2_with fail
  exact bodyPost_ret (v := .tuple #[.agg (O.map (Value.int .u8)).toArray, .agg (O.map (Value.int .u8)).toArray]) (results_blk2 Tryz.results77 _ (w.heap.size) (w.heap.size + 1) rfl rfl _ _ 25 HGw2.out.1 HGw2.out.2 _ Tryz.underlying25 rfl 32 size_digest HO.out.size HO.out.size) rfl ⟨rfl, (But.freshIn HC3.out HIw2.out (by simp only [List.mem_cons, List.not_mem_nil, or_false, forall_eq_or_imp, forall_eq]; omega)), (HIw2.out.blk Klw3.out (by simp only [List.mem_cons, List.not_mem_nil, or_false]; omega))⟩
set_option maxHeartbeats 4000000 in
theorem gro_l (m n k : Nat) (cut : Bool) (left : Int) (ba bt bs bl bw : Nat) (A : List Int) (ya : Option Addr) (yn yc : Nat) (ds : List (List Int)) (w : World) (he : GEnv w ba bt bs bl bw A ya yn yc ds) (kl : Blk w bl #[.int .i64 left] 3) (hmn : m < n) (hn : 2 ≤ n) (hn2 : n ≤ 200) (hkk : halfN n = k) (hik : m ≤ k) (hlo : -1000 ≤ left) (hhi : left ≤ yn) (hyn : yn ≤ 1000000)
    (R1 R2 : List Int) (L2 : Int) (hR1 : Dg R1) (hR2 : Dg R2) (ca : ∀ W : World, GEnv W ba bt bs bl bw A ya yn yc ds → Blk W bl #[.int .i64 (left - 1)] 3 → Calls Tryz.prog 77 #[.int .i64 (m : Int), .int .i64 (k : Int), .bool cut, .pointer (some ⟨ba, 0, none⟩), .pointer (some ⟨bt, 0, none⟩), .pointer (some ⟨bs, 0, none⟩)] W fun e w' => e = .returned (.tuple #[.agg (R1.map (Value.int .u8)).toArray, .agg (R2.map (Value.int .u8)).toArray]) ∧ But bl W w' ∧ Blk w' bl #[.int .i64 L2] 3) :
    Calls Tryz.prog 77 #[.int .i64 m, .int .i64 n, .bool cut, .pointer (some ⟨ba, 0, none⟩), .pointer (some ⟨bt, 0, none⟩), .pointer (some ⟨bs, 0, none⟩)] w fun e w' => e = .returned (.tuple #[.agg (R1.map (Value.int .u8)).toArray, .agg ((nodeL R2 (takeZ ds left)).map (Value.int .u8)).toArray]) ∧ But bl w w' ∧ Blk w' bl #[.int .i64 L2] 3 := by
  obtain ⟨hk1, hk2⟩ := halfN_lt hn
  rw [hkk] at hk1 hk2
  have hmI : ¬ ((m : Int) = (n : Int)) := by omega
  have CH := hid (fun W : World => (lohalf_any n W hn (by omega)).mono (fun e w' (h : e = .returned (.int .i64 (halfN n : Int)) ∧ w' = W) => show e = .returned (.int .i64 (halfN n : Int)) ∧ Below W.heap.size W w' from ⟨h.1, by rw [h.2]; exact Below.refl _ _⟩))
  rw [hkk] at CH
  have CT := hid (fun (W : World) (h : GEnv W ba bt bs bl bw A ya yn yc ds) (k1 : Blk W bl #[.int .i64 left] 3) => gtake_any h k1 hlo hhi hyn)
  have CA := hid ca
  have hwl := he.way.length
  have HO := hid (Dg.take he.way.each (left := left) (by omega))
  have HR1 := hid hR1
  have HR2 := hid hR2
  generalize takeZ ds left = O at *
  have CN := hid (fun (W : World) (t : ShaTab W) => lonode_any R2 O W HR2.out HO.out t)
  have HX9 := hid (Dg.nodeL R2 O)
  generalize nodeL R2 O = X9 at *
  have hikI : (m : Int) ≤ k := by omega
  clear ca hR1 hR2 hkk hwl
  have b1 := (Below.refl w.heap.size w).alloc (Nat.le_refl _) (.cells #[.int .u8 0, .int .u8 0, .int .u8 0, .int .u8 0, .int .u8 0, .int .u8 0, .int .u8 0, .int .u8 0, .int .u8 0, .int .u8 0, .int .u8 0, .int .u8 0, .int .u8 0, .int .u8 0, .int .u8 0, .int .u8 0, .int .u8 0, .int .u8 0, .int .u8 0, .int .u8 0, .int .u8 0, .int .u8 0, .int .u8 0, .int .u8 0, .int .u8 0, .int .u8 0, .int .u8 0, .int .u8 0, .int .u8 0, .int .u8 0, .int .u8 0, .int .u8 0] 25 (0, 0))
  have b2 := b1.alloc b1.size (.cells #[.int .u8 0, .int .u8 0, .int .u8 0, .int .u8 0, .int .u8 0, .int .u8 0, .int .u8 0, .int .u8 0, .int .u8 0, .int .u8 0, .int .u8 0, .int .u8 0, .int .u8 0, .int .u8 0, .int .u8 0, .int .u8 0, .int .u8 0, .int .u8 0, .int .u8 0, .int .u8 0, .int .u8 0, .int .u8 0, .int .u8 0, .int .u8 0, .int .u8 0, .int .u8 0, .int .u8 0, .int .u8 0, .int .u8 0, .int .u8 0, .int .u8 0, .int .u8 0] 25 (0, 0))
  have Kr1 := hid ((Blk.new (w := w) (n := w.heap.size) rfl #[.int .u8 0, .int .u8 0, .int .u8 0, .int .u8 0, .int .u8 0, .int .u8 0, .int .u8 0, .int .u8 0, .int .u8 0, .int .u8 0, .int .u8 0, .int .u8 0, .int .u8 0, .int .u8 0, .int .u8 0, .int .u8 0, .int .u8 0, .int .u8 0, .int .u8 0, .int .u8 0, .int .u8 0, .int .u8 0, .int .u8 0, .int .u8 0, .int .u8 0, .int .u8 0, .int .u8 0, .int .u8 0, .int .u8 0, .int .u8 0, .int .u8 0, .int .u8 0] 25).old (.cells #[.int .u8 0, .int .u8 0, .int .u8 0, .int .u8 0, .int .u8 0, .int .u8 0, .int .u8 0, .int .u8 0, .int .u8 0, .int .u8 0, .int .u8 0, .int .u8 0, .int .u8 0, .int .u8 0, .int .u8 0, .int .u8 0, .int .u8 0, .int .u8 0, .int .u8 0, .int .u8 0, .int .u8 0, .int .u8 0, .int .u8 0, .int .u8 0, .int .u8 0, .int .u8 0, .int .u8 0, .int .u8 0, .int .u8 0, .int .u8 0, .int .u8 0, .int .u8 0] 25 (0, 0)))
  have Kr2 := hid (Blk.new (w := (w.alloc (.cells #[.int .u8 0, .int .u8 0, .int .u8 0, .int .u8 0, .int .u8 0, .int .u8 0, .int .u8 0, .int .u8 0, .int .u8 0, .int .u8 0, .int .u8 0, .int .u8 0, .int .u8 0, .int .u8 0, .int .u8 0, .int .u8 0, .int .u8 0, .int .u8 0, .int .u8 0, .int .u8 0, .int .u8 0, .int .u8 0, .int .u8 0, .int .u8 0, .int .u8 0, .int .u8 0, .int .u8 0, .int .u8 0, .int .u8 0, .int .u8 0, .int .u8 0, .int .u8 0] 25 (0, 0)))) (n := w.heap.size + 1) (by simp only [World.size_alloc]) #[.int .u8 0, .int .u8 0, .int .u8 0, .int .u8 0, .int .u8 0, .int .u8 0, .int .u8 0, .int .u8 0, .int .u8 0, .int .u8 0, .int .u8 0, .int .u8 0, .int .u8 0, .int .u8 0, .int .u8 0, .int .u8 0, .int .u8 0, .int .u8 0, .int .u8 0, .int .u8 0, .int .u8 0, .int .u8 0, .int .u8 0, .int .u8 0, .int .u8 0, .int .u8 0, .int .u8 0, .int .u8 0, .int .u8 0, .int .u8 0, .int .u8 0, .int .u8 0] 25)
  have Hb := hid b2
  have hbz := b2.size
  have Hbs := hid (show w.heap.size + 1 + 1 = ((w.alloc (.cells #[.int .u8 0, .int .u8 0, .int .u8 0, .int .u8 0, .int .u8 0, .int .u8 0, .int .u8 0, .int .u8 0, .int .u8 0, .int .u8 0, .int .u8 0, .int .u8 0, .int .u8 0, .int .u8 0, .int .u8 0, .int .u8 0, .int .u8 0, .int .u8 0, .int .u8 0, .int .u8 0, .int .u8 0, .int .u8 0, .int .u8 0, .int .u8 0, .int .u8 0, .int .u8 0, .int .u8 0, .int .u8 0, .int .u8 0, .int .u8 0, .int .u8 0, .int .u8 0] 25 (0, 0))).alloc (.cells #[.int .u8 0, .int .u8 0, .int .u8 0, .int .u8 0, .int .u8 0, .int .u8 0, .int .u8 0, .int .u8 0, .int .u8 0, .int .u8 0, .int .u8 0, .int .u8 0, .int .u8 0, .int .u8 0, .int .u8 0, .int .u8 0, .int .u8 0, .int .u8 0, .int .u8 0, .int .u8 0, .int .u8 0, .int .u8 0, .int .u8 0, .int .u8 0, .int .u8 0, .int .u8 0, .int .u8 0, .int .u8 0, .int .u8 0, .int .u8 0, .int .u8 0, .int .u8 0] 25 (0, 0))).heap.size by simp only [World.size_alloc])
  clear b1 b2 
  have HE0 := hid he
  have Kl0 := hid kl
  have HE := hid (he.but kl (But.of Hb.out))
  have Kl := hid (kl.below Hb.out)
  have hbl := kl.lt
  have hbA := he.kb.lt
  have hllt := Kl.out.lt
  clear he kl
  go_enter Tryz.func77, Tryz.ntmps77
  go_wp2_with fail
  refine FlowB.wp_region_butIn [bl] (fun wz => Blk wz bl #[.int .i64 left] 3) 5 [0, 1, 2] [4] [(.c 3, [], []), (.b 4, [], [])] (by kernel_rfl) (by kernel_rfl) Kl.out (fun _ _ h hb => h.below hb) ?_
  apply Exists.intro
  refine ⟨fun w0 hb0 hF0 => ?_, ?_⟩
  · skip
    have yt : ∀ w', (∃ x : Ext w0, w' = x.at_) → w'.cell? ⟨bt, 0, none⟩ = some (.func (.func 107) #[] #[.pointer (some ⟨bl, 0, none⟩), .pointer (some ⟨bw, 0, none⟩)]) := fun w' ⟨x, hx⟩ => by rw [hx, ((((HE.out.but Kl.out (but_of_in hb0)).kt).below x.same)).cell]; rfl
    have c0 := fun e : Ext w0 => CH.out e.at_
    simp only [pick, List.getElem?_toArray, List.getElem?_cons_succ, List.getElem?_cons_zero, Option.toList_some, List.cons_append, List.nil_append]
    repeat (first | (go_big_quiet_want; refine quiet_load_one 116 _ rfl ⟨bt, 0, none⟩ rfl _ yt _ Tryz.underlying116 rfl ?_; go_big_quiet_on; simp only [Act.put, List.setIfInBounds_toArray, List.set_cons_zero, List.set_cons_succ]) | go_big_quiet_step ((go_at_call 78; with_reducible exact Calls.ext (c0 _))))
    exact wpQuiet_nil rfl
  refine FlowB.AlChk.one rfl (fun b => .pointer (some ⟨b, 0, none⟩)) (.cells (byteCells 32 []) 25 (0, 0)) rfl (st_butIn_q _ (by simp only [World.size_alloc]; omega)) (fun w2 hb2 hF2 => by go_simp; rfl) ?_
  refine FlowB.AlChk.nil ?_
  refine FlowB.Walk.call rfl 107 #[.pointer (some ⟨bl, 0, none⟩), .pointer (some ⟨bw, 0, none⟩)] (fun v _ => v = .agg (O.map (Value.int .u8)).toArray) (fun _ w' => Blk w' bl #[.int .i64 (left - 1)] 3) (fun _ _ _ _ h _ => h) (fun _ _ _ h k => h.below k) rfl (fun w1 hb1 hF1 hG1 => ⟨by go_simp, ?_⟩) ?_
  · refine (CT.out w1 (HE.out.but Kl.out (but_of_in hb1)) hG1).mono ?_
    rintro e w2 ⟨rfl, b2, k2⟩
    exact ⟨_, rfl, FlowB.ButIn.of_but b2 (by simp), rfl, k2⟩
  rintro v1 w1 hb1 hF1 rfl
  apply Exists.intro
  refine ⟨fun w2 hb2 hF2 => wpQuiet_nil rfl, ?_⟩
  refine FlowB.AlChk.nil ?_
  refine FlowB.Walk.blk rfl (fun b => .pointer (some ⟨b, 0, none⟩)) (.cells (byteCells 32 []) 25 (0, 0)) (by simp) ?_
  intro b9 wz hbz_ hFz hge9 _
  apply Exists.intro
  refine ⟨fun w2 hb2 hF2 => wpQuiet_nil rfl, ?_⟩
  refine FlowB.AlChk.nil ?_
  refine FlowB.Walk.fin fun w3 h3 hF3 hG3 => ?_
  simp only [List.drop_succ_cons, List.drop_zero]
  have HB3 := hid (but_of_in h3)
  have K93 := hid (show Blk w3 b9 (byteCells 32 []) 25 from hF3.2)
  have Kl3 := hid (show Blk w3 bl #[.int .i64 (left - 1)] 3 from hG3)
  rw [← Hbs.out] at hge9
  have Kr13 := hid (HB3.out.blk Kr1.out (by omega))
  have Kr23 := hid (HB3.out.blk Kr2.out (by omega))
  clear h3 hF3 hG3 hbz_ hFz
  go_wp2_with (
        refine wpList_store_blk rfl 25 _ _ rfl b9 (O.map (Value.int .u8)).toArray rfl rfl _ 25 K93.out 32 size_digest zsize HO.out.size (ints_one _ _) ?_
        intro w4 hb4 hk4
        have HB4 := hid (But.fresh HB3.out hb4 (by rw [← Hbs.out]; omega))
        have K94 := hid hk4
        have Kl4 := hid (hb4.blk Kl3.out (by omega))
        have Kr14 := hid (hb4.blk Kr13.out (by omega))
        have Kr24 := hid (hb4.blk Kr23.out (by omega))
        have HE4 := hid (HE.out.but Kl.out HB4.out)
        have hs94 := K94.out.lt
        have cg4 : w4.cell? ⟨bs, 0, none⟩ = some (.func (.func 77) #[] #[.pointer (some ⟨ba, 0, none⟩), .pointer (some ⟨bt, 0, none⟩), .pointer (some ⟨bs, 0, none⟩)]) := by rw [HE4.out.ka.cell]; rfl
        clear hb4 hk4)
  refine (CA.out w4 HE4.out Kl4.out).mono ?_
  rintro e w5 ⟨rfl, b5, k5⟩
  have HB5 := hid (But.trans HB4.out b5)
  have Kl5 := hid k5
  have Kr15 := hid (b5.blk Kr14.out (by omega))
  have Kr25 := hid (b5.blk Kr24.out (by omega))
  have K95 := hid (b5.blk K94.out (by omega))
  have hs5 := K95.out.lt
  have hs5b := Kr25.out.lt
  have hs5c := Kl5.out.lt
  clear b5 k5
  go_wp2_with (first
     | (
        refine wpList_store_blk rfl 25 _ _ rfl (w5.heap.size) (R1.map (Value.int .u8)).toArray rfl rfl _ 25 ((Blk.new rfl (byteCells 32 []) _).old _) 32 size_digest zsize HR1.out.size (ints_one _ _) ?_
        intro w6 hb6 hk6
        have h6 := hb6.below (((Below.refl w5.heap.size w5).alloc (Nat.le_refl _) _).alloc (by simp only [World.size_alloc]; omega) _) (by simp only [World.size_alloc]; omega) (Nat.le_refl _)
        have H6 := hid h6
        have Ku6 := hid hk6
        have Kv6 := hid (hb6.blk (Blk.new (n := w5.heap.size + 1) (by simp only [World.size_alloc]) (byteCells 32 []) 25) (by omega))
        clear hb6 hk6 h6)
     | (
        refine wpList_store_blk rfl 25 _ _ rfl (w5.heap.size + 1) (R2.map (Value.int .u8)).toArray rfl rfl _ 25 Kv6.out 32 size_digest zsize HR2.out.size (ints_one _ _) ?_
        intro w7 hb7 hk7
        have h7 := hb7.below H6.out H6.out.size (by omega)
        have HC7 := hid (But.trans (But.of Hb.out) (But.trans HB5.out (But.of h7)))
        have Kuw7 := hid (hb7.blk Ku6.out (by omega))
        have Kvw7 := hid hk7
        have Kr1w7 := hid (Kr15.out.below h7)
        have Kr2w7 := hid (Kr25.out.below h7)
        have Kow7 := hid (K95.out.below h7)
        have Klw7 := hid (Kl5.out.below h7)
        clear hb7 hk7 h7))
  simp only [Act.put]
  refine FlowB.wp_region_butIn [w.heap.size, w.heap.size + 1] (fun wz => Blk wz (w.heap.size) #[.int .u8 0, .int .u8 0, .int .u8 0, .int .u8 0, .int .u8 0, .int .u8 0, .int .u8 0, .int .u8 0, .int .u8 0, .int .u8 0, .int .u8 0, .int .u8 0, .int .u8 0, .int .u8 0, .int .u8 0, .int .u8 0, .int .u8 0, .int .u8 0, .int .u8 0, .int .u8 0, .int .u8 0, .int .u8 0, .int .u8 0, .int .u8 0, .int .u8 0, .int .u8 0, .int .u8 0, .int .u8 0, .int .u8 0, .int .u8 0, .int .u8 0, .int .u8 0] 25 ∧ Blk wz (w.heap.size + 1) #[.int .u8 0, .int .u8 0, .int .u8 0, .int .u8 0, .int .u8 0, .int .u8 0, .int .u8 0, .int .u8 0, .int .u8 0, .int .u8 0, .int .u8 0, .int .u8 0, .int .u8 0, .int .u8 0, .int .u8 0, .int .u8 0, .int .u8 0, .int .u8 0, .int .u8 0, .int .u8 0, .int .u8 0, .int .u8 0, .int .u8 0, .int .u8 0, .int .u8 0, .int .u8 0, .int .u8 0, .int .u8 0, .int .u8 0, .int .u8 0, .int .u8 0, .int .u8 0] 25) 6 [0, 1, 2, 3] [] [(.c 4, [], []), (.c 5, [], [])] (by kernel_rfl) (by kernel_rfl) ⟨Kr1w7.out, Kr2w7.out⟩ (fun _ _ h hb => ⟨h.1.below hb, h.2.below hb⟩) ?_
  apply Exists.intro
  refine ⟨fun w0 hb0 hF0 => ?_, ?_⟩
  · skip
    have x0 : ∀ w', (∃ x : Ext w0, w' = x.at_) → ∃ T, Blk w' (w5.heap.size) (R1.map (Value.int .u8)).toArray T := fun w' ⟨x, hx⟩ => ⟨_, hx ▸ (hb0.blk Kuw7.out (by simp only [List.mem_cons, List.not_mem_nil, or_false]; omega)).below x.same⟩
    have x1 : ∀ w', (∃ x : Ext w0, w' = x.at_) → ∃ T, Blk w' (w5.heap.size + 1) (R2.map (Value.int .u8)).toArray T := fun w' ⟨x, hx⟩ => ⟨_, hx ▸ (hb0.blk Kvw7.out (by simp only [List.mem_cons, List.not_mem_nil, or_false]; omega)).below x.same⟩
    have x2 : ∀ w', (∃ x : Ext w0, w' = x.at_) → ∃ T, Blk w' (b9) (O.map (Value.int .u8)).toArray T := fun w' ⟨x, hx⟩ => ⟨_, hx ▸ (hb0.blk Kow7.out (by simp only [List.mem_cons, List.not_mem_nil, or_false]; omega)).below x.same⟩
    have c0 := fun e : Ext w0 => CN.out e.at_ ((HE0.out.but Kl0.out (But.freshIn HC7.out hb0 (by simp only [List.mem_cons, List.not_mem_nil, or_false, forall_eq_or_imp, forall_eq]; omega))).tab.below e.same)
    simp only [pick, List.getElem?_toArray, List.getElem?_cons_succ, List.getElem?_cons_zero, Option.toList_some, List.cons_append, List.nil_append]
    repeat (first | (go_big_quiet_want; refine quiet_load_blk 25 _ rfl (w5.heap.size) rfl _ x0 _ Tryz.underlying25 rfl 32 size_digest HR1.out.size ?_; go_big_quiet_on; simp only [Act.put, List.setIfInBounds_toArray, List.set_cons_zero, List.set_cons_succ]) | (go_big_quiet_want; refine quiet_load_blk 25 _ rfl (w5.heap.size + 1) rfl _ x1 _ Tryz.underlying25 rfl 32 size_digest HR2.out.size ?_; go_big_quiet_on; simp only [Act.put, List.setIfInBounds_toArray, List.set_cons_zero, List.set_cons_succ]) | (go_big_quiet_want; refine quiet_load_blk 25 _ rfl (b9) rfl _ x2 _ Tryz.underlying25 rfl 32 size_digest HO.out.size ?_; go_big_quiet_on; simp only [Act.put, List.setIfInBounds_toArray, List.set_cons_zero, List.set_cons_succ]) | go_big_quiet_step (first | (go_at_call 79; with_reducible exact Calls.ext (c0 _))))
    exact wpQuiet_nil rfl
  refine FlowB.AlChk.nil ?_
  refine FlowB.Walk.skips rfl (fun wz => Blk wz (w.heap.size) (R1.map (Value.int .u8)).toArray 25 ∧ Blk wz (w.heap.size + 1) #[.int .u8 0, .int .u8 0, .int .u8 0, .int .u8 0, .int .u8 0, .int .u8 0, .int .u8 0, .int .u8 0, .int .u8 0, .int .u8 0, .int .u8 0, .int .u8 0, .int .u8 0, .int .u8 0, .int .u8 0, .int .u8 0, .int .u8 0, .int .u8 0, .int .u8 0, .int .u8 0, .int .u8 0, .int .u8 0, .int .u8 0, .int .u8 0, .int .u8 0, .int .u8 0, .int .u8 0, .int .u8 0, .int .u8 0, .int .u8 0, .int .u8 0, .int .u8 0] 25) (fun _ _ h hb => ⟨h.1.below hb, h.2.below hb⟩) rfl (fun w1 hb1 hF1 hG1 => ?_) ?_
  · exact FlowB.store_skips 25 _ _ rfl (w.heap.size) (R1.map (Value.int .u8)).toArray rfl rfl _ 25 hG1.1 32 size_digest rfl HR1.out.size (ints_one _ _) (by simp) (fun w2 h2 h3 => ⟨h3, h2.blk hG1.2 (by omega)⟩)
  intro w1 hb1 hF1
  apply Exists.intro
  refine ⟨fun w2 hb2 hF2 => wpQuiet_nil rfl, ?_⟩
  refine FlowB.AlChk.nil ?_
  refine FlowB.Walk.skips rfl (fun wz => Blk wz (w.heap.size) (R1.map (Value.int .u8)).toArray 25 ∧ Blk wz (w.heap.size + 1) (X9.map (Value.int .u8)).toArray 25) (fun _ _ h hb => ⟨h.1.below hb, h.2.below hb⟩) rfl (fun w1 hb1 hF1 hG1 => ?_) ?_
  · exact FlowB.store_skips 25 _ _ rfl (w.heap.size + 1) (X9.map (Value.int .u8)).toArray rfl rfl _ 25 hG1.2 32 size_digest rfl HX9.out.size (ints_one _ _) (by simp) (fun w2 h2 h3 => ⟨h2.blk hG1.1 (by omega), h3⟩)
  intro w1 hb1 hF1
  apply Exists.intro
  refine ⟨fun w2 hb2 hF2 => wpQuiet_nil rfl, ?_⟩
  refine FlowB.AlChk.nil ?_
  refine FlowB.Walk.fin fun w1 hw1 _ hGw1 => ?_
  simp only [List.drop_succ_cons, List.drop_zero]
  have HIw1 := hid hw1
  have HGw1 := hid hGw1
  clear hw1 hGw1
  go_wp2_with fail
  exact bodyPost_ret (v := .tuple #[.agg (R1.map (Value.int .u8)).toArray, .agg (X9.map (Value.int .u8)).toArray]) (results_blk2 Tryz.results77 _ (w.heap.size) (w.heap.size + 1) rfl rfl _ _ 25 HGw1.out.1 HGw1.out.2 _ Tryz.underlying25 rfl 32 size_digest HR1.out.size HX9.out.size) rfl ⟨rfl, (But.freshIn HC7.out HIw1.out (by simp only [List.mem_cons, List.not_mem_nil, or_false, forall_eq_or_imp, forall_eq]; omega)), (HIw1.out.blk Klw7.out (by simp only [List.mem_cons, List.not_mem_nil, or_false]; omega))⟩
set_option maxHeartbeats 4000000 in
theorem gro_r (m n k : Nat) (cut : Bool) (left : Int) (ba bt bs bl bw : Nat) (A : List Int) (ya : Option Addr) (yn yc : Nat) (ds : List (List Int)) (w : World) (he : GEnv w ba bt bs bl bw A ya yn yc ds) (kl : Blk w bl #[.int .i64 left] 3) (hmn : m < n) (hn : 2 ≤ n) (hn2 : n ≤ 200) (hkk : halfN n = k) (hik : ¬ m ≤ k) (hlo : -1000 ≤ left) (hhi : left ≤ yn) (hyn : yn ≤ 1000000)
    (R1 R2 : List Int) (L2 : Int) (hR1 : Dg R1) (hR2 : Dg R2) (ca : ∀ W : World, GEnv W ba bt bs bl bw A ya yn yc ds → Blk W bl #[.int .i64 (left - 1)] 3 → Calls Tryz.prog 77 #[.int .i64 ((m : Int) - (k : Int)), .int .i64 ((n : Int) - (k : Int)), .bool true, .pointer (some ⟨ba, 0, none⟩), .pointer (some ⟨bt, 0, none⟩), .pointer (some ⟨bs, 0, none⟩)] W fun e w' => e = .returned (.tuple #[.agg (R1.map (Value.int .u8)).toArray, .agg (R2.map (Value.int .u8)).toArray]) ∧ But bl W w' ∧ Blk w' bl #[.int .i64 L2] 3) :
    Calls Tryz.prog 77 #[.int .i64 m, .int .i64 n, .bool cut, .pointer (some ⟨ba, 0, none⟩), .pointer (some ⟨bt, 0, none⟩), .pointer (some ⟨bs, 0, none⟩)] w fun e w' => e = .returned (.tuple #[.agg ((nodeL (takeZ ds left) R1).map (Value.int .u8)).toArray, .agg ((nodeL (takeZ ds left) R2).map (Value.int .u8)).toArray]) ∧ But bl w w' ∧ Blk w' bl #[.int .i64 L2] 3 := by
  obtain ⟨hk1, hk2⟩ := halfN_lt hn
  rw [hkk] at hk1 hk2
  have hmI : ¬ ((m : Int) = (n : Int)) := by omega
  have CH := hid (fun W : World => (lohalf_any n W hn (by omega)).mono (fun e w' (h : e = .returned (.int .i64 (halfN n : Int)) ∧ w' = W) => show e = .returned (.int .i64 (halfN n : Int)) ∧ Below W.heap.size W w' from ⟨h.1, by rw [h.2]; exact Below.refl _ _⟩))
  rw [hkk] at CH
  have CT := hid (fun (W : World) (h : GEnv W ba bt bs bl bw A ya yn yc ds) (k1 : Blk W bl #[.int .i64 left] 3) => gtake_any h k1 hlo hhi hyn)
  have CA := hid ca
  have hwl := he.way.length
  have HO := hid (Dg.take he.way.each (left := left) (by omega))
  have HR1 := hid hR1
  have HR2 := hid hR2
  generalize takeZ ds left = O at *
  have CN := hid (fun (W : World) (t : ShaTab W) => lonode_any O R1 W HO.out HR1.out t)
  have CM := hid (fun (W : World) (t : ShaTab W) => lonode_any O R2 W HO.out HR2.out t)
  have HX8 := hid (Dg.nodeL O R1)
  have HX9 := hid (Dg.nodeL O R2)
  generalize nodeL O R1 = X8 at *
  generalize nodeL O R2 = X9 at *
  have hikI : ¬ ((m : Int) ≤ k) := by omega
  have hw1 : wrap64 ((n : Int) - (k : Int)) = (n : Int) - (k : Int) := by unfold wrap64; omega
  have hw2 : wrap64 ((m : Int) - (k : Int)) = (m : Int) - (k : Int) := by unfold wrap64; omega
  clear ca hR1 hR2 hkk hwl
  have b1 := (Below.refl w.heap.size w).alloc (Nat.le_refl _) (.cells #[.int .u8 0, .int .u8 0, .int .u8 0, .int .u8 0, .int .u8 0, .int .u8 0, .int .u8 0, .int .u8 0, .int .u8 0, .int .u8 0, .int .u8 0, .int .u8 0, .int .u8 0, .int .u8 0, .int .u8 0, .int .u8 0, .int .u8 0, .int .u8 0, .int .u8 0, .int .u8 0, .int .u8 0, .int .u8 0, .int .u8 0, .int .u8 0, .int .u8 0, .int .u8 0, .int .u8 0, .int .u8 0, .int .u8 0, .int .u8 0, .int .u8 0, .int .u8 0] 25 (0, 0))
  have b2 := b1.alloc b1.size (.cells #[.int .u8 0, .int .u8 0, .int .u8 0, .int .u8 0, .int .u8 0, .int .u8 0, .int .u8 0, .int .u8 0, .int .u8 0, .int .u8 0, .int .u8 0, .int .u8 0, .int .u8 0, .int .u8 0, .int .u8 0, .int .u8 0, .int .u8 0, .int .u8 0, .int .u8 0, .int .u8 0, .int .u8 0, .int .u8 0, .int .u8 0, .int .u8 0, .int .u8 0, .int .u8 0, .int .u8 0, .int .u8 0, .int .u8 0, .int .u8 0, .int .u8 0, .int .u8 0] 25 (0, 0))
  have Kr1 := hid ((Blk.new (w := w) (n := w.heap.size) rfl #[.int .u8 0, .int .u8 0, .int .u8 0, .int .u8 0, .int .u8 0, .int .u8 0, .int .u8 0, .int .u8 0, .int .u8 0, .int .u8 0, .int .u8 0, .int .u8 0, .int .u8 0, .int .u8 0, .int .u8 0, .int .u8 0, .int .u8 0, .int .u8 0, .int .u8 0, .int .u8 0, .int .u8 0, .int .u8 0, .int .u8 0, .int .u8 0, .int .u8 0, .int .u8 0, .int .u8 0, .int .u8 0, .int .u8 0, .int .u8 0, .int .u8 0, .int .u8 0] 25).old (.cells #[.int .u8 0, .int .u8 0, .int .u8 0, .int .u8 0, .int .u8 0, .int .u8 0, .int .u8 0, .int .u8 0, .int .u8 0, .int .u8 0, .int .u8 0, .int .u8 0, .int .u8 0, .int .u8 0, .int .u8 0, .int .u8 0, .int .u8 0, .int .u8 0, .int .u8 0, .int .u8 0, .int .u8 0, .int .u8 0, .int .u8 0, .int .u8 0, .int .u8 0, .int .u8 0, .int .u8 0, .int .u8 0, .int .u8 0, .int .u8 0, .int .u8 0, .int .u8 0] 25 (0, 0)))
  have Kr2 := hid (Blk.new (w := (w.alloc (.cells #[.int .u8 0, .int .u8 0, .int .u8 0, .int .u8 0, .int .u8 0, .int .u8 0, .int .u8 0, .int .u8 0, .int .u8 0, .int .u8 0, .int .u8 0, .int .u8 0, .int .u8 0, .int .u8 0, .int .u8 0, .int .u8 0, .int .u8 0, .int .u8 0, .int .u8 0, .int .u8 0, .int .u8 0, .int .u8 0, .int .u8 0, .int .u8 0, .int .u8 0, .int .u8 0, .int .u8 0, .int .u8 0, .int .u8 0, .int .u8 0, .int .u8 0, .int .u8 0] 25 (0, 0)))) (n := w.heap.size + 1) (by simp only [World.size_alloc]) #[.int .u8 0, .int .u8 0, .int .u8 0, .int .u8 0, .int .u8 0, .int .u8 0, .int .u8 0, .int .u8 0, .int .u8 0, .int .u8 0, .int .u8 0, .int .u8 0, .int .u8 0, .int .u8 0, .int .u8 0, .int .u8 0, .int .u8 0, .int .u8 0, .int .u8 0, .int .u8 0, .int .u8 0, .int .u8 0, .int .u8 0, .int .u8 0, .int .u8 0, .int .u8 0, .int .u8 0, .int .u8 0, .int .u8 0, .int .u8 0, .int .u8 0, .int .u8 0] 25)
  have Hb := hid b2
  have hbz := b2.size
  have Hbs := hid (show w.heap.size + 1 + 1 = ((w.alloc (.cells #[.int .u8 0, .int .u8 0, .int .u8 0, .int .u8 0, .int .u8 0, .int .u8 0, .int .u8 0, .int .u8 0, .int .u8 0, .int .u8 0, .int .u8 0, .int .u8 0, .int .u8 0, .int .u8 0, .int .u8 0, .int .u8 0, .int .u8 0, .int .u8 0, .int .u8 0, .int .u8 0, .int .u8 0, .int .u8 0, .int .u8 0, .int .u8 0, .int .u8 0, .int .u8 0, .int .u8 0, .int .u8 0, .int .u8 0, .int .u8 0, .int .u8 0, .int .u8 0] 25 (0, 0))).alloc (.cells #[.int .u8 0, .int .u8 0, .int .u8 0, .int .u8 0, .int .u8 0, .int .u8 0, .int .u8 0, .int .u8 0, .int .u8 0, .int .u8 0, .int .u8 0, .int .u8 0, .int .u8 0, .int .u8 0, .int .u8 0, .int .u8 0, .int .u8 0, .int .u8 0, .int .u8 0, .int .u8 0, .int .u8 0, .int .u8 0, .int .u8 0, .int .u8 0, .int .u8 0, .int .u8 0, .int .u8 0, .int .u8 0, .int .u8 0, .int .u8 0, .int .u8 0, .int .u8 0] 25 (0, 0))).heap.size by simp only [World.size_alloc])
  clear b1 b2 
  have HE0 := hid he
  have Kl0 := hid kl
  have HE := hid (he.but kl (But.of Hb.out))
  have Kl := hid (kl.below Hb.out)
  have hbl := kl.lt
  have hbA := he.kb.lt
  have hllt := Kl.out.lt
  clear he kl
  go_enter Tryz.func77, Tryz.ntmps77
  go_wp2_with fail
  refine FlowB.wp_region_butIn [bl] (fun wz => Blk wz bl #[.int .i64 left] 3) 5 [0, 1, 2] [4] [(.c 3, [], []), (.b 4, [], [])] (by kernel_rfl) (by kernel_rfl) Kl.out (fun _ _ h hb => h.below hb) ?_
  apply Exists.intro
  refine ⟨fun w0 hb0 hF0 => ?_, ?_⟩
  · skip
    have yt : ∀ w', (∃ x : Ext w0, w' = x.at_) → w'.cell? ⟨bt, 0, none⟩ = some (.func (.func 107) #[] #[.pointer (some ⟨bl, 0, none⟩), .pointer (some ⟨bw, 0, none⟩)]) := fun w' ⟨x, hx⟩ => by rw [hx, ((((HE.out.but Kl.out (but_of_in hb0)).kt).below x.same)).cell]; rfl
    have c0 := fun e : Ext w0 => CH.out e.at_
    simp only [pick, List.getElem?_toArray, List.getElem?_cons_succ, List.getElem?_cons_zero, Option.toList_some, List.cons_append, List.nil_append]
    repeat (first | (go_big_quiet_want; refine quiet_load_one 116 _ rfl ⟨bt, 0, none⟩ rfl _ yt _ Tryz.underlying116 rfl ?_; go_big_quiet_on; simp only [Act.put, List.setIfInBounds_toArray, List.set_cons_zero, List.set_cons_succ]) | go_big_quiet_step ((go_at_call 78; with_reducible exact Calls.ext (c0 _))))
    exact wpQuiet_nil rfl
  refine FlowB.AlChk.one rfl (fun b => .pointer (some ⟨b, 0, none⟩)) (.cells (byteCells 32 []) 25 (0, 0)) rfl (st_butIn_q _ (by simp only [World.size_alloc]; omega)) (fun w2 hb2 hF2 => by go_simp; rfl) ?_
  refine FlowB.AlChk.nil ?_
  refine FlowB.Walk.call rfl 107 #[.pointer (some ⟨bl, 0, none⟩), .pointer (some ⟨bw, 0, none⟩)] (fun v _ => v = .agg (O.map (Value.int .u8)).toArray) (fun _ w' => Blk w' bl #[.int .i64 (left - 1)] 3) (fun _ _ _ _ h _ => h) (fun _ _ _ h k => h.below k) rfl (fun w1 hb1 hF1 hG1 => ⟨by go_simp, ?_⟩) ?_
  · refine (CT.out w1 (HE.out.but Kl.out (but_of_in hb1)) hG1).mono ?_
    rintro e w2 ⟨rfl, b2, k2⟩
    exact ⟨_, rfl, FlowB.ButIn.of_but b2 (by simp), rfl, k2⟩
  rintro v1 w1 hb1 hF1 rfl
  apply Exists.intro
  refine ⟨fun w2 hb2 hF2 => wpQuiet_nil rfl, ?_⟩
  refine FlowB.AlChk.nil ?_
  refine FlowB.Walk.blk rfl (fun b => .pointer (some ⟨b, 0, none⟩)) (.cells (byteCells 32 []) 25 (0, 0)) (by simp) ?_
  intro b9 wz hbz_ hFz hge9 _
  apply Exists.intro
  refine ⟨fun w2 hb2 hF2 => wpQuiet_nil rfl, ?_⟩
  refine FlowB.AlChk.nil ?_
  refine FlowB.Walk.fin fun w3 h3 hF3 hG3 => ?_
  simp only [List.drop_succ_cons, List.drop_zero]
  have HB3 := hid (but_of_in h3)
  have K93 := hid (show Blk w3 b9 (byteCells 32 []) 25 from hF3.2)
  have Kl3 := hid (show Blk w3 bl #[.int .i64 (left - 1)] 3 from hG3)
  rw [← Hbs.out] at hge9
  have Kr13 := hid (HB3.out.blk Kr1.out (by omega))
  have Kr23 := hid (HB3.out.blk Kr2.out (by omega))
  clear h3 hF3 hG3 hbz_ hFz
  go_wp2_with (
        refine wpList_store_blk rfl 25 _ _ rfl b9 (O.map (Value.int .u8)).toArray rfl rfl _ 25 K93.out 32 size_digest zsize HO.out.size (ints_one _ _) ?_
        intro w4 hb4 hk4
        have HB4 := hid (But.fresh HB3.out hb4 (by rw [← Hbs.out]; omega))
        have K94 := hid hk4
        have Kl4 := hid (hb4.blk Kl3.out (by omega))
        have Kr14 := hid (hb4.blk Kr13.out (by omega))
        have Kr24 := hid (hb4.blk Kr23.out (by omega))
        have HE4 := hid (HE.out.but Kl.out HB4.out)
        have hs94 := K94.out.lt
        have cg4 : w4.cell? ⟨bs, 0, none⟩ = some (.func (.func 77) #[] #[.pointer (some ⟨ba, 0, none⟩), .pointer (some ⟨bt, 0, none⟩), .pointer (some ⟨bs, 0, none⟩)]) := by rw [HE4.out.ka.cell]; rfl
        clear hb4 hk4)
  skip
  refine (CA.out w4 HE4.out Kl4.out).mono ?_
  rintro e w5 ⟨rfl, b5, k5⟩
  have HB5 := hid (But.trans HB4.out b5)
  have Kl5 := hid k5
  have Kr15 := hid (b5.blk Kr14.out (by omega))
  have Kr25 := hid (b5.blk Kr24.out (by omega))
  have K95 := hid (b5.blk K94.out (by omega))
  have hs5 := K95.out.lt
  have hs5b := Kr25.out.lt
  have hs5c := Kl5.out.lt
  clear b5 k5
  go_wp2_with (first
     | (
        refine wpList_store_blk rfl 25 _ _ rfl (w5.heap.size) (R1.map (Value.int .u8)).toArray rfl rfl _ 25 ((Blk.new rfl (byteCells 32 []) _).old _) 32 size_digest zsize HR1.out.size (ints_one _ _) ?_
        intro w6 hb6 hk6
        have h6 := hb6.below (((Below.refl w5.heap.size w5).alloc (Nat.le_refl _) _).alloc (by simp only [World.size_alloc]; omega) _) (by simp only [World.size_alloc]; omega) (Nat.le_refl _)
        have H6 := hid h6
        have Ku6 := hid hk6
        have Kv6 := hid (hb6.blk (Blk.new (n := w5.heap.size + 1) (by simp only [World.size_alloc]) (byteCells 32 []) 25) (by omega))
        clear hb6 hk6 h6)
     | (
        refine wpList_store_blk rfl 25 _ _ rfl (w5.heap.size + 1) (R2.map (Value.int .u8)).toArray rfl rfl _ 25 Kv6.out 32 size_digest zsize HR2.out.size (ints_one _ _) ?_
        intro w7 hb7 hk7
        have h7 := hb7.below H6.out H6.out.size (by omega)
        have HC7 := hid (But.trans (But.of Hb.out) (But.trans HB5.out (But.of h7)))
        have Kuw7 := hid (hb7.blk Ku6.out (by omega))
        have Kvw7 := hid hk7
        have Kr1w7 := hid (Kr15.out.below h7)
        have Kr2w7 := hid (Kr25.out.below h7)
        have Kow7 := hid (K95.out.below h7)
        have Klw7 := hid (Kl5.out.below h7)
        clear hb7 hk7 h7))
  simp only [Act.put]
  refine FlowB.wp_region_butIn [w.heap.size, w.heap.size + 1] (fun wz => Blk wz (w.heap.size) #[.int .u8 0, .int .u8 0, .int .u8 0, .int .u8 0, .int .u8 0, .int .u8 0, .int .u8 0, .int .u8 0, .int .u8 0, .int .u8 0, .int .u8 0, .int .u8 0, .int .u8 0, .int .u8 0, .int .u8 0, .int .u8 0, .int .u8 0, .int .u8 0, .int .u8 0, .int .u8 0, .int .u8 0, .int .u8 0, .int .u8 0, .int .u8 0, .int .u8 0, .int .u8 0, .int .u8 0, .int .u8 0, .int .u8 0, .int .u8 0, .int .u8 0, .int .u8 0] 25 ∧ Blk wz (w.heap.size + 1) #[.int .u8 0, .int .u8 0, .int .u8 0, .int .u8 0, .int .u8 0, .int .u8 0, .int .u8 0, .int .u8 0, .int .u8 0, .int .u8 0, .int .u8 0, .int .u8 0, .int .u8 0, .int .u8 0, .int .u8 0, .int .u8 0, .int .u8 0, .int .u8 0, .int .u8 0, .int .u8 0, .int .u8 0, .int .u8 0, .int .u8 0, .int .u8 0, .int .u8 0, .int .u8 0, .int .u8 0, .int .u8 0, .int .u8 0, .int .u8 0, .int .u8 0, .int .u8 0] 25) 8 [0, 1, 2, 3, 4, 5] [] [(.c 6, [], []), (.c 7, [], [])] (by kernel_rfl) (by kernel_rfl) ⟨Kr1w7.out, Kr2w7.out⟩ (fun _ _ h hb => ⟨h.1.below hb, h.2.below hb⟩) ?_
  apply Exists.intro
  refine ⟨fun w0 hb0 hF0 => ?_, ?_⟩
  · skip
    have x0 : ∀ w', (∃ x : Ext w0, w' = x.at_) → ∃ T, Blk w' (w5.heap.size) (R1.map (Value.int .u8)).toArray T := fun w' ⟨x, hx⟩ => ⟨_, hx ▸ (hb0.blk Kuw7.out (by simp only [List.mem_cons, List.not_mem_nil, or_false]; omega)).below x.same⟩
    have x1 : ∀ w', (∃ x : Ext w0, w' = x.at_) → ∃ T, Blk w' (w5.heap.size + 1) (R2.map (Value.int .u8)).toArray T := fun w' ⟨x, hx⟩ => ⟨_, hx ▸ (hb0.blk Kvw7.out (by simp only [List.mem_cons, List.not_mem_nil, or_false]; omega)).below x.same⟩
    have x2 : ∀ w', (∃ x : Ext w0, w' = x.at_) → ∃ T, Blk w' (b9) (O.map (Value.int .u8)).toArray T := fun w' ⟨x, hx⟩ => ⟨_, hx ▸ (hb0.blk Kow7.out (by simp only [List.mem_cons, List.not_mem_nil, or_false]; omega)).below x.same⟩
    have c0 := fun e : Ext w0 => CN.out e.at_ ((HE0.out.but Kl0.out (But.freshIn HC7.out hb0 (by simp only [List.mem_cons, List.not_mem_nil, or_false, forall_eq_or_imp, forall_eq]; omega))).tab.below e.same)
    have c1 := fun e : Ext w0 => CM.out e.at_ ((HE0.out.but Kl0.out (But.freshIn HC7.out hb0 (by simp only [List.mem_cons, List.not_mem_nil, or_false, forall_eq_or_imp, forall_eq]; omega))).tab.below e.same)
    simp only [pick, List.getElem?_toArray, List.getElem?_cons_succ, List.getElem?_cons_zero, Option.toList_some, List.cons_append, List.nil_append]
    repeat (first | (go_big_quiet_want; refine quiet_load_blk 25 _ rfl (w5.heap.size) rfl _ x0 _ Tryz.underlying25 rfl 32 size_digest HR1.out.size ?_; go_big_quiet_on; simp only [Act.put, List.setIfInBounds_toArray, List.set_cons_zero, List.set_cons_succ]) | (go_big_quiet_want; refine quiet_load_blk 25 _ rfl (w5.heap.size + 1) rfl _ x1 _ Tryz.underlying25 rfl 32 size_digest HR2.out.size ?_; go_big_quiet_on; simp only [Act.put, List.setIfInBounds_toArray, List.set_cons_zero, List.set_cons_succ]) | (go_big_quiet_want; refine quiet_load_blk 25 _ rfl (b9) rfl _ x2 _ Tryz.underlying25 rfl 32 size_digest HO.out.size ?_; go_big_quiet_on; simp only [Act.put, List.setIfInBounds_toArray, List.set_cons_zero, List.set_cons_succ]) | go_big_quiet_step (first | (go_at_call 79; with_reducible exact Calls.ext (c0 _)) | (go_at_call 79; with_reducible exact Calls.ext (c1 _))))
    exact wpQuiet_nil rfl
  refine FlowB.AlChk.nil ?_
  refine FlowB.Walk.skips rfl (fun wz => Blk wz (w.heap.size) (X8.map (Value.int .u8)).toArray 25 ∧ Blk wz (w.heap.size + 1) #[.int .u8 0, .int .u8 0, .int .u8 0, .int .u8 0, .int .u8 0, .int .u8 0, .int .u8 0, .int .u8 0, .int .u8 0, .int .u8 0, .int .u8 0, .int .u8 0, .int .u8 0, .int .u8 0, .int .u8 0, .int .u8 0, .int .u8 0, .int .u8 0, .int .u8 0, .int .u8 0, .int .u8 0, .int .u8 0, .int .u8 0, .int .u8 0, .int .u8 0, .int .u8 0, .int .u8 0, .int .u8 0, .int .u8 0, .int .u8 0, .int .u8 0, .int .u8 0] 25) (fun _ _ h hb => ⟨h.1.below hb, h.2.below hb⟩) rfl (fun w1 hb1 hF1 hG1 => ?_) ?_
  · exact FlowB.store_skips 25 _ _ rfl (w.heap.size) (X8.map (Value.int .u8)).toArray rfl rfl _ 25 hG1.1 32 size_digest rfl HX8.out.size (ints_one _ _) (by simp) (fun w2 h2 h3 => ⟨h3, h2.blk hG1.2 (by omega)⟩)
  intro w1 hb1 hF1
  apply Exists.intro
  refine ⟨fun w2 hb2 hF2 => wpQuiet_nil rfl, ?_⟩
  refine FlowB.AlChk.nil ?_
  refine FlowB.Walk.skips rfl (fun wz => Blk wz (w.heap.size) (X8.map (Value.int .u8)).toArray 25 ∧ Blk wz (w.heap.size + 1) (X9.map (Value.int .u8)).toArray 25) (fun _ _ h hb => ⟨h.1.below hb, h.2.below hb⟩) rfl (fun w1 hb1 hF1 hG1 => ?_) ?_
  · exact FlowB.store_skips 25 _ _ rfl (w.heap.size + 1) (X9.map (Value.int .u8)).toArray rfl rfl _ 25 hG1.2 32 size_digest rfl HX9.out.size (ints_one _ _) (by simp) (fun w2 h2 h3 => ⟨h2.blk hG1.1 (by omega), h3⟩)
  intro w1 hb1 hF1
  apply Exists.intro
  refine ⟨fun w2 hb2 hF2 => wpQuiet_nil rfl, ?_⟩
  refine FlowB.AlChk.nil ?_
  refine FlowB.Walk.fin fun w1 hw1 _ hGw1 => ?_
  simp only [List.drop_succ_cons, List.drop_zero]
  have HIw1 := hid hw1
  have HGw1 := hid hGw1
  clear hw1 hGw1
  go_wp2_with fail
  exact bodyPost_ret (v := .tuple #[.agg (X8.map (Value.int .u8)).toArray, .agg (X9.map (Value.int .u8)).toArray]) (results_blk2 Tryz.results77 _ (w.heap.size) (w.heap.size + 1) rfl rfl _ _ 25 HGw1.out.1 HGw1.out.2 _ Tryz.underlying25 rfl 32 size_digest HX8.out.size HX9.out.size) rfl ⟨rfl, (But.freshIn HC7.out HIw1.out (by simp only [List.mem_cons, List.not_mem_nil, or_false, forall_eq_or_imp, forall_eq]; omega)), (HIw1.out.blk Klw7.out (by simp only [List.mem_cons, List.not_mem_nil, or_false]; omega))⟩
theorem Dg.groZ {A : List Int} {ds : List (List Int)} (hA : Dg A) (hd : ∀ d ∈ ds, Dg d) (f : Nat) : ∀ m n cut (left : Int), left ≤ ds.length → Dg (groZ f A m n cut ds left).1.1 ∧ Dg (groZ f A m n cut ds left).1.2 := by
  induction f with
  | zero => intro m n cut left _; exact ⟨hA, hA⟩
  | succ f ih =>
    intro m n cut left hl
    unfold Go.Proofs.YtkakoiaahgchmaaGreatDoor.groZ
    split
    · split
      · exact ⟨Dg.take hd hl, Dg.take hd hl⟩
      · exact ⟨hA, hA⟩
    · split
      · exact ⟨(ih _ _ _ _ (by omega)).1, Dg.nodeL _ _⟩
      · exact ⟨Dg.nodeL _ _, Dg.nodeL _ _⟩
set_option maxHeartbeats 4000000 in
theorem gro_any (f : Nat) : ∀ (m n : Nat) (cut : Bool) (left : Int) (ba bt bs bl bw : Nat) (A : List Int) (ya : Option Addr) (yn yc : Nat) (ds : List (List Int)) (w : World), GEnv w ba bt bs bl bw A ya yn yc ds → Blk w bl #[.int .i64 left] 3 → Dg A → 1 ≤ m → m ≤ n → n ≤ f → n ≤ 200 → (f : Int) - 1000 ≤ left → left ≤ yn → yn ≤ 1000000 →
    Calls Tryz.prog 77 #[.int .i64 m, .int .i64 n, .bool cut, .pointer (some ⟨ba, 0, none⟩), .pointer (some ⟨bt, 0, none⟩), .pointer (some ⟨bs, 0, none⟩)] w fun e w' => e = .returned (.tuple #[.agg ((groZ f A m n cut ds left).1.1.map (Value.int .u8)).toArray, .agg ((groZ f A m n cut ds left).1.2.map (Value.int .u8)).toArray]) ∧ But bl w w' ∧ Blk w' bl #[.int .i64 (groZ f A m n cut ds left).2] 3 := by
  induction f with
  | zero => intro m n cut left ba bt bs bl bw A ya yn yc ds w he kl hA h1 h2 h3; omega
  | succ f ih =>
    intro m n cut left ba bt bs bl bw A ya yn yc ds w he kl hA h1 h2 h3 h4 h5 h6 h7
    have hwl := he.way.length
    have hdd := he.way.each
    rcases Nat.eq_or_lt_of_le h2 with rfl | hlt
    · rw [groZ, if_pos rfl]
      cases cut with
      | false =>
        rw [if_neg (by simp)]
        exact gro_same (m : Int) left ba bt bs bl bw A ya yn yc ds w he kl hA
      | true =>
        rw [if_pos rfl]
        exact gro_cut (m : Int) left ba bt bs bl bw A ya yn yc ds w he kl hA (by omega) h6 h7
    · obtain ⟨hk1, hk2⟩ := halfN_lt (n := n) (by omega)
      rw [groZ, if_neg (by omega)]
      by_cases hik : m ≤ halfN n
      · rw [if_pos hik]
        have hg := Dg.groZ hA hdd f m (halfN n) cut (left - 1) (by omega)
        exact gro_l m n (halfN n) cut left ba bt bs bl bw A ya yn yc ds w he kl hlt (by omega) h4 rfl hik (by omega) h6 h7 _ _ _ hg.1 hg.2 (fun W hW kW => ih m (halfN n) cut (left - 1) ba bt bs bl bw A ya yn yc ds W hW kW hA h1 hik (by omega) (by omega) (by omega) (by omega) h7)
      · rw [if_neg hik]
        have hg := Dg.groZ hA hdd f (m - halfN n) (n - halfN n) true (left - 1) (by omega)
        exact gro_r m n (halfN n) cut left ba bt bs bl bw A ya yn yc ds w he kl hlt (by omega) h4 rfl hik (by omega) h6 h7 _ _ _ hg.1 hg.2 (fun W hW kW => by
          have := ih (m - halfN n) (n - halfN n) true (left - 1) ba bt bs bl bw A ya yn yc ds W hW kW hA (by omega) (by omega) (by omega) (by omega) (by omega) (by omega) h7
          rw [show ((n - halfN n : Nat) : Int) = (n : Int) - (halfN n : Int) by omega, show ((m - halfN n : Nat) : Int) = (m : Int) - (halfN n : Int) by omega] at this
          exact this)
end Go.Proofs.YtkakoiaahgchmaaGreatDoor
namespace Go.Proofs.YtkakoiaahgchmaaGreatDoor
set_option maxRecDepth 100000
open Go.ChangeShapes Go.WideShapes Go.ChangeAt Go.RowKit
theorem size_f101 : (Tryz.prog.info? 119).map (·.size) = some 1 := by kernel_rfl
set_option maxHeartbeats 4000000 in
theorem grows_noa (A B : List Int) (m n : Int) (ya : Option Addr) (yn yc : Nat) (w : World) (_hA : Dg A) (_hB : Dg B) (h : m < 1) :
    Calls Tryz.prog 34 #[.agg (A.map (Value.int .u8)).toArray, .int .i64 m, .agg (B.map (Value.int .u8)).toArray, .int .i64 n, .slice ya yn yc] w fun e w' => e = .returned (.bool false) ∧ Below w.heap.size w w' := by
  have b1 := (Below.refl w.heap.size w).alloc (Nat.le_refl _) (.cells (A.map (Value.int .u8)).toArray 25 (0, 0))
  have b2 := b1.alloc b1.size (.cells (B.map (Value.int .u8)).toArray 25 (0, 0))
  have Ka := hid ((Blk.new (w := w) (n := w.heap.size) rfl (A.map (Value.int .u8)).toArray 25).old (.cells (B.map (Value.int .u8)).toArray 25 (0, 0)))
  have Kb := hid (Blk.new (w := (w.alloc (.cells (A.map (Value.int .u8)).toArray 25 (0, 0)))) (n := w.heap.size + 1) (by simp only [World.size_alloc]) (B.map (Value.int .u8)).toArray 25)
  have Hb := hid b2
  have hbz := b2.size
  have Hbs := hid (show w.heap.size + 1 + 1 = ((w.alloc (.cells (A.map (Value.int .u8)).toArray 25 (0, 0))).alloc (.cells (B.map (Value.int .u8)).toArray 25 (0, 0))).heap.size by simp only [World.size_alloc])
  clear b1 b2 
  go_enter Tryz.func34, Tryz.ntmps34
  go_wp2_with fail
  go_returns
  exact ⟨rfl, Hb.out⟩
set_option maxHeartbeats 4000000 in
theorem grows_nob (A B : List Int) (m n : Int) (ya : Option Addr) (yn yc : Nat) (w : World) (_hA : Dg A) (_hB : Dg B) (h1 : ¬ m < 1) (h : n < m) :
    Calls Tryz.prog 34 #[.agg (A.map (Value.int .u8)).toArray, .int .i64 m, .agg (B.map (Value.int .u8)).toArray, .int .i64 n, .slice ya yn yc] w fun e w' => e = .returned (.bool false) ∧ Below w.heap.size w w' := by
  have b1 := (Below.refl w.heap.size w).alloc (Nat.le_refl _) (.cells (A.map (Value.int .u8)).toArray 25 (0, 0))
  have b2 := b1.alloc b1.size (.cells (B.map (Value.int .u8)).toArray 25 (0, 0))
  have Ka := hid ((Blk.new (w := w) (n := w.heap.size) rfl (A.map (Value.int .u8)).toArray 25).old (.cells (B.map (Value.int .u8)).toArray 25 (0, 0)))
  have Kb := hid (Blk.new (w := (w.alloc (.cells (A.map (Value.int .u8)).toArray 25 (0, 0)))) (n := w.heap.size + 1) (by simp only [World.size_alloc]) (B.map (Value.int .u8)).toArray 25)
  have Hb := hid b2
  have hbz := b2.size
  have Hbs := hid (show w.heap.size + 1 + 1 = ((w.alloc (.cells (A.map (Value.int .u8)).toArray 25 (0, 0))).alloc (.cells (B.map (Value.int .u8)).toArray 25 (0, 0))).heap.size by simp only [World.size_alloc])
  clear b1 b2 
  go_enter Tryz.func34, Tryz.ntmps34
  go_wp2_with fail
  go_returns
  exact ⟨rfl, Hb.out⟩
set_option maxHeartbeats 4000000 in
theorem grows_noc (A B : List Int) (m n : Int) (ya : Option Addr) (yn yc : Nat) (w : World) (_hA : Dg A) (_hB : Dg B) (h1 : ¬ m < 1) (h2 : ¬ n < m) (h : 200 < n) :
    Calls Tryz.prog 34 #[.agg (A.map (Value.int .u8)).toArray, .int .i64 m, .agg (B.map (Value.int .u8)).toArray, .int .i64 n, .slice ya yn yc] w fun e w' => e = .returned (.bool false) ∧ Below w.heap.size w w' := by
  have b1 := (Below.refl w.heap.size w).alloc (Nat.le_refl _) (.cells (A.map (Value.int .u8)).toArray 25 (0, 0))
  have b2 := b1.alloc b1.size (.cells (B.map (Value.int .u8)).toArray 25 (0, 0))
  have Ka := hid ((Blk.new (w := w) (n := w.heap.size) rfl (A.map (Value.int .u8)).toArray 25).old (.cells (B.map (Value.int .u8)).toArray 25 (0, 0)))
  have Kb := hid (Blk.new (w := (w.alloc (.cells (A.map (Value.int .u8)).toArray 25 (0, 0)))) (n := w.heap.size + 1) (by simp only [World.size_alloc]) (B.map (Value.int .u8)).toArray 25)
  have Hb := hid b2
  have hbz := b2.size
  have Hbs := hid (show w.heap.size + 1 + 1 = ((w.alloc (.cells (A.map (Value.int .u8)).toArray 25 (0, 0))).alloc (.cells (B.map (Value.int .u8)).toArray 25 (0, 0))).heap.size by simp only [World.size_alloc])
  clear b1 b2 
  go_enter Tryz.func34, Tryz.ntmps34
  go_wp2_with fail
  go_returns
  exact ⟨rfl, Hb.out⟩
theorem grows_bad (A B : List Int) (m n : Int) (ya : Option Addr) (yn yc : Nat) (w : World) (hA : Dg A) (hB : Dg B) (h : m < 1 ∨ n < m ∨ 200 < n) :
    Calls Tryz.prog 34 #[.agg (A.map (Value.int .u8)).toArray, .int .i64 m, .agg (B.map (Value.int .u8)).toArray, .int .i64 n, .slice ya yn yc] w fun e w' => e = .returned (.bool false) ∧ Below w.heap.size w w' := by
  by_cases h1 : m < 1
  · exact grows_noa A B m n ya yn yc w hA hB h1
  · by_cases h2 : n < m
    · exact grows_nob A B m n ya yn yc w hA hB h1 h2
    · exact grows_noc A B m n ya yn yc w hA hB h1 h2 (by omega)
set_option maxHeartbeats 4000000 in
theorem grows_good (A B : List Int) (m n : Nat) (ya : Option Addr) (yn yc : Nat) (ds : List (List Int)) (w : World) (hA : Dg A) (hB : Dg B) (hm1 : 1 ≤ m) (hmn : m ≤ n) (hn2 : n ≤ 200) (hW : DigsAt w ya yn yc ds) (hyn : yn ≤ 1000000) (tab : ShaTab w) :
    Calls Tryz.prog 34 #[.agg (A.map (Value.int .u8)).toArray, .int .i64 m, .agg (B.map (Value.int .u8)).toArray, .int .i64 n, .slice ya yn yc] w fun e w' => e = .returned (.bool (decide ((groZ n A m n false ds yn).2 = 0) && decide ((groZ n A m n false ds yn).1.1 = A) && decide ((groZ n A m n false ds yn).1.2 = B))) ∧ Below w.heap.size w w' := by
  have hI1 : ¬ ((m : Int) < 1) := by omega
  have hI2 : ¬ ((n : Int) < (m : Int)) := by omega
  have hI3 : ¬ ((200 : Int) < (n : Int)) := by omega
  have CT := hid (fun (W : World) (k : Nat) (hk : W.heap.size = k) => (hk ▸ taker_any ya yn yc W : Calls Tryz.prog 76 #[.slice ya yn yc] W fun e w' => e = .returned (.tuple #[.func (.func 107) #[] #[.pointer (some ⟨k + 1, 0, none⟩), .pointer (some ⟨k, 0, none⟩)], .func (.func 108) #[] #[.pointer (some ⟨k + 1, 0, none⟩)]]) ∧ Below W.heap.size W w' ∧ Blk w' (k + 1) #[.int .i64 yn] 3 ∧ Blk w' k #[.slice ya yn yc] 33))
  have CA := hid (fun (W : World) (ba bt bs bl bw : Nat) (h : GEnv W ba bt bs bl bw A ya yn yc ds) (k : Blk W bl #[.int .i64 (yn : Int)] 3) => gro_any n m n false (yn : Int) ba bt bs bl bw A ya yn yc ds W h k hA hm1 hmn (Nat.le_refl _) hn2 (by omega) (by omega) hyn)
  have hwl := hW.length
  have hG := Dg.groZ hA hW.each n m n false (yn : Int) (by omega)
  have HX1 := hid hG.1
  have HX2 := hid hG.2
  clear hG hwl
  generalize (groZ n A m n false ds yn).1.1 = X1 at *
  generalize (groZ n A m n false ds yn).1.2 = X2 at *
  generalize (groZ n A m n false ds yn).2 = L2 at *
  have b1 := (Below.refl w.heap.size w).alloc (Nat.le_refl _) (.cells (A.map (Value.int .u8)).toArray 25 (0, 0))
  have b2 := b1.alloc b1.size (.cells (B.map (Value.int .u8)).toArray 25 (0, 0))
  have Ka := hid ((Blk.new (w := w) (n := w.heap.size) rfl (A.map (Value.int .u8)).toArray 25).old (.cells (B.map (Value.int .u8)).toArray 25 (0, 0)))
  have Kb := hid (Blk.new (w := (w.alloc (.cells (A.map (Value.int .u8)).toArray 25 (0, 0)))) (n := w.heap.size + 1) (by simp only [World.size_alloc]) (B.map (Value.int .u8)).toArray 25)
  have Hb := hid b2
  have hbz := b2.size
  have Hbs := hid (show w.heap.size + 1 + 1 = ((w.alloc (.cells (A.map (Value.int .u8)).toArray 25 (0, 0))).alloc (.cells (B.map (Value.int .u8)).toArray 25 (0, 0))).heap.size by simp only [World.size_alloc])
  have Htab := hid tab
  clear b1 b2 tab 
  go_enter Tryz.func34, Tryz.ntmps34
  go_wp2_with fail
  refine (CT.out _ (w.heap.size + 1 + 1) (by simp only [World.size_alloc])).mono ?_
  rintro e w1 ⟨rfl, b1, kl1, kw1⟩
  have Kl1 := hid kl1
  have Kw1 := hid kw1
  have HBw1 := hid (Below.on Hb.out b1)
  have hsw1 := HBw1.out.size
  have Kaw1 := hid (Ka.out.below b1)
  have Kbw1 := hid (Kb.out.below b1)
  have hs11 : w.heap.size + 1 + 1 + 1 < w1.heap.size := kl1.lt
  clear b1 kl1 kw1
  go_wp2_with (first
     | (
        refine wpList_store_cell_q rfl 116 _ _ rfl (w1.heap.size) 0 (.func (.func 107) #[] #[.pointer (some ⟨w.heap.size + 1 + 1 + 1, 0, none⟩), .pointer (some ⟨w.heap.size + 1 + 1, 0, none⟩)]) rfl rfl rfl rfl #[.nilFunc] 116 (Blk.new rfl #[.nilFunc] 116) (by simp) size_f96 ?_
        intro w2 hb2 hk2
        have h2 := hb2.below ((Below.refl w1.heap.size w1).alloc (Nat.le_refl _) _) (by simp only [World.size_alloc]; omega) (Nat.le_refl _)
        have HB2 := hid (Below.on HBw1.out h2)
        have Kt2 := hid (show Blk w2 w1.heap.size #[.func (.func 107) #[] #[.pointer (some ⟨w.heap.size + 1 + 1 + 1, 0, none⟩), .pointer (some ⟨w.heap.size + 1 + 1, 0, none⟩)]] 116 from hk2)
        have Ka2 := hid (Kaw1.out.below h2)
        have Kb2 := hid (Kbw1.out.below h2)
        have Kl2 := hid (Kl1.out.below h2)
        have Kw2 := hid (Kw1.out.below h2)
        have hs2 := Kt2.out.lt
        clear hb2 hk2 h2)
     | (
        refine wpList_store_cell_q rfl 119 _ _ rfl (w2.heap.size) 0 (.func (.func 77) #[] #[.pointer (some ⟨w.heap.size, 0, none⟩), .pointer (some ⟨w1.heap.size, 0, none⟩), .pointer (some ⟨w2.heap.size, 0, none⟩)]) rfl rfl rfl rfl #[.nilFunc] 119 (Blk.new rfl #[.nilFunc] 119) (by simp) size_f101 ?_
        intro w3 hb3 hk3
        have h3 := hb3.below ((Below.refl w2.heap.size w2).alloc (Nat.le_refl _) _) (by simp only [World.size_alloc]; omega) (Nat.le_refl _)
        have HB3 := hid (Below.on HB2.out h3)
        have Kg3 := hid (show Blk w3 w2.heap.size #[.func (.func 77) #[] #[.pointer (some ⟨w.heap.size, 0, none⟩), .pointer (some ⟨w1.heap.size, 0, none⟩), .pointer (some ⟨w2.heap.size, 0, none⟩)]] 119 from hk3)
        have Ka3 := hid (Ka2.out.below h3)
        have Kb3 := hid (Kb2.out.below h3)
        have Kt3 := hid (Kt2.out.below h3)
        have Kl3 := hid (Kl2.out.below h3)
        have Kw3 := hid (Kw2.out.below h3)
        have HE3 := hid (GEnv.mk (w := w3) (ba := w.heap.size) (bt := w1.heap.size) (bs := w2.heap.size) (bl := w.heap.size + 1 + 1 + 1) (bw := w.heap.size + 1 + 1) Ka3.out Kt3.out Kg3.out Kw3.out (hW.below HB3.out) (Htab.out.below HB3.out) (by omega) (by omega) (by omega) (by omega))
        have ca3 : w3.cell? ⟨w2.heap.size, 0, none⟩ = some (.func (.func 77) #[] #[.pointer (some ⟨w.heap.size, 0, none⟩), .pointer (some ⟨w1.heap.size, 0, none⟩), .pointer (some ⟨w2.heap.size, 0, none⟩)]) := by rw [Kg3.out.cell]; rfl
        clear hb3 hk3 h3))
  refine (CA.out _ _ _ _ _ _ HE3.out Kl3.out).mono ?_
  rintro e w4 ⟨rfl, b4, k4⟩
  have HB4 := hid (b4.below HB3.out HB3.out.size (by omega))
  have Ka4 := hid (b4.blk Ka3.out (by omega))
  have Kb4 := hid (b4.blk Kb3.out (by omega))
  have Kl4 := hid k4
  have hs4 := b4.size
  clear b4 k4
  go_wp2_with (first
     | (
        refine wpList_store_blk rfl 25 _ _ rfl (w4.heap.size) (X1.map (Value.int .u8)).toArray rfl rfl _ 25 ((Blk.new rfl (byteCells 32 []) _).old _) 32 size_digest zsize HX1.out.size (ints_one _ _) ?_
        intro w5 hb5 hk5
        have h5 := hb5.below (((Below.refl w4.heap.size w4).alloc (Nat.le_refl _) _).alloc (by simp only [World.size_alloc]; omega) _) (by simp only [World.size_alloc]; omega) (Nat.le_refl _)
        have H5 := hid h5
        have Ku5 := hid hk5
        have Kv5 := hid (hb5.blk (Blk.new (n := w4.heap.size + 1) (by simp only [World.size_alloc]) (byteCells 32 []) 25) (by omega))
        clear hb5 hk5 h5)
     | (
        refine wpList_store_blk rfl 25 _ _ rfl (w4.heap.size + 1) (X2.map (Value.int .u8)).toArray rfl rfl _ 25 Kv5.out 32 size_digest zsize HX2.out.size (ints_one _ _) ?_
        intro w6 hb6 hk6
        have h6 := hb6.below H5.out H5.out.size (by omega)
        have HB6 := hid (Below.on HB4.out h6)
        have Ku6 := hid (hb6.blk Ku5.out (by omega))
        have Kv6 := hid hk6
        have Ka6 := hid (Ka4.out.below h6)
        have Kb6 := hid (Kb4.out.below h6)
        have Kl6 := hid (Kl4.out.below h6)
        clear hb6 hk6 h6))
  refine (done_any (w.heap.size + 1 + 1 + 1) L2 _ Kl6.out).mono ?_
  rintro e wz ⟨rfl, hwz⟩
  have hwz := hwz.symm
  subst hwz
  by_cases hz : L2 = 0
  · rw [decide_eq_true hz]
    by_cases hx : X1 = A
    · have q1 := fun W => eqD X1 A HX1.out.len hA.len W
      have q2 := fun W => eqD X2 B HX2.out.len hB.len W
      rw [decide_eq_true hx] at q1
      have HXX := hid hx
      clear hx
      go_wp2_with (first | (refine wpList_load_blk_if (by first | rfl | go_simp) 25 _ rfl (w4.heap.size) rfl _ 25 Ku6.out _ Tryz.underlying25 rfl 32 size_digest HX1.out.size ?_) | (refine wpList_load_blk_if (by first | rfl | go_simp) 25 _ rfl (w.heap.size) rfl _ 25 Ka6.out _ Tryz.underlying25 rfl 32 size_digest hA.size ?_) | (refine wpList_load_blk_if (by first | rfl | go_simp) 25 _ rfl (w4.heap.size + 1) rfl _ 25 Kv6.out _ Tryz.underlying25 rfl 32 size_digest HX2.out.size ?_) | (refine wpList_load_blk_if (by first | rfl | go_simp) 25 _ rfl (w.heap.size + 1) rfl _ 25 Kb6.out _ Tryz.underlying25 rfl 32 size_digest hB.size ?_))
      go_returns
      exact ⟨by first | rfl | simp [hz, HXX.out], HB6.out⟩
    · have q1 := fun W => eqD X1 A HX1.out.len hA.len W
      rw [decide_eq_false hx] at q1
      go_wp2_with (first | (refine wpList_load_blk_if (by first | rfl | go_simp) 25 _ rfl (w4.heap.size) rfl _ 25 Ku6.out _ Tryz.underlying25 rfl 32 size_digest HX1.out.size ?_) | (refine wpList_load_blk_if (by first | rfl | go_simp) 25 _ rfl (w.heap.size) rfl _ 25 Ka6.out _ Tryz.underlying25 rfl 32 size_digest hA.size ?_))
      go_returns
      exact ⟨by first | rfl | simp [hz, hx], HB6.out⟩
  · rw [decide_eq_false hz]
    go_wp2_with (fail)
    go_returns
    exact ⟨by first | rfl | simp [hz], HB6.out⟩
end Go.Proofs.YtkakoiaahgchmaaGreatDoor
namespace Go.Proofs.YtkakoiaahgchmaaGreatDoor
set_option maxRecDepth 100000
open Go.ChangeShapes Go.WideShapes Go.ChangeAt Go.RowKit
/-- Climbing from a beginning, as the reference does it: with the digests that are left. -/
def bothR : Nat → List Int → Nat → Nat → Bool → List (List Int) → (List Int × List Int) × Bool
  | 0, A, _, _, _, _ => ((A, A), false)
  | f + 1, A, m, n, cut, ds => if m = n then (if cut then (if ds.length = 1 then ((ds.getD 0 [], ds.getD 0 []), true) else ((A, A), false)) else ((A, A), decide (ds.length = 0)))
    else if ds.length = 0 then ((A, A), false)
    else if m ≤ halfN n then (((bothR f A m (halfN n) cut (ds.take (ds.length - 1))).1.1, nodeL (bothR f A m (halfN n) cut (ds.take (ds.length - 1))).1.2 (ds.getD (ds.length - 1) [])), (bothR f A m (halfN n) cut (ds.take (ds.length - 1))).2)
    else ((nodeL (ds.getD (ds.length - 1) []) (bothR f A (m - halfN n) (n - halfN n) true (ds.take (ds.length - 1))).1.1, nodeL (ds.getD (ds.length - 1) []) (bothR f A (m - halfN n) (n - halfN n) true (ds.take (ds.length - 1))).1.2), (bothR f A (m - halfN n) (n - halfN n) true (ds.take (ds.length - 1))).2)
theorem Dg.bothR {A : List Int} (hA : Dg A) (f : Nat) : ∀ (m n : Nat) (cut : Bool) (ds : List (List Int)), (∀ d ∈ ds, Dg d) → Dg (bothR f A m n cut ds).1.1 ∧ Dg (bothR f A m n cut ds).1.2 := by
  induction f with
  | zero => intro m n cut ds _; exact ⟨hA, hA⟩
  | succ f ih =>
    intro m n cut ds hd
    unfold Go.Proofs.YtkakoiaahgchmaaGreatDoor.bothR
    split
    · split
      · split
        · rename_i h
          have : Dg (ds.getD 0 []) := by
            rw [List.getD_eq_getElem?_getD, List.getElem?_eq_getElem (by omega)]
            exact hd _ (List.getElem_mem _)
          exact ⟨this, this⟩
        · exact ⟨hA, hA⟩
      · exact ⟨hA, hA⟩
    · split
      · exact ⟨hA, hA⟩
      · split
        · exact ⟨(ih _ _ _ _ (fun d hm => hd d (List.mem_of_mem_take hm))).1, Dg.nodeL _ _⟩
        · exact ⟨Dg.nodeL _ _, Dg.nodeL _ _⟩
theorem groZ_le (A : List Int) (f : Nat) : ∀ (m n : Nat) (cut : Bool) (ds : List (List Int)) (left : Int), (groZ f A m n cut ds left).2 ≤ left := by
  induction f with
  | zero => intro m n cut ds left; exact Int.le_refl _
  | succ f ih =>
    intro m n cut ds left
    unfold Go.Proofs.YtkakoiaahgchmaaGreatDoor.groZ
    split
    · split
      · simp only; omega
      · exact Int.le_refl _
    · split
      · have := ih m (halfN n) cut ds (left - 1); simp only; omega
      · have := ih (m - halfN n) (n - halfN n) true ds (left - 1); simp only; omega
theorem bothR_groZ (A : List Int) (f : Nat) : ∀ (m n : Nat) (cut : Bool) (ds : List (List Int)) (left : Nat), left ≤ ds.length → 1 ≤ m → m ≤ n → n ≤ f →
    (bothR f A m n cut (ds.take left)).2 = decide ((groZ f A m n cut ds left).2 = 0) ∧ ((bothR f A m n cut (ds.take left)).2 = true → (bothR f A m n cut (ds.take left)).1 = (groZ f A m n cut ds left).1) := by
  induction f with
  | zero => intro m n cut ds left _ h1 h2 h3; omega
  | succ f ih =>
    intro m n cut ds left hl h1 h2 h3
    have hlen : (ds.take left).length = left := by rw [List.length_take]; omega
    by_cases hm : m = n
    · rw [bothR, groZ, if_pos hm, if_pos hm, hlen]
      cases cut with
      | false =>
        rw [if_neg (by simp), if_neg (by simp)]
        refine ⟨?_, fun _ => rfl⟩
        simp only [decide_eq_decide]
        omega
      | true =>
        rw [if_pos rfl, if_pos rfl]
        by_cases hl1 : left = 1
        · subst hl1
          rw [if_pos rfl]
          have ht := take_at ds 0
          rw [show (((0 : Nat) : Int) + 1) = ((1 : Nat) : Int) by rfl] at ht
          refine ⟨?_, fun _ => ?_⟩
          · symm
            rw [decide_eq_true_iff]
            simp only; omega
          · simp only
            rw [ht, getD_take ds 0]
        · rw [if_neg hl1]
          refine ⟨?_, fun h => by cases h⟩
          symm
          rw [decide_eq_false_iff_not]
          simp only; omega
    · obtain ⟨hk1, hk2⟩ := halfN_lt (n := n) (by omega)
      rw [bothR, groZ, if_neg hm, if_neg hm, hlen]
      cases left with
      | zero =>
        rw [if_pos rfl]
        refine ⟨?_, fun h => by cases h⟩
        symm
        rw [decide_eq_false_iff_not]
        split
        · have := groZ_le A f m (halfN n) cut ds ((0 : Nat) - 1); simp only; omega
        · have := groZ_le A f (m - halfN n) (n - halfN n) true ds ((0 : Nat) - 1); simp only; omega
      | succ q =>
        rw [if_neg (show ¬ q + 1 = 0 by omega), show q + 1 - 1 = q by omega, List.take_take, show min q (q + 1) = q by omega, getD_take]
        rw [show (((q + 1 : Nat) : Int)) = (q : Int) + 1 by omega, take_at, show (q : Int) + 1 - 1 = (q : Int) by omega]
        by_cases hik : m ≤ halfN n
        · have h := ih m (halfN n) cut ds q (by omega) h1 hik (by omega)
          rw [if_pos hik, if_pos hik]
          exact ⟨h.1, fun hh => by simp only; rw [h.2 hh]⟩
        · have h := ih (m - halfN n) (n - halfN n) true ds q (by omega) (by omega) (by omega) (by omega)
          rw [if_neg hik, if_neg hik]
          exact ⟨h.1, fun hh => by simp only; rw [h.2 hh]⟩
theorem grows_same (A B : List Int) (m n : Nat) (ds : List (List Int)) (k : Nat) (h1 : 1 ≤ m) (h2 : m ≤ n) (hk : ds.length = k) :
    ((bothR n A m n false ds).2 && decide ((bothR n A m n false ds).1.1 = A) && decide ((bothR n A m n false ds).1.2 = B)) = (decide ((groZ n A m n false ds k).2 = 0) && decide ((groZ n A m n false ds k).1.1 = A) && decide ((groZ n A m n false ds k).1.2 = B)) := by
  subst hk
  have h := bothR_groZ A n m n false ds ds.length (Nat.le_refl _) h1 h2 (Nat.le_refl _)
  rw [List.take_length] at h
  rw [← h.1]
  cases hb : (bothR n A m n false ds).2 with
  | false => rfl
  | true => rw [h.2 hb]
end Go.Proofs.YtkakoiaahgchmaaGreatDoor
