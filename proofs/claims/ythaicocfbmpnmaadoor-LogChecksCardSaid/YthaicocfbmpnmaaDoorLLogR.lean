/-
  Layer 19: the reference's Both and Grows.
-/
import Derived.Test.YthaicocfbmpnmaaDoorLLogQ
import Derived.Test.YthaicocfbmpnmaaDoorLNFlowD
namespace Go.Proofs.YthaicocfbmpnmaaDoor
open Go.ChangeShapes Go.WideShapes Go.ChangeAt Go.RowKit

set_option maxHeartbeats 4000000 in
set_option maxRecDepth 100000 in
theorem both_same (A : List Int) (m : Int) (len : Nat) (ya : Option Addr) (yc : Nat) (w : World) (hA : Dg A)  :
    Calls Tryd.prog 72 #[.agg (A.map (Value.int .u8)).toArray, .int .i64 m, .int .i64 m, .bool false, .slice ya len yc] w fun e w' => e = .returned (.tuple #[.agg (A.map (Value.int .u8)).toArray, .agg (A.map (Value.int .u8)).toArray, .bool ((len : Int) == 0)]) ∧ Below w.heap.size w w' := by
  have b1 := (Below.refl w.heap.size w).alloc (Nat.le_refl _) (.cells (A.map (Value.int .u8)).toArray 23 (0, 0))
  have b2 := b1.alloc b1.size (.cells (byteCells 32 []) 23 (0, 0))
  have b3 := b2.alloc b2.size (.cells (byteCells 32 []) 23 (0, 0))
  have Ka := hid (((Blk.new (w := w) (n := w.heap.size) rfl (A.map (Value.int .u8)).toArray 23).old (.cells (byteCells 32 []) 23 (0, 0))).old (.cells (byteCells 32 []) 23 (0, 0)))
  have Kr1 := hid ((Blk.new (w := (w.alloc (.cells (A.map (Value.int .u8)).toArray 23 (0, 0)))) (n := w.heap.size + 1) (by simp only [World.size_alloc]) (byteCells 32 []) 23).old (.cells (byteCells 32 []) 23 (0, 0)))
  have Kr2 := hid (Blk.new (w := ((w.alloc (.cells (A.map (Value.int .u8)).toArray 23 (0, 0))).alloc (.cells (byteCells 32 []) 23 (0, 0)))) (n := w.heap.size + 1 + 1) (by simp only [World.size_alloc]) (byteCells 32 []) 23)
  have Hb := hid b3
  have hbz := b3.size
  have Hbs := hid (show w.heap.size + 1 + 1 + 1 = (((w.alloc (.cells (A.map (Value.int .u8)).toArray 23 (0, 0))).alloc (.cells (byteCells 32 []) 23 (0, 0))).alloc (.cells (byteCells 32 []) 23 (0, 0))).heap.size by simp only [World.size_alloc])
  clear b1 b2 b3 
  go_enter Tryd.func72, Tryd.ntmps72
  go_wp2_with fail
  refine FlowB.wp_region_butIn [w.heap.size + 1, w.heap.size + 1 + 1] (fun wz => Blk wz (w.heap.size + 1) (byteCells 32 []) 23 ∧ Blk wz (w.heap.size + 1 + 1) (byteCells 32 []) 23) 7 [0, 1, 2, 3, 4] [] [(.c 5, [], []), (.c 6, [], [])] (by kernel_rfl) (by kernel_rfl) ⟨Kr1.out, Kr2.out⟩ (fun _ _ h hb => ⟨h.1.below hb, h.2.below hb⟩) ?_
  apply Exists.intro
  refine ⟨fun w0 hb0 hF0 => ?_, ?_⟩
  · skip
    have x0 : ∀ w', (∃ x : Ext w0, w' = x.at_) → ∃ T, Blk w' (w.heap.size) (A.map (Value.int .u8)).toArray T := fun w' ⟨x, hx⟩ => ⟨_, hx ▸ (hb0.blk Ka.out (by simp only [List.mem_cons, List.not_mem_nil, or_false]; omega)).below x.same⟩
    simp only [pick, List.getElem?_toArray, List.getElem?_cons_succ, List.getElem?_cons_zero, Option.toList_some, List.cons_append, List.nil_append]
    repeat (first | (go_big_quiet_want; refine quiet_load_blk 23 _ rfl (w.heap.size) rfl _ x0 _ Tryd.underlying23 rfl 32 size_digest hA.size ?_; go_big_quiet_on; simp only [Act.put, List.setIfInBounds_toArray, List.set_cons_zero, List.set_cons_succ]) | go_big_quiet_step (fail))
    exact wpQuiet_nil rfl
  refine FlowB.AlChk.nil ?_
  refine FlowB.Walk.skips rfl (fun wz => Blk wz (w.heap.size + 1) (A.map (Value.int .u8)).toArray 23 ∧ Blk wz (w.heap.size + 1 + 1) (byteCells 32 []) 23) (fun _ _ h hb => ⟨h.1.below hb, h.2.below hb⟩) rfl (fun w1 hb1 hF1 hG1 => ?_) ?_
  · exact FlowB.store_skips 23 _ _ rfl (w.heap.size + 1) (A.map (Value.int .u8)).toArray rfl rfl _ 23 hG1.1 32 size_digest zsize hA.size (ints_one _ _) (by simp) (fun w2 h2 h3 => ⟨h3, h2.blk hG1.2 (by omega)⟩)
  intro w1 hb1 hF1
  apply Exists.intro
  refine ⟨fun w2 hb2 hF2 => wpQuiet_nil rfl, ?_⟩
  refine FlowB.AlChk.nil ?_
  refine FlowB.Walk.skips rfl (fun wz => Blk wz (w.heap.size + 1) (A.map (Value.int .u8)).toArray 23 ∧ Blk wz (w.heap.size + 1 + 1) (A.map (Value.int .u8)).toArray 23) (fun _ _ h hb => ⟨h.1.below hb, h.2.below hb⟩) rfl (fun w1 hb1 hF1 hG1 => ?_) ?_
  · exact FlowB.store_skips 23 _ _ rfl (w.heap.size + 1 + 1) (A.map (Value.int .u8)).toArray rfl rfl _ 23 hG1.2 32 size_digest zsize hA.size (ints_one _ _) (by simp) (fun w2 h2 h3 => ⟨h2.blk hG1.1 (by omega), h3⟩)
  intro w1 hb1 hF1
  apply Exists.intro
  refine ⟨fun w2 hb2 hF2 => wpQuiet_nil rfl, ?_⟩
  refine FlowB.AlChk.nil ?_
  refine FlowB.Walk.fin fun w1 hw1 _ hGw1 => ?_
  simp only [List.drop_succ_cons, List.drop_zero]
  have HIw1 := hid hw1
  have HBw1 := hid (hw1.below Hb.out Hb.out.size (by simp only [List.mem_cons, List.not_mem_nil, or_false, forall_eq_or_imp, forall_eq]; omega))
  have HGw1 := hid hGw1
  clear hw1 hGw1
  go_wp2_with fail
  exact bodyPost_ret (v := .tuple #[.agg (A.map (Value.int .u8)).toArray, .agg (A.map (Value.int .u8)).toArray, .bool ((len : Int) == 0)]) (results_blk2_tmp Tryd.results72 _ (w.heap.size + 1) (w.heap.size + 1 + 1) rfl rfl _ rfl _ _ 23 HGw1.out.1 HGw1.out.2 _ Tryd.underlying23 rfl 32 size_digest hA.size hA.size) rfl ⟨rfl, HBw1.out⟩

set_option maxHeartbeats 4000000 in
set_option maxRecDepth 100000 in
theorem both_bad (A : List Int) (m : Int) (len : Nat) (ya : Option Addr) (yc : Nat) (w : World) (hA : Dg A) (hl : ¬ (len : Int) = 1) :
    Calls Tryd.prog 72 #[.agg (A.map (Value.int .u8)).toArray, .int .i64 m, .int .i64 m, .bool true, .slice ya len yc] w fun e w' => e = .returned (.tuple #[.agg (A.map (Value.int .u8)).toArray, .agg (A.map (Value.int .u8)).toArray, .bool false]) ∧ Below w.heap.size w w' := by
  have b1 := (Below.refl w.heap.size w).alloc (Nat.le_refl _) (.cells (A.map (Value.int .u8)).toArray 23 (0, 0))
  have b2 := b1.alloc b1.size (.cells (byteCells 32 []) 23 (0, 0))
  have b3 := b2.alloc b2.size (.cells (byteCells 32 []) 23 (0, 0))
  have Ka := hid (((Blk.new (w := w) (n := w.heap.size) rfl (A.map (Value.int .u8)).toArray 23).old (.cells (byteCells 32 []) 23 (0, 0))).old (.cells (byteCells 32 []) 23 (0, 0)))
  have Kr1 := hid ((Blk.new (w := (w.alloc (.cells (A.map (Value.int .u8)).toArray 23 (0, 0)))) (n := w.heap.size + 1) (by simp only [World.size_alloc]) (byteCells 32 []) 23).old (.cells (byteCells 32 []) 23 (0, 0)))
  have Kr2 := hid (Blk.new (w := ((w.alloc (.cells (A.map (Value.int .u8)).toArray 23 (0, 0))).alloc (.cells (byteCells 32 []) 23 (0, 0)))) (n := w.heap.size + 1 + 1) (by simp only [World.size_alloc]) (byteCells 32 []) 23)
  have Hb := hid b3
  have hbz := b3.size
  have Hbs := hid (show w.heap.size + 1 + 1 + 1 = (((w.alloc (.cells (A.map (Value.int .u8)).toArray 23 (0, 0))).alloc (.cells (byteCells 32 []) 23 (0, 0))).alloc (.cells (byteCells 32 []) 23 (0, 0))).heap.size by simp only [World.size_alloc])
  clear b1 b2 b3 
  go_enter Tryd.func72, Tryd.ntmps72
  go_wp2_with fail
  refine FlowB.wp_region_butIn [w.heap.size + 1, w.heap.size + 1 + 1] (fun wz => Blk wz (w.heap.size + 1) (byteCells 32 []) 23 ∧ Blk wz (w.heap.size + 1 + 1) (byteCells 32 []) 23) 4 [0, 1] [] [(.c 2, [], []), (.c 3, [], [])] (by kernel_rfl) (by kernel_rfl) ⟨Kr1.out, Kr2.out⟩ (fun _ _ h hb => ⟨h.1.below hb, h.2.below hb⟩) ?_
  apply Exists.intro
  refine ⟨fun w0 hb0 hF0 => ?_, ?_⟩
  · skip
    have x0 : ∀ w', (∃ x : Ext w0, w' = x.at_) → ∃ T, Blk w' (w.heap.size) (A.map (Value.int .u8)).toArray T := fun w' ⟨x, hx⟩ => ⟨_, hx ▸ (hb0.blk Ka.out (by simp only [List.mem_cons, List.not_mem_nil, or_false]; omega)).below x.same⟩
    simp only [pick, List.getElem?_toArray, List.getElem?_cons_succ, List.getElem?_cons_zero, Option.toList_some, List.cons_append, List.nil_append]
    repeat (first | (go_big_quiet_want; refine quiet_load_blk 23 _ rfl (w.heap.size) rfl _ x0 _ Tryd.underlying23 rfl 32 size_digest hA.size ?_; go_big_quiet_on; simp only [Act.put, List.setIfInBounds_toArray, List.set_cons_zero, List.set_cons_succ]) | go_big_quiet_step (fail))
    exact wpQuiet_nil rfl
  refine FlowB.AlChk.nil ?_
  refine FlowB.Walk.skips rfl (fun wz => Blk wz (w.heap.size + 1) (A.map (Value.int .u8)).toArray 23 ∧ Blk wz (w.heap.size + 1 + 1) (byteCells 32 []) 23) (fun _ _ h hb => ⟨h.1.below hb, h.2.below hb⟩) rfl (fun w1 hb1 hF1 hG1 => ?_) ?_
  · exact FlowB.store_skips 23 _ _ rfl (w.heap.size + 1) (A.map (Value.int .u8)).toArray rfl rfl _ 23 hG1.1 32 size_digest zsize hA.size (ints_one _ _) (by simp) (fun w2 h2 h3 => ⟨h3, h2.blk hG1.2 (by omega)⟩)
  intro w1 hb1 hF1
  apply Exists.intro
  refine ⟨fun w2 hb2 hF2 => wpQuiet_nil rfl, ?_⟩
  refine FlowB.AlChk.nil ?_
  refine FlowB.Walk.skips rfl (fun wz => Blk wz (w.heap.size + 1) (A.map (Value.int .u8)).toArray 23 ∧ Blk wz (w.heap.size + 1 + 1) (A.map (Value.int .u8)).toArray 23) (fun _ _ h hb => ⟨h.1.below hb, h.2.below hb⟩) rfl (fun w1 hb1 hF1 hG1 => ?_) ?_
  · exact FlowB.store_skips 23 _ _ rfl (w.heap.size + 1 + 1) (A.map (Value.int .u8)).toArray rfl rfl _ 23 hG1.2 32 size_digest zsize hA.size (ints_one _ _) (by simp) (fun w2 h2 h3 => ⟨h2.blk hG1.1 (by omega), h3⟩)
  intro w1 hb1 hF1
  apply Exists.intro
  refine ⟨fun w2 hb2 hF2 => wpQuiet_nil rfl, ?_⟩
  refine FlowB.AlChk.nil ?_
  refine FlowB.Walk.fin fun w1 hw1 _ hGw1 => ?_
  simp only [List.drop_succ_cons, List.drop_zero]
  have HIw1 := hid hw1
  have HBw1 := hid (hw1.below Hb.out Hb.out.size (by simp only [List.mem_cons, List.not_mem_nil, or_false, forall_eq_or_imp, forall_eq]; omega))
  have HGw1 := hid hGw1
  clear hw1 hGw1
  go_wp2_with fail
  exact bodyPost_ret (v := .tuple #[.agg (A.map (Value.int .u8)).toArray, .agg (A.map (Value.int .u8)).toArray, .bool false]) (results_blk2_tmp Tryd.results72 _ (w.heap.size + 1) (w.heap.size + 1 + 1) rfl rfl _ rfl _ _ 23 HGw1.out.1 HGw1.out.2 _ Tryd.underlying23 rfl 32 size_digest hA.size hA.size) rfl ⟨rfl, HBw1.out⟩

set_option maxHeartbeats 4000000 in
set_option maxRecDepth 100000 in
theorem both_nil (A : List Int) (m n : Int) (cut : Bool) (ya : Option Addr) (yc : Nat) (w : World) (hA : Dg A) (hmn : ¬ m = n) :
    Calls Tryd.prog 72 #[.agg (A.map (Value.int .u8)).toArray, .int .i64 m, .int .i64 n, .bool cut, .slice ya 0 yc] w fun e w' => e = .returned (.tuple #[.agg (A.map (Value.int .u8)).toArray, .agg (A.map (Value.int .u8)).toArray, .bool false]) ∧ Below w.heap.size w w' := by
  have b1 := (Below.refl w.heap.size w).alloc (Nat.le_refl _) (.cells (A.map (Value.int .u8)).toArray 23 (0, 0))
  have b2 := b1.alloc b1.size (.cells (byteCells 32 []) 23 (0, 0))
  have b3 := b2.alloc b2.size (.cells (byteCells 32 []) 23 (0, 0))
  have Ka := hid (((Blk.new (w := w) (n := w.heap.size) rfl (A.map (Value.int .u8)).toArray 23).old (.cells (byteCells 32 []) 23 (0, 0))).old (.cells (byteCells 32 []) 23 (0, 0)))
  have Kr1 := hid ((Blk.new (w := (w.alloc (.cells (A.map (Value.int .u8)).toArray 23 (0, 0)))) (n := w.heap.size + 1) (by simp only [World.size_alloc]) (byteCells 32 []) 23).old (.cells (byteCells 32 []) 23 (0, 0)))
  have Kr2 := hid (Blk.new (w := ((w.alloc (.cells (A.map (Value.int .u8)).toArray 23 (0, 0))).alloc (.cells (byteCells 32 []) 23 (0, 0)))) (n := w.heap.size + 1 + 1) (by simp only [World.size_alloc]) (byteCells 32 []) 23)
  have Hb := hid b3
  have hbz := b3.size
  have Hbs := hid (show w.heap.size + 1 + 1 + 1 = (((w.alloc (.cells (A.map (Value.int .u8)).toArray 23 (0, 0))).alloc (.cells (byteCells 32 []) 23 (0, 0))).alloc (.cells (byteCells 32 []) 23 (0, 0))).heap.size by simp only [World.size_alloc])
  clear b1 b2 b3 
  go_enter Tryd.func72, Tryd.ntmps72
  go_wp2_with fail
  refine FlowB.wp_region_butIn [w.heap.size + 1, w.heap.size + 1 + 1] (fun wz => Blk wz (w.heap.size + 1) (byteCells 32 []) 23 ∧ Blk wz (w.heap.size + 1 + 1) (byteCells 32 []) 23) 4 [0, 1] [] [(.c 2, [], []), (.c 3, [], [])] (by kernel_rfl) (by kernel_rfl) ⟨Kr1.out, Kr2.out⟩ (fun _ _ h hb => ⟨h.1.below hb, h.2.below hb⟩) ?_
  apply Exists.intro
  refine ⟨fun w0 hb0 hF0 => ?_, ?_⟩
  · skip
    have x0 : ∀ w', (∃ x : Ext w0, w' = x.at_) → ∃ T, Blk w' (w.heap.size) (A.map (Value.int .u8)).toArray T := fun w' ⟨x, hx⟩ => ⟨_, hx ▸ (hb0.blk Ka.out (by simp only [List.mem_cons, List.not_mem_nil, or_false]; omega)).below x.same⟩
    simp only [pick, List.getElem?_toArray, List.getElem?_cons_succ, List.getElem?_cons_zero, Option.toList_some, List.cons_append, List.nil_append]
    repeat (first | (go_big_quiet_want; refine quiet_load_blk 23 _ rfl (w.heap.size) rfl _ x0 _ Tryd.underlying23 rfl 32 size_digest hA.size ?_; go_big_quiet_on; simp only [Act.put, List.setIfInBounds_toArray, List.set_cons_zero, List.set_cons_succ]) | go_big_quiet_step (fail))
    exact wpQuiet_nil rfl
  refine FlowB.AlChk.nil ?_
  refine FlowB.Walk.skips rfl (fun wz => Blk wz (w.heap.size + 1) (A.map (Value.int .u8)).toArray 23 ∧ Blk wz (w.heap.size + 1 + 1) (byteCells 32 []) 23) (fun _ _ h hb => ⟨h.1.below hb, h.2.below hb⟩) rfl (fun w1 hb1 hF1 hG1 => ?_) ?_
  · exact FlowB.store_skips 23 _ _ rfl (w.heap.size + 1) (A.map (Value.int .u8)).toArray rfl rfl _ 23 hG1.1 32 size_digest zsize hA.size (ints_one _ _) (by simp) (fun w2 h2 h3 => ⟨h3, h2.blk hG1.2 (by omega)⟩)
  intro w1 hb1 hF1
  apply Exists.intro
  refine ⟨fun w2 hb2 hF2 => wpQuiet_nil rfl, ?_⟩
  refine FlowB.AlChk.nil ?_
  refine FlowB.Walk.skips rfl (fun wz => Blk wz (w.heap.size + 1) (A.map (Value.int .u8)).toArray 23 ∧ Blk wz (w.heap.size + 1 + 1) (A.map (Value.int .u8)).toArray 23) (fun _ _ h hb => ⟨h.1.below hb, h.2.below hb⟩) rfl (fun w1 hb1 hF1 hG1 => ?_) ?_
  · exact FlowB.store_skips 23 _ _ rfl (w.heap.size + 1 + 1) (A.map (Value.int .u8)).toArray rfl rfl _ 23 hG1.2 32 size_digest zsize hA.size (ints_one _ _) (by simp) (fun w2 h2 h3 => ⟨h2.blk hG1.1 (by omega), h3⟩)
  intro w1 hb1 hF1
  apply Exists.intro
  refine ⟨fun w2 hb2 hF2 => wpQuiet_nil rfl, ?_⟩
  refine FlowB.AlChk.nil ?_
  refine FlowB.Walk.fin fun w1 hw1 _ hGw1 => ?_
  simp only [List.drop_succ_cons, List.drop_zero]
  have HIw1 := hid hw1
  have HBw1 := hid (hw1.below Hb.out Hb.out.size (by simp only [List.mem_cons, List.not_mem_nil, or_false, forall_eq_or_imp, forall_eq]; omega))
  have HGw1 := hid hGw1
  clear hw1 hGw1
  go_wp2_with fail
  exact bodyPost_ret (v := .tuple #[.agg (A.map (Value.int .u8)).toArray, .agg (A.map (Value.int .u8)).toArray, .bool false]) (results_blk2_tmp Tryd.results72 _ (w.heap.size + 1) (w.heap.size + 1 + 1) rfl rfl _ rfl _ _ 23 HGw1.out.1 HGw1.out.2 _ Tryd.underlying23 rfl 32 size_digest hA.size hA.size) rfl ⟨rfl, HBw1.out⟩

set_option maxHeartbeats 4000000 in
set_option maxRecDepth 100000 in
theorem both_one (A : List Int) (m : Int) (x o yc : Nat) (ds : List (List Int)) (w : World) (_hA : Dg A) (hD : DigsAt w (some ⟨x, o, none⟩) 1 yc ds) :
    Calls Tryd.prog 72 #[.agg (A.map (Value.int .u8)).toArray, .int .i64 m, .int .i64 m, .bool true, .slice (some ⟨x, o, none⟩) 1 yc] w fun e w' => e = .returned (.tuple #[.agg ((ds.getD 0 []).map (Value.int .u8)).toArray, .agg ((ds.getD 0 []).map (Value.int .u8)).toArray, .bool true]) ∧ Below w.heap.size w w' := by
  obtain ⟨x0, o0, hxa, hx, hc⟩ := hD.at_ (by omega)
  cases hxa
  have Hc := hid (hc 0 (by omega))
  have HY := hid (hD.get (j := 0) (by omega))
  generalize ds.getD 0 [] = Y at *
  clear hc hD
  have b1 := (Below.refl w.heap.size w).alloc (Nat.le_refl _) (.cells (A.map (Value.int .u8)).toArray 23 (0, 0))
  have b2 := b1.alloc b1.size (.cells (byteCells 32 []) 23 (0, 0))
  have b3 := b2.alloc b2.size (.cells (byteCells 32 []) 23 (0, 0))
  have Ka := hid (((Blk.new (w := w) (n := w.heap.size) rfl (A.map (Value.int .u8)).toArray 23).old (.cells (byteCells 32 []) 23 (0, 0))).old (.cells (byteCells 32 []) 23 (0, 0)))
  have Kr1 := hid ((Blk.new (w := (w.alloc (.cells (A.map (Value.int .u8)).toArray 23 (0, 0)))) (n := w.heap.size + 1) (by simp only [World.size_alloc]) (byteCells 32 []) 23).old (.cells (byteCells 32 []) 23 (0, 0)))
  have Kr2 := hid (Blk.new (w := ((w.alloc (.cells (A.map (Value.int .u8)).toArray 23 (0, 0))).alloc (.cells (byteCells 32 []) 23 (0, 0)))) (n := w.heap.size + 1 + 1) (by simp only [World.size_alloc]) (byteCells 32 []) 23)
  have Hb := hid b3
  have hbz := b3.size
  have Hbs := hid (show w.heap.size + 1 + 1 + 1 = (((w.alloc (.cells (A.map (Value.int .u8)).toArray 23 (0, 0))).alloc (.cells (byteCells 32 []) 23 (0, 0))).alloc (.cells (byteCells 32 []) 23 (0, 0))).heap.size by simp only [World.size_alloc])
  clear b1 b2 b3 
  go_enter Tryd.func72, Tryd.ntmps72
  go_wp2_with fail
  refine FlowB.wp_region_butIn [w.heap.size + 1, w.heap.size + 1 + 1] (fun wz => Blk wz (w.heap.size + 1) (byteCells 32 []) 23 ∧ Blk wz (w.heap.size + 1 + 1) (byteCells 32 []) 23) 8 [0, 1, 2, 3, 4, 5] [] [(.c 6, [], []), (.c 7, [], [])] (by kernel_rfl) (by kernel_rfl) ⟨Kr1.out, Kr2.out⟩ (fun _ _ h hb => ⟨h.1.below hb, h.2.below hb⟩) ?_
  apply Exists.intro
  refine ⟨fun w0 hb0 hF0 => ?_, ?_⟩
  · skip
    have zz : ∀ w', (∃ x : Ext w0, w' = x.at_) → w'.rangeAt x (o + 0 * 32) (Y.map (Value.int .u8)) := fun w' ⟨e, he⟩ j v hv => by
      have h1 := (Hb.out.cell (p := ⟨x, o + 0 * 32 + j, none⟩) hx).trans (Hc.out j v hv)
      have hs0 := hb0.size
      simp only [World.size_alloc] at hs0
      have h2 := hb0.cell (by simp only [World.size_alloc]; omega) (by simp only [List.mem_cons, List.not_mem_nil, or_false]; omega) h1
      rw [he]
      exact (e.same.cell (p := ⟨x, o + 0 * 32 + j, none⟩) (show x < _ by omega)).trans h2
    simp only [pick, List.getElem?_toArray, List.getElem?_cons_succ, List.getElem?_cons_zero, Option.toList_some, List.cons_append, List.nil_append]
    repeat (first | (go_big_quiet_want; refine quiet_index_digs 27 _ _ rfl Tryd.underlying27 size_digest x o 1 yc rfl _ _ rfl 0 rfl (by omega) ?_; go_big_quiet_on; simp only [Act.put, List.setIfInBounds_toArray, List.set_cons_zero, List.set_cons_succ]) | (go_big_quiet_want; refine quiet_load_mid 23 _ rfl x (o + 0 * 32) rfl _ zz _ Tryd.underlying23 rfl (by rw [List.length_map, HY.out.len]; exact size_digest) ?_; go_big_quiet_on; simp only [Act.put, List.setIfInBounds_toArray, List.set_cons_zero, List.set_cons_succ]) | go_big_quiet_step (fail))
    exact wpQuiet_nil rfl
  refine FlowB.AlChk.nil ?_
  refine FlowB.Walk.skips rfl (fun wz => Blk wz (w.heap.size + 1) (Y.map (Value.int .u8)).toArray 23 ∧ Blk wz (w.heap.size + 1 + 1) (byteCells 32 []) 23) (fun _ _ h hb => ⟨h.1.below hb, h.2.below hb⟩) rfl (fun w1 hb1 hF1 hG1 => ?_) ?_
  · exact FlowB.store_skips 23 _ _ rfl (w.heap.size + 1) (Y.map (Value.int .u8)).toArray rfl rfl _ 23 hG1.1 32 size_digest zsize HY.out.size (ints_one _ _) (by simp) (fun w2 h2 h3 => ⟨h3, h2.blk hG1.2 (by omega)⟩)
  intro w1 hb1 hF1
  apply Exists.intro
  refine ⟨fun w2 hb2 hF2 => wpQuiet_nil rfl, ?_⟩
  refine FlowB.AlChk.nil ?_
  refine FlowB.Walk.skips rfl (fun wz => Blk wz (w.heap.size + 1) (Y.map (Value.int .u8)).toArray 23 ∧ Blk wz (w.heap.size + 1 + 1) (Y.map (Value.int .u8)).toArray 23) (fun _ _ h hb => ⟨h.1.below hb, h.2.below hb⟩) rfl (fun w1 hb1 hF1 hG1 => ?_) ?_
  · exact FlowB.store_skips 23 _ _ rfl (w.heap.size + 1 + 1) (Y.map (Value.int .u8)).toArray rfl rfl _ 23 hG1.2 32 size_digest zsize HY.out.size (ints_one _ _) (by simp) (fun w2 h2 h3 => ⟨h2.blk hG1.1 (by omega), h3⟩)
  intro w1 hb1 hF1
  apply Exists.intro
  refine ⟨fun w2 hb2 hF2 => wpQuiet_nil rfl, ?_⟩
  refine FlowB.AlChk.nil ?_
  refine FlowB.Walk.fin fun w1 hw1 _ hGw1 => ?_
  simp only [List.drop_succ_cons, List.drop_zero]
  have HIw1 := hid hw1
  have HBw1 := hid (hw1.below Hb.out Hb.out.size (by simp only [List.mem_cons, List.not_mem_nil, or_false, forall_eq_or_imp, forall_eq]; omega))
  have HGw1 := hid hGw1
  clear hw1 hGw1
  go_wp2_with fail
  exact bodyPost_ret (v := .tuple #[.agg (Y.map (Value.int .u8)).toArray, .agg (Y.map (Value.int .u8)).toArray, .bool true]) (results_blk2_tmp Tryd.results72 _ (w.heap.size + 1) (w.heap.size + 1 + 1) rfl rfl _ rfl _ _ 23 HGw1.out.1 HGw1.out.2 _ Tryd.underlying23 rfl 32 size_digest HY.out.size HY.out.size) rfl ⟨rfl, HBw1.out⟩

set_option maxHeartbeats 4000000 in
set_option maxRecDepth 100000 in
theorem both_l (A : List Int) (m n k q len : Nat) (cut : Bool) (x o yc : Nat) (ds : List (List Int)) (w : World) (hA : Dg A) (hmn : m < n) (hn : 2 ≤ n) (hn2 : n ≤ 200) (hkk : halfN n = k) (hik : m ≤ k) (hq1 : q < len) (hq2 : len ≤ q + 1) (hlen : len ≤ 1000000) (hD : DigsAt w (some ⟨x, o, none⟩) len yc ds)
    (R1 R2 : List Int) (ok : Bool) (hR1 : Dg R1) (hR2 : Dg R2) (cu : ∀ W : World, DigsAt W (some ⟨x, o, none⟩) q yc (ds.take q) → Calls Tryd.prog 72 #[.agg (A.map (Value.int .u8)).toArray, .int .i64 (m : Int), .int .i64 (k : Int), .bool cut, .slice (some ⟨x, o, none⟩) q yc] W fun e w' => e = .returned (.tuple #[.agg (R1.map (Value.int .u8)).toArray, .agg (R2.map (Value.int .u8)).toArray, .bool ok]) ∧ Below W.heap.size W w') :
    Calls Tryd.prog 72 #[.agg (A.map (Value.int .u8)).toArray, .int .i64 m, .int .i64 n, .bool cut, .slice (some ⟨x, o, none⟩) len yc] w fun e w' => e = .returned (.tuple #[.agg (R1.map (Value.int .u8)).toArray, .agg ((nodeL R2 (ds.getD q [])).map (Value.int .u8)).toArray, .bool ok]) ∧ Below w.heap.size w w' := by
  obtain ⟨hk1, hk2⟩ := halfN_lt hn
  rw [hkk] at hk1 hk2
  have hmI : ¬ ((m : Int) = (n : Int)) := by omega
  have hl0 : ¬ ((len : Int) = 0) := by omega
  have hw0 : wrap64 ((len : Int) - 1) = (len : Int) - 1 := by unfold wrap64; omega
  have hqc := hD.le
  obtain ⟨x0, o0, hxa, hx, hc⟩ := hD.at_ (by omega)
  cases hxa
  have Hc := hid (hc q (by omega))
  have DQ := hid (hD.head q (by omega))
  have CH := hid (fun W : World => (refhalf_any n n W (Nat.le_refl _) hn (by omega)).mono (fun e w' (h : e = .returned (.int .i64 (halfN n : Int)) ∧ w' = W) => show e = .returned (.int .i64 (halfN n : Int)) ∧ Below W.heap.size W w' from ⟨h.1, by rw [h.2]; exact Below.refl _ _⟩))
  rw [hkk] at CH
  have CU := hid cu
  have HY := hid (hD.get (j := q) (by omega))
  generalize ds.getD q [] = Y at *
  have HR1 := hid hR1
  have HR2 := hid hR2
  have CN := hid (fun (W : World) => refnode_any R2 Y W HR2.out HY.out)
  have HX9 := hid (Dg.nodeL R2 Y)
  generalize nodeL R2 Y = X9 at *
  have hikI : (m : Int) ≤ k := by omega
  clear cu hR1 hR2 hkk hc hD
  have b1 := (Below.refl w.heap.size w).alloc (Nat.le_refl _) (.cells (A.map (Value.int .u8)).toArray 23 (0, 0))
  have b2 := b1.alloc b1.size (.cells (byteCells 32 []) 23 (0, 0))
  have b3 := b2.alloc b2.size (.cells (byteCells 32 []) 23 (0, 0))
  have Ka := hid (((Blk.new (w := w) (n := w.heap.size) rfl (A.map (Value.int .u8)).toArray 23).old (.cells (byteCells 32 []) 23 (0, 0))).old (.cells (byteCells 32 []) 23 (0, 0)))
  have Kr1 := hid ((Blk.new (w := (w.alloc (.cells (A.map (Value.int .u8)).toArray 23 (0, 0)))) (n := w.heap.size + 1) (by simp only [World.size_alloc]) (byteCells 32 []) 23).old (.cells (byteCells 32 []) 23 (0, 0)))
  have Kr2 := hid (Blk.new (w := ((w.alloc (.cells (A.map (Value.int .u8)).toArray 23 (0, 0))).alloc (.cells (byteCells 32 []) 23 (0, 0)))) (n := w.heap.size + 1 + 1) (by simp only [World.size_alloc]) (byteCells 32 []) 23)
  have Hb := hid b3
  have hbz := b3.size
  have Hbs := hid (show w.heap.size + 1 + 1 + 1 = (((w.alloc (.cells (A.map (Value.int .u8)).toArray 23 (0, 0))).alloc (.cells (byteCells 32 []) 23 (0, 0))).alloc (.cells (byteCells 32 []) 23 (0, 0))).heap.size by simp only [World.size_alloc])
  clear b1 b2 b3 
  go_enter Tryd.func72, Tryd.ntmps72
  go_wp2_with fail
  refine (CH.out _).mono ?_
  rintro e w1 ⟨rfl, bw1⟩
  have HBw1 := hid (Below.on Hb.out bw1)
  have hsw1 := HBw1.out.size
  have Kaw1 := hid (Ka.out.below bw1)
  have Kr1w1 := hid (Kr1.out.below bw1)
  have Kr2w1 := hid (Kr2.out.below bw1)
  clear bw1
  have Hcx : Hid (w1.rangeAt x (o + q * 32) (Y.map (Value.int .u8))) := hid (fun j v hv => (HBw1.out.cell (p := ⟨x, o + q * 32 + j, none⟩) hx).trans (Hc.out j v hv))
  go_wp2_with (first
     | (refine wpList_index_digs rfl 27 _ _ rfl Tryd.underlying27 size_digest x o len yc rfl _ _ rfl q (by omega) (by omega) ?_)
     | (refine wpList_load_mid rfl 23 _ rfl x (o + q * 32) rfl _ _ Hcx.out Tryd.underlying23 rfl (by rw [List.length_map, HY.out.len]; exact size_digest) ?_)
     | (
        refine wpList_store_blk rfl 23 _ _ rfl (w1.heap.size) (Y.map (Value.int .u8)).toArray rfl rfl _ 23 (Blk.new rfl (byteCells 32 []) _) 32 size_digest zsize HY.out.size (ints_one _ _) ?_
        intro w2 hbw2 hkw2
        have hw2 := hbw2.below ((Below.refl w1.heap.size w1).alloc (Nat.le_refl _) _) (by simp only [World.size_alloc]; omega) (Nat.le_refl _)
        have HBw2 := hid (Below.on HBw1.out hw2)
        have hsw2 := HBw2.out.size
        have Kaw2 := hid (Kaw1.out.below hw2)
        have hlaw2 := Kaw1.out.lt
        have Kr1w2 := hid (Kr1w1.out.below hw2)
        have hlr1w2 := Kr1w1.out.lt
        have Kr2w2 := hid (Kr2w1.out.below hw2)
        have hlr2w2 := Kr2w1.out.lt
        have Kow2 := hid hkw2
        have hfw2 : w.heap.size ≤ w1.heap.size := HBw1.out.size
        clear hbw2 hkw2 hw2))
  refine wp_region_late2d 16 12 16 13 16 [0, 1, 2, 3, 4, 5, 6, 7, 8, 9, 10, 11, 12, 13] [14, 15] [(.b 14, [], []), (.b 15, [], [])] (by kernel_rfl) (by kernel_rfl) (by kernel_rfl) rfl (by kernel_rfl) (fun _ _ d _ _ h => by cases d <;> exact h) ?_
  simp only [late]
  apply Exists.intro
  refine ⟨fun w0 hb0 hF0 => ?_, ?_⟩
  · skip
    have x0 : ∀ w', (∃ x : Ext w0, w' = x.at_) → ∃ T, Blk w' (w.heap.size) (A.map (Value.int .u8)).toArray T := fun w' ⟨x, hx⟩ => ⟨_, hx ▸ (Kaw2.out.below hb0).below x.same⟩
    have c0 := fun e : Ext w0 => CU.out e.at_ (DQ.out.below (Below.on (Below.on HBw2.out hb0) e.same))
    simp only [pick, List.getElem?_toArray, List.getElem?_cons_succ, List.getElem?_cons_zero, Option.toList_some, List.cons_append, List.nil_append]
    repeat (first | (go_big_quiet_want; refine quiet_load_blk 23 _ rfl (w.heap.size) rfl _ x0 _ Tryd.underlying23 rfl 32 size_digest hA.size ?_; go_big_quiet_on; simp only [Act.put, List.setIfInBounds_toArray, List.set_cons_zero, List.set_cons_succ]) | (go_big_quiet_want; refine quiet_cut_hh _ _ rfl (some ⟨x, o, none⟩) len yc q _ rfl rfl (by omega) (by omega) ?_; go_big_quiet_on; simp only [Act.put, List.setIfInBounds_toArray, List.set_cons_zero, List.set_cons_succ]) | go_big_quiet_step (first | (go_at_call 72; with_reducible exact Calls.ext (c0 _))))
    exact wpQuiet_nil rfl
  refine AlChk.one rfl (fun b => .pointer (some ⟨b, 0, none⟩)) (.cells (byteCells 32 []) 23 (0, 0)) rfl (fun w3 hb3 hF3 => by go_simp; rfl) ?_
  refine AlChk.one rfl (fun b => .pointer (some ⟨b, 0, none⟩)) (.cells (byteCells 32 []) 23 (0, 0)) rfl (fun w3 hb3 hF3 => by go_simp; rfl) ?_
  refine AlChk.nil ?_
  refine WalkD.blk rfl (fun b => .pointer (some ⟨b, 0, none⟩)) (.cells (byteCells 32 []) 23 (0, 0)) (by simp) ?_
  intro bw3 wz hbz_ hFz hgew3 _ _
  apply Exists.intro
  refine ⟨fun w4 hb4 hF4 => wpQuiet_nil rfl, ?_⟩
  refine AlChk.nil ?_
  refine WalkD.blk rfl (fun b => .pointer (some ⟨b, 0, none⟩)) (.cells (byteCells 32 []) 23 (0, 0)) (by simp) ?_
  intro cw3 wy hby_ hFy hgfw3 hnew3 _
  apply Exists.intro
  refine ⟨fun w4 hb4 hF4 => wpQuiet_nil rfl, ?_⟩
  refine AlChk.nil ?_
  refine WalkD.fin fun w3 hw3 hFw3 _ => ?_
  simp only [List.drop_succ_cons, List.drop_zero]
  have Kuw3 := hid (show Blk w3 bw3 (byteCells 32 []) 23 from hFw3.1.2)
  have Kvw3 := hid (show Blk w3 cw3 (byteCells 32 []) 23 from hFw3.2)
  have hbcw3 : cw3 ≠ bw3 := by simpa using hnew3
  have hgbw3 : w.heap.size ≤ bw3 := Nat.le_trans HBw2.out.size hgew3
  have hgcw3 : w.heap.size ≤ cw3 := Nat.le_trans HBw2.out.size hgfw3
  clear hbz_ hFz hby_ hFy hFw3 hnew3
  have hnaw3 : w.heap.size ≠ bw3 := by have := Kaw2.out.lt; omega
  have hmaw3 : w.heap.size ≠ cw3 := by have := Kaw2.out.lt; omega
  have hnr1w3 : w.heap.size + 1 ≠ bw3 := by have := Kr1w2.out.lt; omega
  have hmr1w3 : w.heap.size + 1 ≠ cw3 := by have := Kr1w2.out.lt; omega
  have hnr2w3 : w.heap.size + 1 + 1 ≠ bw3 := by have := Kr2w2.out.lt; omega
  have hmr2w3 : w.heap.size + 1 + 1 ≠ cw3 := by have := Kr2w2.out.lt; omega
  have hnow3 : w1.heap.size ≠ bw3 := by have := Kow2.out.lt; omega
  have hmow3 : w1.heap.size ≠ cw3 := by have := Kow2.out.lt; omega
  have HBw3 := hid (Below.on HBw2.out hw3)
  have hsw3 := HBw3.out.size
  have Kaw3 := hid (Kaw2.out.below hw3)
  have Kr1w3 := hid (Kr1w2.out.below hw3)
  have Kr2w3 := hid (Kr2w2.out.below hw3)
  have Kow3 := hid (Kow2.out.below hw3)
  clear hw3
  go_wp2_with (first
     | (
        refine wpList_store_blk rfl 23 _ _ rfl (bw3) (R1.map (Value.int .u8)).toArray rfl rfl _ 23 Kuw3.out 32 size_digest zsize HR1.out.size (ints_one _ _) ?_
        intro w4 hbw4 hkw4
        have HBw4 := hid (hbw4.below HBw3.out HBw3.out.size (by omega))
        have hsw4 := HBw4.out.size
        have Kaw4 := hid (hbw4.blk Kaw3.out (by have := Kaw3.out.lt; omega))
        have Kr1w4 := hid (hbw4.blk Kr1w3.out (by have := Kr1w3.out.lt; omega))
        have Kr2w4 := hid (hbw4.blk Kr2w3.out (by have := Kr2w3.out.lt; omega))
        have Kow4 := hid (hbw4.blk Kow3.out (by have := Kow3.out.lt; omega))
        have Kvw4 := hid (hbw4.blk Kvw3.out (by have := Kvw3.out.lt; omega))
        have Kuw4 := hid hkw4
        clear hbw4 hkw4)
     | (
        refine wpList_store_blk rfl 23 _ _ rfl (cw3) (R2.map (Value.int .u8)).toArray rfl rfl _ 23 Kvw4.out 32 size_digest zsize HR2.out.size (ints_one _ _) ?_
        intro w5 hbw5 hkw5
        have HBw5 := hid (hbw5.below HBw4.out HBw4.out.size (by omega))
        have hsw5 := HBw5.out.size
        have Kaw5 := hid (hbw5.blk Kaw4.out (by have := Kaw4.out.lt; omega))
        have Kr1w5 := hid (hbw5.blk Kr1w4.out (by have := Kr1w4.out.lt; omega))
        have Kr2w5 := hid (hbw5.blk Kr2w4.out (by have := Kr2w4.out.lt; omega))
        have Kow5 := hid (hbw5.blk Kow4.out (by have := Kow4.out.lt; omega))
        have Kuw5 := hid (hbw5.blk Kuw4.out (by have := Kuw4.out.lt; omega))
        have Kvw5 := hid hkw5
        clear hbw5 hkw5))
  refine FlowB.wp_region_butIn [w.heap.size + 1, w.heap.size + 1 + 1] (fun wz => Blk wz (w.heap.size + 1) (byteCells 32 []) 23 ∧ Blk wz (w.heap.size + 1 + 1) (byteCells 32 []) 23) 7 [0, 1, 2, 3, 4] [] [(.c 5, [], []), (.c 6, [], [])] (by kernel_rfl) (by kernel_rfl) ⟨Kr1w5.out, Kr2w5.out⟩ (fun _ _ h hb => ⟨h.1.below hb, h.2.below hb⟩) ?_
  apply Exists.intro
  refine ⟨fun w0 hb0 hF0 => ?_, ?_⟩
  · skip
    have x0 : ∀ w', (∃ x : Ext w0, w' = x.at_) → ∃ T, Blk w' (bw3) (R1.map (Value.int .u8)).toArray T := fun w' ⟨x, hx⟩ => ⟨_, hx ▸ (hb0.blk Kuw5.out (by simp only [List.mem_cons, List.not_mem_nil, or_false]; omega)).below x.same⟩
    have x1 : ∀ w', (∃ x : Ext w0, w' = x.at_) → ∃ T, Blk w' (cw3) (R2.map (Value.int .u8)).toArray T := fun w' ⟨x, hx⟩ => ⟨_, hx ▸ (hb0.blk Kvw5.out (by simp only [List.mem_cons, List.not_mem_nil, or_false]; omega)).below x.same⟩
    have x2 : ∀ w', (∃ x : Ext w0, w' = x.at_) → ∃ T, Blk w' (w1.heap.size) (Y.map (Value.int .u8)).toArray T := fun w' ⟨x, hx⟩ => ⟨_, hx ▸ (hb0.blk Kow5.out (by simp only [List.mem_cons, List.not_mem_nil, or_false]; omega)).below x.same⟩
    have c0 := fun e : Ext w0 => CN.out e.at_
    simp only [pick, List.getElem?_toArray, List.getElem?_cons_succ, List.getElem?_cons_zero, Option.toList_some, List.cons_append, List.nil_append]
    repeat (first | (go_big_quiet_want; refine quiet_load_blk 23 _ rfl (bw3) rfl _ x0 _ Tryd.underlying23 rfl 32 size_digest HR1.out.size ?_; go_big_quiet_on; simp only [Act.put, List.setIfInBounds_toArray, List.set_cons_zero, List.set_cons_succ]) | (go_big_quiet_want; refine quiet_load_blk 23 _ rfl (cw3) rfl _ x1 _ Tryd.underlying23 rfl 32 size_digest HR2.out.size ?_; go_big_quiet_on; simp only [Act.put, List.setIfInBounds_toArray, List.set_cons_zero, List.set_cons_succ]) | (go_big_quiet_want; refine quiet_load_blk 23 _ rfl (w1.heap.size) rfl _ x2 _ Tryd.underlying23 rfl 32 size_digest HY.out.size ?_; go_big_quiet_on; simp only [Act.put, List.setIfInBounds_toArray, List.set_cons_zero, List.set_cons_succ]) | go_big_quiet_step (first | (go_at_call 18; with_reducible exact Calls.ext (c0 _))))
    exact wpQuiet_nil rfl
  refine FlowB.AlChk.nil ?_
  refine FlowB.Walk.skips rfl (fun wz => Blk wz (w.heap.size + 1) (R1.map (Value.int .u8)).toArray 23 ∧ Blk wz (w.heap.size + 1 + 1) (byteCells 32 []) 23) (fun _ _ h hb => ⟨h.1.below hb, h.2.below hb⟩) rfl (fun w1 hb1 hF1 hG1 => ?_) ?_
  · exact FlowB.store_skips 23 _ _ rfl (w.heap.size + 1) (R1.map (Value.int .u8)).toArray rfl rfl _ 23 hG1.1 32 size_digest zsize HR1.out.size (ints_one _ _) (by simp) (fun w2 h2 h3 => ⟨h3, h2.blk hG1.2 (by omega)⟩)
  intro w1 hb1 hF1
  apply Exists.intro
  refine ⟨fun w2 hb2 hF2 => wpQuiet_nil rfl, ?_⟩
  refine FlowB.AlChk.nil ?_
  refine FlowB.Walk.skips rfl (fun wz => Blk wz (w.heap.size + 1) (R1.map (Value.int .u8)).toArray 23 ∧ Blk wz (w.heap.size + 1 + 1) (X9.map (Value.int .u8)).toArray 23) (fun _ _ h hb => ⟨h.1.below hb, h.2.below hb⟩) rfl (fun w1 hb1 hF1 hG1 => ?_) ?_
  · exact FlowB.store_skips 23 _ _ rfl (w.heap.size + 1 + 1) (X9.map (Value.int .u8)).toArray rfl rfl _ 23 hG1.2 32 size_digest zsize HX9.out.size (ints_one _ _) (by simp) (fun w2 h2 h3 => ⟨h2.blk hG1.1 (by omega), h3⟩)
  intro w1 hb1 hF1
  apply Exists.intro
  refine ⟨fun w2 hb2 hF2 => wpQuiet_nil rfl, ?_⟩
  refine FlowB.AlChk.nil ?_
  refine FlowB.Walk.fin fun w6 hw6 _ hGw6 => ?_
  simp only [List.drop_succ_cons, List.drop_zero]
  have HIw6 := hid hw6
  have HBw6 := hid (hw6.below HBw5.out HBw5.out.size (by simp only [List.mem_cons, List.not_mem_nil, or_false, forall_eq_or_imp, forall_eq]; omega))
  have HGw6 := hid hGw6
  clear hw6 hGw6
  go_wp2_with fail
  exact bodyPost_ret (v := .tuple #[.agg (R1.map (Value.int .u8)).toArray, .agg (X9.map (Value.int .u8)).toArray, .bool ok]) (results_blk2_tmp Tryd.results72 _ (w.heap.size + 1) (w.heap.size + 1 + 1) rfl rfl _ rfl _ _ 23 HGw6.out.1 HGw6.out.2 _ Tryd.underlying23 rfl 32 size_digest HR1.out.size HX9.out.size) rfl ⟨rfl, HBw6.out⟩

set_option maxHeartbeats 4000000 in
set_option maxRecDepth 100000 in
theorem both_r (A : List Int) (m n k q len : Nat) (cut : Bool) (x o yc : Nat) (ds : List (List Int)) (w : World) (hA : Dg A) (hmn : m < n) (hn : 2 ≤ n) (hn2 : n ≤ 200) (hkk : halfN n = k) (hik : ¬ m ≤ k) (hq1 : q < len) (hq2 : len ≤ q + 1) (hlen : len ≤ 1000000) (hD : DigsAt w (some ⟨x, o, none⟩) len yc ds)
    (R1 R2 : List Int) (ok : Bool) (hR1 : Dg R1) (hR2 : Dg R2) (cu : ∀ W : World, DigsAt W (some ⟨x, o, none⟩) q yc (ds.take q) → Calls Tryd.prog 72 #[.agg (A.map (Value.int .u8)).toArray, .int .i64 ((m : Int) - (k : Int)), .int .i64 ((n : Int) - (k : Int)), .bool true, .slice (some ⟨x, o, none⟩) q yc] W fun e w' => e = .returned (.tuple #[.agg (R1.map (Value.int .u8)).toArray, .agg (R2.map (Value.int .u8)).toArray, .bool ok]) ∧ Below W.heap.size W w') :
    Calls Tryd.prog 72 #[.agg (A.map (Value.int .u8)).toArray, .int .i64 m, .int .i64 n, .bool cut, .slice (some ⟨x, o, none⟩) len yc] w fun e w' => e = .returned (.tuple #[.agg ((nodeL (ds.getD q []) R1).map (Value.int .u8)).toArray, .agg ((nodeL (ds.getD q []) R2).map (Value.int .u8)).toArray, .bool ok]) ∧ Below w.heap.size w w' := by
  obtain ⟨hk1, hk2⟩ := halfN_lt hn
  rw [hkk] at hk1 hk2
  have hmI : ¬ ((m : Int) = (n : Int)) := by omega
  have hl0 : ¬ ((len : Int) = 0) := by omega
  have hw0 : wrap64 ((len : Int) - 1) = (len : Int) - 1 := by unfold wrap64; omega
  have hqc := hD.le
  obtain ⟨x0, o0, hxa, hx, hc⟩ := hD.at_ (by omega)
  cases hxa
  have Hc := hid (hc q (by omega))
  have DQ := hid (hD.head q (by omega))
  have CH := hid (fun W : World => (refhalf_any n n W (Nat.le_refl _) hn (by omega)).mono (fun e w' (h : e = .returned (.int .i64 (halfN n : Int)) ∧ w' = W) => show e = .returned (.int .i64 (halfN n : Int)) ∧ Below W.heap.size W w' from ⟨h.1, by rw [h.2]; exact Below.refl _ _⟩))
  rw [hkk] at CH
  have CU := hid cu
  have HY := hid (hD.get (j := q) (by omega))
  generalize ds.getD q [] = Y at *
  have HR1 := hid hR1
  have HR2 := hid hR2
  have CN := hid (fun (W : World) => refnode_any Y R1 W HY.out HR1.out)
  have CM := hid (fun (W : World) => refnode_any Y R2 W HY.out HR2.out)
  have HX8 := hid (Dg.nodeL Y R1)
  have HX9 := hid (Dg.nodeL Y R2)
  generalize nodeL Y R1 = X8 at *
  generalize nodeL Y R2 = X9 at *
  have hikI : ¬ ((m : Int) ≤ k) := by omega
  have hw1 : wrap64 ((n : Int) - (k : Int)) = (n : Int) - (k : Int) := by unfold wrap64; omega
  have hw2 : wrap64 ((m : Int) - (k : Int)) = (m : Int) - (k : Int) := by unfold wrap64; omega
  clear cu hR1 hR2 hkk hc hD
  have b1 := (Below.refl w.heap.size w).alloc (Nat.le_refl _) (.cells (A.map (Value.int .u8)).toArray 23 (0, 0))
  have b2 := b1.alloc b1.size (.cells (byteCells 32 []) 23 (0, 0))
  have b3 := b2.alloc b2.size (.cells (byteCells 32 []) 23 (0, 0))
  have Ka := hid (((Blk.new (w := w) (n := w.heap.size) rfl (A.map (Value.int .u8)).toArray 23).old (.cells (byteCells 32 []) 23 (0, 0))).old (.cells (byteCells 32 []) 23 (0, 0)))
  have Kr1 := hid ((Blk.new (w := (w.alloc (.cells (A.map (Value.int .u8)).toArray 23 (0, 0)))) (n := w.heap.size + 1) (by simp only [World.size_alloc]) (byteCells 32 []) 23).old (.cells (byteCells 32 []) 23 (0, 0)))
  have Kr2 := hid (Blk.new (w := ((w.alloc (.cells (A.map (Value.int .u8)).toArray 23 (0, 0))).alloc (.cells (byteCells 32 []) 23 (0, 0)))) (n := w.heap.size + 1 + 1) (by simp only [World.size_alloc]) (byteCells 32 []) 23)
  have Hb := hid b3
  have hbz := b3.size
  have Hbs := hid (show w.heap.size + 1 + 1 + 1 = (((w.alloc (.cells (A.map (Value.int .u8)).toArray 23 (0, 0))).alloc (.cells (byteCells 32 []) 23 (0, 0))).alloc (.cells (byteCells 32 []) 23 (0, 0))).heap.size by simp only [World.size_alloc])
  clear b1 b2 b3 
  go_enter Tryd.func72, Tryd.ntmps72
  go_wp2_with fail
  refine (CH.out _).mono ?_
  rintro e w1 ⟨rfl, bw1⟩
  have HBw1 := hid (Below.on Hb.out bw1)
  have hsw1 := HBw1.out.size
  have Kaw1 := hid (Ka.out.below bw1)
  have Kr1w1 := hid (Kr1.out.below bw1)
  have Kr2w1 := hid (Kr2.out.below bw1)
  clear bw1
  have Hcx : Hid (w1.rangeAt x (o + q * 32) (Y.map (Value.int .u8))) := hid (fun j v hv => (HBw1.out.cell (p := ⟨x, o + q * 32 + j, none⟩) hx).trans (Hc.out j v hv))
  go_wp2_with (first
     | (refine wpList_index_digs rfl 27 _ _ rfl Tryd.underlying27 size_digest x o len yc rfl _ _ rfl q (by omega) (by omega) ?_)
     | (refine wpList_load_mid rfl 23 _ rfl x (o + q * 32) rfl _ _ Hcx.out Tryd.underlying23 rfl (by rw [List.length_map, HY.out.len]; exact size_digest) ?_)
     | (
        refine wpList_store_blk rfl 23 _ _ rfl (w1.heap.size) (Y.map (Value.int .u8)).toArray rfl rfl _ 23 (Blk.new rfl (byteCells 32 []) _) 32 size_digest zsize HY.out.size (ints_one _ _) ?_
        intro w2 hbw2 hkw2
        have hw2 := hbw2.below ((Below.refl w1.heap.size w1).alloc (Nat.le_refl _) _) (by simp only [World.size_alloc]; omega) (Nat.le_refl _)
        have HBw2 := hid (Below.on HBw1.out hw2)
        have hsw2 := HBw2.out.size
        have Kaw2 := hid (Kaw1.out.below hw2)
        have hlaw2 := Kaw1.out.lt
        have Kr1w2 := hid (Kr1w1.out.below hw2)
        have hlr1w2 := Kr1w1.out.lt
        have Kr2w2 := hid (Kr2w1.out.below hw2)
        have hlr2w2 := Kr2w1.out.lt
        have Kow2 := hid hkw2
        have hfw2 : w.heap.size ≤ w1.heap.size := HBw1.out.size
        clear hbw2 hkw2 hw2))
  refine wp_region_late2d 19 15 19 16 19 [0, 1, 2, 3, 4, 5, 6, 7, 8, 9, 10, 11, 12, 13, 14, 15, 16] [17, 18] [(.b 17, [], []), (.b 18, [], [])] (by kernel_rfl) (by kernel_rfl) (by kernel_rfl) rfl (by kernel_rfl) (fun _ _ d _ _ h => by cases d <;> exact h) ?_
  simp only [late]
  apply Exists.intro
  refine ⟨fun w0 hb0 hF0 => ?_, ?_⟩
  · skip
    have x0 : ∀ w', (∃ x : Ext w0, w' = x.at_) → ∃ T, Blk w' (w.heap.size) (A.map (Value.int .u8)).toArray T := fun w' ⟨x, hx⟩ => ⟨_, hx ▸ (Kaw2.out.below hb0).below x.same⟩
    have c0 := fun e : Ext w0 => CU.out e.at_ (DQ.out.below (Below.on (Below.on HBw2.out hb0) e.same))
    simp only [pick, List.getElem?_toArray, List.getElem?_cons_succ, List.getElem?_cons_zero, Option.toList_some, List.cons_append, List.nil_append]
    repeat (first | (go_big_quiet_want; refine quiet_load_blk 23 _ rfl (w.heap.size) rfl _ x0 _ Tryd.underlying23 rfl 32 size_digest hA.size ?_; go_big_quiet_on; simp only [Act.put, List.setIfInBounds_toArray, List.set_cons_zero, List.set_cons_succ]) | (go_big_quiet_want; refine quiet_cut_hh _ _ rfl (some ⟨x, o, none⟩) len yc q _ rfl rfl (by omega) (by omega) ?_; go_big_quiet_on; simp only [Act.put, List.setIfInBounds_toArray, List.set_cons_zero, List.set_cons_succ]) | go_big_quiet_step (first | (go_at_call 72; with_reducible exact Calls.ext (c0 _))))
    exact wpQuiet_nil rfl
  refine AlChk.one rfl (fun b => .pointer (some ⟨b, 0, none⟩)) (.cells (byteCells 32 []) 23 (0, 0)) rfl (fun w3 hb3 hF3 => by go_simp; rfl) ?_
  refine AlChk.one rfl (fun b => .pointer (some ⟨b, 0, none⟩)) (.cells (byteCells 32 []) 23 (0, 0)) rfl (fun w3 hb3 hF3 => by go_simp; rfl) ?_
  refine AlChk.nil ?_
  refine WalkD.blk rfl (fun b => .pointer (some ⟨b, 0, none⟩)) (.cells (byteCells 32 []) 23 (0, 0)) (by simp) ?_
  intro bw3 wz hbz_ hFz hgew3 _ _
  apply Exists.intro
  refine ⟨fun w4 hb4 hF4 => wpQuiet_nil rfl, ?_⟩
  refine AlChk.nil ?_
  refine WalkD.blk rfl (fun b => .pointer (some ⟨b, 0, none⟩)) (.cells (byteCells 32 []) 23 (0, 0)) (by simp) ?_
  intro cw3 wy hby_ hFy hgfw3 hnew3 _
  apply Exists.intro
  refine ⟨fun w4 hb4 hF4 => wpQuiet_nil rfl, ?_⟩
  refine AlChk.nil ?_
  refine WalkD.fin fun w3 hw3 hFw3 _ => ?_
  simp only [List.drop_succ_cons, List.drop_zero]
  have Kuw3 := hid (show Blk w3 bw3 (byteCells 32 []) 23 from hFw3.1.2)
  have Kvw3 := hid (show Blk w3 cw3 (byteCells 32 []) 23 from hFw3.2)
  have hbcw3 : cw3 ≠ bw3 := by simpa using hnew3
  have hgbw3 : w.heap.size ≤ bw3 := Nat.le_trans HBw2.out.size hgew3
  have hgcw3 : w.heap.size ≤ cw3 := Nat.le_trans HBw2.out.size hgfw3
  clear hbz_ hFz hby_ hFy hFw3 hnew3
  have hnaw3 : w.heap.size ≠ bw3 := by have := Kaw2.out.lt; omega
  have hmaw3 : w.heap.size ≠ cw3 := by have := Kaw2.out.lt; omega
  have hnr1w3 : w.heap.size + 1 ≠ bw3 := by have := Kr1w2.out.lt; omega
  have hmr1w3 : w.heap.size + 1 ≠ cw3 := by have := Kr1w2.out.lt; omega
  have hnr2w3 : w.heap.size + 1 + 1 ≠ bw3 := by have := Kr2w2.out.lt; omega
  have hmr2w3 : w.heap.size + 1 + 1 ≠ cw3 := by have := Kr2w2.out.lt; omega
  have hnow3 : w1.heap.size ≠ bw3 := by have := Kow2.out.lt; omega
  have hmow3 : w1.heap.size ≠ cw3 := by have := Kow2.out.lt; omega
  have HBw3 := hid (Below.on HBw2.out hw3)
  have hsw3 := HBw3.out.size
  have Kaw3 := hid (Kaw2.out.below hw3)
  have Kr1w3 := hid (Kr1w2.out.below hw3)
  have Kr2w3 := hid (Kr2w2.out.below hw3)
  have Kow3 := hid (Kow2.out.below hw3)
  clear hw3
  go_wp2_with (first
     | (
        refine wpList_store_blk rfl 23 _ _ rfl (bw3) (R1.map (Value.int .u8)).toArray rfl rfl _ 23 Kuw3.out 32 size_digest zsize HR1.out.size (ints_one _ _) ?_
        intro w4 hbw4 hkw4
        have HBw4 := hid (hbw4.below HBw3.out HBw3.out.size (by omega))
        have hsw4 := HBw4.out.size
        have Kaw4 := hid (hbw4.blk Kaw3.out (by have := Kaw3.out.lt; omega))
        have Kr1w4 := hid (hbw4.blk Kr1w3.out (by have := Kr1w3.out.lt; omega))
        have Kr2w4 := hid (hbw4.blk Kr2w3.out (by have := Kr2w3.out.lt; omega))
        have Kow4 := hid (hbw4.blk Kow3.out (by have := Kow3.out.lt; omega))
        have Kvw4 := hid (hbw4.blk Kvw3.out (by have := Kvw3.out.lt; omega))
        have Kuw4 := hid hkw4
        clear hbw4 hkw4)
     | (
        refine wpList_store_blk rfl 23 _ _ rfl (cw3) (R2.map (Value.int .u8)).toArray rfl rfl _ 23 Kvw4.out 32 size_digest zsize HR2.out.size (ints_one _ _) ?_
        intro w5 hbw5 hkw5
        have HBw5 := hid (hbw5.below HBw4.out HBw4.out.size (by omega))
        have hsw5 := HBw5.out.size
        have Kaw5 := hid (hbw5.blk Kaw4.out (by have := Kaw4.out.lt; omega))
        have Kr1w5 := hid (hbw5.blk Kr1w4.out (by have := Kr1w4.out.lt; omega))
        have Kr2w5 := hid (hbw5.blk Kr2w4.out (by have := Kr2w4.out.lt; omega))
        have Kow5 := hid (hbw5.blk Kow4.out (by have := Kow4.out.lt; omega))
        have Kuw5 := hid (hbw5.blk Kuw4.out (by have := Kuw4.out.lt; omega))
        have Kvw5 := hid hkw5
        clear hbw5 hkw5))
  refine FlowB.wp_region_butIn [w.heap.size + 1, w.heap.size + 1 + 1] (fun wz => Blk wz (w.heap.size + 1) (byteCells 32 []) 23 ∧ Blk wz (w.heap.size + 1 + 1) (byteCells 32 []) 23) 9 [0, 1, 2, 3, 4, 5, 6] [] [(.c 7, [], []), (.c 8, [], [])] (by kernel_rfl) (by kernel_rfl) ⟨Kr1w5.out, Kr2w5.out⟩ (fun _ _ h hb => ⟨h.1.below hb, h.2.below hb⟩) ?_
  apply Exists.intro
  refine ⟨fun w0 hb0 hF0 => ?_, ?_⟩
  · skip
    have x0 : ∀ w', (∃ x : Ext w0, w' = x.at_) → ∃ T, Blk w' (bw3) (R1.map (Value.int .u8)).toArray T := fun w' ⟨x, hx⟩ => ⟨_, hx ▸ (hb0.blk Kuw5.out (by simp only [List.mem_cons, List.not_mem_nil, or_false]; omega)).below x.same⟩
    have x1 : ∀ w', (∃ x : Ext w0, w' = x.at_) → ∃ T, Blk w' (cw3) (R2.map (Value.int .u8)).toArray T := fun w' ⟨x, hx⟩ => ⟨_, hx ▸ (hb0.blk Kvw5.out (by simp only [List.mem_cons, List.not_mem_nil, or_false]; omega)).below x.same⟩
    have x2 : ∀ w', (∃ x : Ext w0, w' = x.at_) → ∃ T, Blk w' (w1.heap.size) (Y.map (Value.int .u8)).toArray T := fun w' ⟨x, hx⟩ => ⟨_, hx ▸ (hb0.blk Kow5.out (by simp only [List.mem_cons, List.not_mem_nil, or_false]; omega)).below x.same⟩
    have c0 := fun e : Ext w0 => CN.out e.at_
    have c1 := fun e : Ext w0 => CM.out e.at_
    simp only [pick, List.getElem?_toArray, List.getElem?_cons_succ, List.getElem?_cons_zero, Option.toList_some, List.cons_append, List.nil_append]
    repeat (first | (go_big_quiet_want; refine quiet_load_blk 23 _ rfl (bw3) rfl _ x0 _ Tryd.underlying23 rfl 32 size_digest HR1.out.size ?_; go_big_quiet_on; simp only [Act.put, List.setIfInBounds_toArray, List.set_cons_zero, List.set_cons_succ]) | (go_big_quiet_want; refine quiet_load_blk 23 _ rfl (cw3) rfl _ x1 _ Tryd.underlying23 rfl 32 size_digest HR2.out.size ?_; go_big_quiet_on; simp only [Act.put, List.setIfInBounds_toArray, List.set_cons_zero, List.set_cons_succ]) | (go_big_quiet_want; refine quiet_load_blk 23 _ rfl (w1.heap.size) rfl _ x2 _ Tryd.underlying23 rfl 32 size_digest HY.out.size ?_; go_big_quiet_on; simp only [Act.put, List.setIfInBounds_toArray, List.set_cons_zero, List.set_cons_succ]) | go_big_quiet_step (first | (go_at_call 18; with_reducible exact Calls.ext (c0 _)) | (go_at_call 18; with_reducible exact Calls.ext (c1 _))))
    exact wpQuiet_nil rfl
  refine FlowB.AlChk.nil ?_
  refine FlowB.Walk.skips rfl (fun wz => Blk wz (w.heap.size + 1) (X8.map (Value.int .u8)).toArray 23 ∧ Blk wz (w.heap.size + 1 + 1) (byteCells 32 []) 23) (fun _ _ h hb => ⟨h.1.below hb, h.2.below hb⟩) rfl (fun w1 hb1 hF1 hG1 => ?_) ?_
  · exact FlowB.store_skips 23 _ _ rfl (w.heap.size + 1) (X8.map (Value.int .u8)).toArray rfl rfl _ 23 hG1.1 32 size_digest zsize HX8.out.size (ints_one _ _) (by simp) (fun w2 h2 h3 => ⟨h3, h2.blk hG1.2 (by omega)⟩)
  intro w1 hb1 hF1
  apply Exists.intro
  refine ⟨fun w2 hb2 hF2 => wpQuiet_nil rfl, ?_⟩
  refine FlowB.AlChk.nil ?_
  refine FlowB.Walk.skips rfl (fun wz => Blk wz (w.heap.size + 1) (X8.map (Value.int .u8)).toArray 23 ∧ Blk wz (w.heap.size + 1 + 1) (X9.map (Value.int .u8)).toArray 23) (fun _ _ h hb => ⟨h.1.below hb, h.2.below hb⟩) rfl (fun w1 hb1 hF1 hG1 => ?_) ?_
  · exact FlowB.store_skips 23 _ _ rfl (w.heap.size + 1 + 1) (X9.map (Value.int .u8)).toArray rfl rfl _ 23 hG1.2 32 size_digest zsize HX9.out.size (ints_one _ _) (by simp) (fun w2 h2 h3 => ⟨h2.blk hG1.1 (by omega), h3⟩)
  intro w1 hb1 hF1
  apply Exists.intro
  refine ⟨fun w2 hb2 hF2 => wpQuiet_nil rfl, ?_⟩
  refine FlowB.AlChk.nil ?_
  refine FlowB.Walk.fin fun w6 hw6 _ hGw6 => ?_
  simp only [List.drop_succ_cons, List.drop_zero]
  have HIw6 := hid hw6
  have HBw6 := hid (hw6.below HBw5.out HBw5.out.size (by simp only [List.mem_cons, List.not_mem_nil, or_false, forall_eq_or_imp, forall_eq]; omega))
  have HGw6 := hid hGw6
  clear hw6 hGw6
  go_wp2_with fail
  exact bodyPost_ret (v := .tuple #[.agg (X8.map (Value.int .u8)).toArray, .agg (X9.map (Value.int .u8)).toArray, .bool ok]) (results_blk2_tmp Tryd.results72 _ (w.heap.size + 1) (w.heap.size + 1 + 1) rfl rfl _ rfl _ _ 23 HGw6.out.1 HGw6.out.2 _ Tryd.underlying23 rfl 32 size_digest HX8.out.size HX9.out.size) rfl ⟨rfl, HBw6.out⟩

set_option maxHeartbeats 4000000 in
set_option maxRecDepth 100000 in
theorem both_any (A : List Int) (hA : Dg A) (f : Nat) : ∀ (m n : Nat) (cut : Bool) (ya : Option Addr) (len yc : Nat) (ds : List (List Int)) (w : World), 1 ≤ m → m ≤ n → n ≤ f → n ≤ 200 → len ≤ 1000000 → DigsAt w ya len yc ds →
    Calls Tryd.prog 72 #[.agg (A.map (Value.int .u8)).toArray, .int .i64 m, .int .i64 n, .bool cut, .slice ya len yc] w fun e w' => e = .returned (.tuple #[.agg ((bothR f A m n cut ds).1.1.map (Value.int .u8)).toArray, .agg ((bothR f A m n cut ds).1.2.map (Value.int .u8)).toArray, .bool (bothR f A m n cut ds).2]) ∧ Below w.heap.size w w' := by
  induction f with
  | zero => intro m n cut ya len yc ds w h1 h2 h3; omega
  | succ f ih =>
    intro m n cut ya len yc ds w h1 h2 h3 h4 h5 hD
    have hl := hD.length
    rcases Nat.eq_or_lt_of_le h2 with rfl | hlt
    · rw [bothR, if_pos rfl]
      cases cut with
      | false =>
        rw [if_neg (by simp)]
        have := both_same A m len ya yc w hA
        rw [show ((len : Int) == 0) = decide (ds.length = 0) by rw [hl]; by_cases h : len = 0 <;> simp [h]] at this
        exact this
      | true =>
        rw [if_pos rfl]
        by_cases hl1 : len = 1
        · subst hl1
          rw [if_pos hl]
          obtain ⟨x, o, rfl, hx, hc⟩ := hD.at_ (by omega)
          exact both_one A m x o yc ds w hA hD
        · rw [if_neg (by omega)]
          exact both_bad A m len ya yc w hA (by omega)
    · obtain ⟨hk1, hk2⟩ := halfN_lt (n := n) (by omega)
      rw [bothR, if_neg (by omega)]
      rcases Nat.eq_zero_or_pos len with rfl | hp
      · rw [if_pos hl]
        exact both_nil A m n cut ya yc w hA (by omega)
      · obtain ⟨x, o, rfl, hx, hc⟩ := hD.at_ hp
        rw [if_neg (by omega), hl]
        by_cases hik : m ≤ halfN n
        · rw [if_pos hik]
          have hg := Dg.bothR hA f m (halfN n) cut (ds.take (len - 1)) (fun d hm => hD.each d (List.mem_of_mem_take hm))
          exact both_l A m n (halfN n) (len - 1) len cut x o yc ds w hA hlt (by omega) h4 rfl hik (by omega) (by omega) h5 hD _ _ _ hg.1 hg.2 (fun W hW => ih m (halfN n) cut _ (len - 1) yc _ W h1 hik (by omega) (by omega) (by omega) hW)
        · rw [if_neg hik]
          have hg := Dg.bothR hA f (m - halfN n) (n - halfN n) true (ds.take (len - 1)) (fun d hm => hD.each d (List.mem_of_mem_take hm))
          exact both_r A m n (halfN n) (len - 1) len cut x o yc ds w hA hlt (by omega) h4 rfl hik (by omega) (by omega) h5 hD _ _ _ hg.1 hg.2 (fun W hW => by
            have := ih (m - halfN n) (n - halfN n) true _ (len - 1) yc _ W (by omega) (by omega) (by omega) (by omega) (by omega) hW
            rw [show ((n - halfN n : Nat) : Int) = (n : Int) - (halfN n : Int) by omega, show ((m - halfN n : Nat) : Int) = (m : Int) - (halfN n : Int) by omega] at this
            exact this)

set_option maxHeartbeats 4000000 in
set_option maxRecDepth 100000 in
theorem refgrows_noa (A B : List Int) (m n : Int) (ya : Option Addr) (yn yc : Nat) (w : World) (_hA : Dg A) (_hB : Dg B) (h : m < 1) :
    Calls Tryd.prog 45 #[.agg (A.map (Value.int .u8)).toArray, .int .i64 m, .agg (B.map (Value.int .u8)).toArray, .int .i64 n, .slice ya yn yc] w fun e w' => e = .returned (.bool false) ∧ Below w.heap.size w w' := by
  have b1 := (Below.refl w.heap.size w).alloc (Nat.le_refl _) (.cells (A.map (Value.int .u8)).toArray 23 (0, 0))
  have b2 := b1.alloc b1.size (.cells (B.map (Value.int .u8)).toArray 23 (0, 0))
  have Ka := hid ((Blk.new (w := w) (n := w.heap.size) rfl (A.map (Value.int .u8)).toArray 23).old (.cells (B.map (Value.int .u8)).toArray 23 (0, 0)))
  have Kb := hid (Blk.new (w := (w.alloc (.cells (A.map (Value.int .u8)).toArray 23 (0, 0)))) (n := w.heap.size + 1) (by simp only [World.size_alloc]) (B.map (Value.int .u8)).toArray 23)
  have Hb := hid b2
  have hbz := b2.size
  have Hbs := hid (show w.heap.size + 1 + 1 = ((w.alloc (.cells (A.map (Value.int .u8)).toArray 23 (0, 0))).alloc (.cells (B.map (Value.int .u8)).toArray 23 (0, 0))).heap.size by simp only [World.size_alloc])
  clear b1 b2 
  go_enter Tryd.func45, Tryd.ntmps45
  go_wp2_with fail
  go_returns
  exact ⟨rfl, Hb.out⟩

set_option maxHeartbeats 4000000 in
set_option maxRecDepth 100000 in
theorem refgrows_nob (A B : List Int) (m n : Int) (ya : Option Addr) (yn yc : Nat) (w : World) (_hA : Dg A) (_hB : Dg B) (h1 : ¬ m < 1) (h : n < m) :
    Calls Tryd.prog 45 #[.agg (A.map (Value.int .u8)).toArray, .int .i64 m, .agg (B.map (Value.int .u8)).toArray, .int .i64 n, .slice ya yn yc] w fun e w' => e = .returned (.bool false) ∧ Below w.heap.size w w' := by
  have b1 := (Below.refl w.heap.size w).alloc (Nat.le_refl _) (.cells (A.map (Value.int .u8)).toArray 23 (0, 0))
  have b2 := b1.alloc b1.size (.cells (B.map (Value.int .u8)).toArray 23 (0, 0))
  have Ka := hid ((Blk.new (w := w) (n := w.heap.size) rfl (A.map (Value.int .u8)).toArray 23).old (.cells (B.map (Value.int .u8)).toArray 23 (0, 0)))
  have Kb := hid (Blk.new (w := (w.alloc (.cells (A.map (Value.int .u8)).toArray 23 (0, 0)))) (n := w.heap.size + 1) (by simp only [World.size_alloc]) (B.map (Value.int .u8)).toArray 23)
  have Hb := hid b2
  have hbz := b2.size
  have Hbs := hid (show w.heap.size + 1 + 1 = ((w.alloc (.cells (A.map (Value.int .u8)).toArray 23 (0, 0))).alloc (.cells (B.map (Value.int .u8)).toArray 23 (0, 0))).heap.size by simp only [World.size_alloc])
  clear b1 b2 
  go_enter Tryd.func45, Tryd.ntmps45
  go_wp2_with fail
  go_returns
  exact ⟨rfl, Hb.out⟩

set_option maxHeartbeats 4000000 in
set_option maxRecDepth 100000 in
theorem refgrows_noc (A B : List Int) (m n : Int) (ya : Option Addr) (yn yc : Nat) (w : World) (_hA : Dg A) (_hB : Dg B) (h1 : ¬ m < 1) (h2 : ¬ n < m) (h : 200 < n) :
    Calls Tryd.prog 45 #[.agg (A.map (Value.int .u8)).toArray, .int .i64 m, .agg (B.map (Value.int .u8)).toArray, .int .i64 n, .slice ya yn yc] w fun e w' => e = .returned (.bool false) ∧ Below w.heap.size w w' := by
  have b1 := (Below.refl w.heap.size w).alloc (Nat.le_refl _) (.cells (A.map (Value.int .u8)).toArray 23 (0, 0))
  have b2 := b1.alloc b1.size (.cells (B.map (Value.int .u8)).toArray 23 (0, 0))
  have Ka := hid ((Blk.new (w := w) (n := w.heap.size) rfl (A.map (Value.int .u8)).toArray 23).old (.cells (B.map (Value.int .u8)).toArray 23 (0, 0)))
  have Kb := hid (Blk.new (w := (w.alloc (.cells (A.map (Value.int .u8)).toArray 23 (0, 0)))) (n := w.heap.size + 1) (by simp only [World.size_alloc]) (B.map (Value.int .u8)).toArray 23)
  have Hb := hid b2
  have hbz := b2.size
  have Hbs := hid (show w.heap.size + 1 + 1 = ((w.alloc (.cells (A.map (Value.int .u8)).toArray 23 (0, 0))).alloc (.cells (B.map (Value.int .u8)).toArray 23 (0, 0))).heap.size by simp only [World.size_alloc])
  clear b1 b2 
  go_enter Tryd.func45, Tryd.ntmps45
  go_wp2_with fail
  go_returns
  exact ⟨rfl, Hb.out⟩

theorem refgrows_bad (A B : List Int) (m n : Int) (ya : Option Addr) (yn yc : Nat) (w : World) (hA : Dg A) (hB : Dg B) (h : m < 1 ∨ n < m ∨ 200 < n) :
    Calls Tryd.prog 45 #[.agg (A.map (Value.int .u8)).toArray, .int .i64 m, .agg (B.map (Value.int .u8)).toArray, .int .i64 n, .slice ya yn yc] w fun e w' => e = .returned (.bool false) ∧ Below w.heap.size w w' := by
  by_cases h1 : m < 1
  · exact refgrows_noa A B m n ya yn yc w hA hB h1
  · by_cases h2 : n < m
    · exact refgrows_nob A B m n ya yn yc w hA hB h1 h2
    · exact refgrows_noc A B m n ya yn yc w hA hB h1 h2 (by omega)

set_option maxHeartbeats 4000000 in
set_option maxRecDepth 100000 in
theorem refgrows_good (A B : List Int) (m n : Nat) (ya : Option Addr) (yn yc : Nat) (ds : List (List Int)) (w : World) (hA : Dg A) (hB : Dg B) (hm1 : 1 ≤ m) (hmn : m ≤ n) (hn2 : n ≤ 200) (hW : DigsAt w ya yn yc ds) (hyn : yn ≤ 1000000) :
    Calls Tryd.prog 45 #[.agg (A.map (Value.int .u8)).toArray, .int .i64 m, .agg (B.map (Value.int .u8)).toArray, .int .i64 n, .slice ya yn yc] w fun e w' => e = .returned (.bool ((bothR n A m n false ds).2 && decide ((bothR n A m n false ds).1.1 = A) && decide ((bothR n A m n false ds).1.2 = B))) ∧ Below w.heap.size w w' := by
  have hI1 : ¬ ((m : Int) < 1) := by omega
  have hI2 : ¬ ((n : Int) < (m : Int)) := by omega
  have hI3 : ¬ ((200 : Int) < (n : Int)) := by omega
  have CB := hid (fun (W : World) (h : DigsAt W ya yn yc ds) => both_any A hA n m n false ya yn yc ds W hm1 hmn (Nat.le_refl _) hn2 hyn h)
  have hG := Dg.bothR hA n m n false ds hW.each
  have HX1 := hid hG.1
  have HX2 := hid hG.2
  have HD := hid hW
  clear hG hW
  generalize (bothR n A m n false ds).1.1 = X1 at *
  generalize (bothR n A m n false ds).1.2 = X2 at *
  generalize (bothR n A m n false ds).2 = ok at *
  have b1 := (Below.refl w.heap.size w).alloc (Nat.le_refl _) (.cells (A.map (Value.int .u8)).toArray 23 (0, 0))
  have b2 := b1.alloc b1.size (.cells (B.map (Value.int .u8)).toArray 23 (0, 0))
  have Ka := hid ((Blk.new (w := w) (n := w.heap.size) rfl (A.map (Value.int .u8)).toArray 23).old (.cells (B.map (Value.int .u8)).toArray 23 (0, 0)))
  have Kb := hid (Blk.new (w := (w.alloc (.cells (A.map (Value.int .u8)).toArray 23 (0, 0)))) (n := w.heap.size + 1) (by simp only [World.size_alloc]) (B.map (Value.int .u8)).toArray 23)
  have Hb := hid b2
  have hbz := b2.size
  have Hbs := hid (show w.heap.size + 1 + 1 = ((w.alloc (.cells (A.map (Value.int .u8)).toArray 23 (0, 0))).alloc (.cells (B.map (Value.int .u8)).toArray 23 (0, 0))).heap.size by simp only [World.size_alloc])
  clear b1 b2 
  go_enter Tryd.func45, Tryd.ntmps45
  go_wp2_with (refine wpList_load_blk rfl 23 _ rfl (w.heap.size) rfl _ 23 Ka.out _ Tryd.underlying23 rfl 32 size_digest hA.size ?_)
  refine (CB.out _ (HD.out.below Hb.out)).mono ?_
  rintro e w1 ⟨rfl, bw1⟩
  have HBw1 := hid (Below.on Hb.out bw1)
  have hsw1 := HBw1.out.size
  have Kaw1 := hid (Ka.out.below bw1)
  have Kbw1 := hid (Kb.out.below bw1)
  clear bw1
  cases ok with
  | true =>
    by_cases hx : X1 = A
    · have q1 := fun W => eqD X1 A HX1.out.len hA.len W
      have q2 := fun W => eqD X2 B HX2.out.len hB.len W
      rw [decide_eq_true hx] at q1
      have HXX := hid hx
      clear hx
      go_wp2_with (first | (
        refine wpList_store_blk rfl 23 _ _ rfl (w1.heap.size) (X1.map (Value.int .u8)).toArray rfl rfl _ 23 ((Blk.new rfl (byteCells 32 []) _).old _) 32 size_digest zsize HX1.out.size (ints_one _ _) ?_
        intro w5 hb5 hk5
        have h5 := hb5.below (((Below.refl w1.heap.size w1).alloc (Nat.le_refl _) _).alloc (by simp only [World.size_alloc]; omega) _) (by simp only [World.size_alloc]; omega) (Nat.le_refl _)
        have H5 := hid h5
        have Ku5 := hid hk5
        have Kv5 := hid (hb5.blk (Blk.new (n := w1.heap.size + 1) (by simp only [World.size_alloc]) (byteCells 32 []) 23) (by omega))
        clear hb5 hk5 h5) | (
        refine wpList_store_blk rfl 23 _ _ rfl (w1.heap.size + 1) (X2.map (Value.int .u8)).toArray rfl rfl _ 23 Kv5.out 32 size_digest zsize HX2.out.size (ints_one _ _) ?_
        intro w6 hb6 hk6
        have h6 := hb6.below H5.out H5.out.size (by omega)
        have HB6 := hid (Below.on HBw1.out h6)
        have Ku6 := hid (hb6.blk Ku5.out (by omega))
        have Kv6 := hid hk6
        have Ka6 := hid (Kaw1.out.below h6)
        have Kb6 := hid (Kbw1.out.below h6)
        clear hb6 hk6 h6) | (refine wpList_load_blk_if (by first | rfl | go_simp) 23 _ rfl (w1.heap.size) rfl _ 23 Ku6.out _ Tryd.underlying23 rfl 32 size_digest HX1.out.size ?_) | (refine wpList_load_blk_if (by first | rfl | go_simp) 23 _ rfl (w.heap.size) rfl _ 23 Ka6.out _ Tryd.underlying23 rfl 32 size_digest hA.size ?_) | (refine wpList_load_blk_if (by first | rfl | go_simp) 23 _ rfl (w1.heap.size + 1) rfl _ 23 Kv6.out _ Tryd.underlying23 rfl 32 size_digest HX2.out.size ?_) | (refine wpList_load_blk_if (by first | rfl | go_simp) 23 _ rfl (w.heap.size + 1) rfl _ 23 Kb6.out _ Tryd.underlying23 rfl 32 size_digest hB.size ?_))
      go_returns
      exact ⟨by first | rfl | simp [HXX.out], HB6.out⟩
    · have q1 := fun W => eqD X1 A HX1.out.len hA.len W
      rw [decide_eq_false hx] at q1
      go_wp2_with (first | (
        refine wpList_store_blk rfl 23 _ _ rfl (w1.heap.size) (X1.map (Value.int .u8)).toArray rfl rfl _ 23 ((Blk.new rfl (byteCells 32 []) _).old _) 32 size_digest zsize HX1.out.size (ints_one _ _) ?_
        intro w5 hb5 hk5
        have h5 := hb5.below (((Below.refl w1.heap.size w1).alloc (Nat.le_refl _) _).alloc (by simp only [World.size_alloc]; omega) _) (by simp only [World.size_alloc]; omega) (Nat.le_refl _)
        have H5 := hid h5
        have Ku5 := hid hk5
        have Kv5 := hid (hb5.blk (Blk.new (n := w1.heap.size + 1) (by simp only [World.size_alloc]) (byteCells 32 []) 23) (by omega))
        clear hb5 hk5 h5) | (
        refine wpList_store_blk rfl 23 _ _ rfl (w1.heap.size + 1) (X2.map (Value.int .u8)).toArray rfl rfl _ 23 Kv5.out 32 size_digest zsize HX2.out.size (ints_one _ _) ?_
        intro w6 hb6 hk6
        have h6 := hb6.below H5.out H5.out.size (by omega)
        have HB6 := hid (Below.on HBw1.out h6)
        have Ku6 := hid (hb6.blk Ku5.out (by omega))
        have Kv6 := hid hk6
        have Ka6 := hid (Kaw1.out.below h6)
        have Kb6 := hid (Kbw1.out.below h6)
        clear hb6 hk6 h6) | (refine wpList_load_blk_if (by first | rfl | go_simp) 23 _ rfl (w1.heap.size) rfl _ 23 Ku6.out _ Tryd.underlying23 rfl 32 size_digest HX1.out.size ?_) | (refine wpList_load_blk_if (by first | rfl | go_simp) 23 _ rfl (w.heap.size) rfl _ 23 Ka6.out _ Tryd.underlying23 rfl 32 size_digest hA.size ?_))
      go_returns
      exact ⟨by first | rfl | simp [hx], HB6.out⟩
  | false =>
    go_wp2_with (first | (
        refine wpList_store_blk rfl 23 _ _ rfl (w1.heap.size) (X1.map (Value.int .u8)).toArray rfl rfl _ 23 ((Blk.new rfl (byteCells 32 []) _).old _) 32 size_digest zsize HX1.out.size (ints_one _ _) ?_
        intro w5 hb5 hk5
        have h5 := hb5.below (((Below.refl w1.heap.size w1).alloc (Nat.le_refl _) _).alloc (by simp only [World.size_alloc]; omega) _) (by simp only [World.size_alloc]; omega) (Nat.le_refl _)
        have H5 := hid h5
        have Ku5 := hid hk5
        have Kv5 := hid (hb5.blk (Blk.new (n := w1.heap.size + 1) (by simp only [World.size_alloc]) (byteCells 32 []) 23) (by omega))
        clear hb5 hk5 h5) | (
        refine wpList_store_blk rfl 23 _ _ rfl (w1.heap.size + 1) (X2.map (Value.int .u8)).toArray rfl rfl _ 23 Kv5.out 32 size_digest zsize HX2.out.size (ints_one _ _) ?_
        intro w6 hb6 hk6
        have h6 := hb6.below H5.out H5.out.size (by omega)
        have HB6 := hid (Below.on HBw1.out h6)
        have Ku6 := hid (hb6.blk Ku5.out (by omega))
        have Kv6 := hid hk6
        have Ka6 := hid (Kaw1.out.below h6)
        have Kb6 := hid (Kbw1.out.below h6)
        clear hb6 hk6 h6) | fail)
    go_returns
    exact ⟨by first | rfl | simp, HB6.out⟩
end Go.Proofs.YthaicocfbmpnmaaDoor
