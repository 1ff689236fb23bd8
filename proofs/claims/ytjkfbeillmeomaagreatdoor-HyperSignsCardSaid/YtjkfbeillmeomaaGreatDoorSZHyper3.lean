/-
  Layer 11: keys, and what is refused: the walks.
-/
import Derived.Test.YtjkfbeillmeomaaGreatDoorSZHyper2
namespace Go.Proofs.YtjkfbeillmeomaaGreatDoor
set_option maxRecDepth 100000
open Go.ChangeShapes Go.WideShapes Go.ChangeAt Go.RowKit
theorem zPub_size : zPub.toArray.size = 66 := by decide
theorem zSig_size : zSig.toArray.size = 34 := by decide
set_option maxHeartbeats 4000000 in
theorem small_bad (L V m : Int) (w : World) (hr : rightS L V = false) : Calls Tryz.prog 4 #[.agg (shC L V), .int .i64 m] w fun e w' => e = .returned (.bool true) ∧ Below w.heap.size w w' := by
  have b1 := (Below.refl w.heap.size w).alloc (Nat.le_refl _) (.cells (shC L V) 23 (0, 0))
  have Ksh := hid (Blk.new (w := w) (n := w.heap.size) rfl (shC L V) 23)
  have Hb := hid b1
  clear b1
  go_enter Tryz.func4, Tryz.ntmps4
  go_wp2_with fail
  refine wp_region_flow 13 (List.range 13) [] [] (by kernel_rfl) (by kernel_rfl) ?_
  apply Exists.intro
  refine ⟨fun w0 hb0 hF0 => ?_, ?_⟩
  · skip
    have c0 := fun e : Ext w0 => refright_b L V false hr e.at_
    have xs : ∀ w', (∃ x : Ext w0, w' = x.at_) → ∃ T, Blk w' (w.heap.size) (shC L V) T := fun w' ⟨x, hx⟩ => ⟨_, hx ▸ (Ksh.out.below hb0).below x.same⟩
    simp only [pick, List.range, List.range.loop, List.getElem?_toArray, List.getElem?_cons_succ, List.getElem?_cons_zero, Option.toList_some, List.cons_append, List.nil_append]
    repeat (first | (go_big_quiet_want; refine quiet_load_blk 23 _ rfl (w.heap.size) rfl _ xs _ Tryz.underlying23 rfl 2 size_shape rfl ?_; go_big_quiet_on; simp only [Act.put, List.setIfInBounds_toArray, List.set_cons_zero, List.set_cons_succ]) | go_big_quiet_step (first | (go_at_call 8; with_reducible exact Calls.ext (c0 _))))
    exact wpQuiet_nil rfl
  refine AlChk.nil ?_
  refine Walk.fin fun w1 hw1 _ _ => ?_
  simp only [List.drop_succ_cons, List.drop_zero]
  have HBw1 := hid (Below.on Hb.out hw1)
  have hsw1 := HBw1.out.size
  have Kshw1 := hid (Ksh.out.below hw1)
  clear hw1
  go_wp2_with fail
  go_returns
  exact ⟨rfl, HBw1.out⟩
set_option maxHeartbeats 4000000 in
theorem small_1 (n : Nat) (m : Int) (r : Bool) (w : World) (hr : rightS 1 n = true) (hn : 1 ≤ n ∧ n ≤ 4) (hb : decide (1 * ((2 ^ n : Nat) : Int) ≤ m) = r) : Calls Tryz.prog 4 #[.agg (shC 1 n), .int .i64 m] w fun e w' => e = .returned (.bool r) ∧ Below w.heap.size w w' := by
  have hp16 : 2 ^ n ≤ 16 := by
    rcases (show n = 1 ∨ n = 2 ∨ n = 3 ∨ n = 4 by omega) with rfl | rfl | rfl | rfl <;> decide
  have CP := hid (fun W : World => power_any n (by omega) W)
  generalize 2 ^ n = p at *
  have hb2 : decide (1 * (p : Int) ≤ m) = r := hb
  have b1 := (Below.refl w.heap.size w).alloc (Nat.le_refl _) (.cells (shC 1 (n : Int)) 23 (0, 0))
  have Ksh := hid (Blk.new (w := w) (n := w.heap.size) rfl (shC 1 (n : Int)) 23)
  have Hb := hid b1
  clear b1
  go_enter Tryz.func4, Tryz.ntmps4
  go_wp2_with fail
  refine wp_region_flow 13 (List.range 13) [] [] (by kernel_rfl) (by kernel_rfl) ?_
  apply Exists.intro
  refine ⟨fun w0 hb0 hF0 => ?_, ?_⟩
  · skip
    have c0 := fun e : Ext w0 => refright_b 1 (n : Int) true hr e.at_
    have c1 := fun e : Ext w0 => CP.out e.at_
    have xs : ∀ w', (∃ x : Ext w0, w' = x.at_) → ∃ T, Blk w' (w.heap.size) (shC 1 (n : Int)) T := fun w' ⟨x, hx⟩ => ⟨_, hx ▸ (Ksh.out.below hb0).below x.same⟩
    have y0 : ∀ w', (∃ x : Ext w0, w' = x.at_) → w'.cell? ⟨w.heap.size, 0, none⟩ = some (.int .i64 1) := fun w' ⟨x, hx⟩ => by rw [hx, (((Ksh.out).below hb0).below x.same).cell]; rfl
    have y1 : ∀ w', (∃ x : Ext w0, w' = x.at_) → w'.cell? ⟨w.heap.size, 1, none⟩ = some (.int .i64 (n : Int)) := fun w' ⟨x, hx⟩ => by rw [hx, (((Ksh.out).below hb0).below x.same).cell]; rfl
    simp only [pick, List.range, List.range.loop, List.getElem?_toArray, List.getElem?_cons_succ, List.getElem?_cons_zero, Option.toList_some, List.cons_append, List.nil_append]
    repeat (first | (go_big_quiet_want; refine quiet_load_blk 23 _ rfl (w.heap.size) rfl _ xs _ Tryz.underlying23 rfl 2 size_shape rfl ?_; go_big_quiet_on; simp only [Act.put, List.setIfInBounds_toArray, List.set_cons_zero, List.set_cons_succ]) | (go_big_quiet_want; refine quiet_load_one 3 _ rfl ⟨w.heap.size, 0, none⟩ rfl _ y0 _ Tryz.underlying3 rfl ?_; go_big_quiet_on; simp only [Act.put, List.setIfInBounds_toArray, List.set_cons_zero, List.set_cons_succ]) | (go_big_quiet_want; refine quiet_load_one 3 _ rfl ⟨w.heap.size, 1, none⟩ rfl _ y1 _ Tryz.underlying3 rfl ?_; go_big_quiet_on; simp only [Act.put, List.setIfInBounds_toArray, List.set_cons_zero, List.set_cons_succ]) | go_big_quiet_step (first | (go_at_call 8; with_reducible exact Calls.ext (c0 _)) | (go_at_call 13; with_reducible exact Calls.ext (c1 _))))
    exact wpQuiet_nil rfl
  refine AlChk.nil ?_
  refine Walk.fin fun w1 hw1 _ _ => ?_
  simp only [List.drop_succ_cons, List.drop_zero]
  have HBw1 := hid (Below.on Hb.out hw1)
  have hsw1 := HBw1.out.size
  have Kshw1 := hid (Ksh.out.below hw1)
  clear hw1
  go_wp2_with fail
  go_returns
  exact ⟨by rw [← hb2, Int.one_mul]; rfl, HBw1.out⟩
set_option maxHeartbeats 4000000 in
theorem small_2 (n : Nat) (m : Int) (r : Bool) (w : World) (hr : rightS 2 n = true) (hn : 1 ≤ n ∧ n ≤ 4) (hb : decide (2 * ((2 ^ n : Nat) : Int) ≤ m) = r) : Calls Tryz.prog 4 #[.agg (shC 2 n), .int .i64 m] w fun e w' => e = .returned (.bool r) ∧ Below w.heap.size w w' := by
  have hp16 : 2 ^ n ≤ 16 := by
    rcases (show n = 1 ∨ n = 2 ∨ n = 3 ∨ n = 4 by omega) with rfl | rfl | rfl | rfl <;> decide
  have CP := hid (fun W : World => power_any n (by omega) W)
  generalize 2 ^ n = p at *
  have hb2 : decide (2 * (p : Int) ≤ m) = r := hb
  have b1 := (Below.refl w.heap.size w).alloc (Nat.le_refl _) (.cells (shC 2 (n : Int)) 23 (0, 0))
  have Ksh := hid (Blk.new (w := w) (n := w.heap.size) rfl (shC 2 (n : Int)) 23)
  have Hb := hid b1
  clear b1
  go_enter Tryz.func4, Tryz.ntmps4
  go_wp2_with fail
  refine wp_region_flow 13 (List.range 13) [] [] (by kernel_rfl) (by kernel_rfl) ?_
  apply Exists.intro
  refine ⟨fun w0 hb0 hF0 => ?_, ?_⟩
  · skip
    have c0 := fun e : Ext w0 => refright_b 2 (n : Int) true hr e.at_
    have c1 := fun e : Ext w0 => CP.out e.at_
    have xs : ∀ w', (∃ x : Ext w0, w' = x.at_) → ∃ T, Blk w' (w.heap.size) (shC 2 (n : Int)) T := fun w' ⟨x, hx⟩ => ⟨_, hx ▸ (Ksh.out.below hb0).below x.same⟩
    have y0 : ∀ w', (∃ x : Ext w0, w' = x.at_) → w'.cell? ⟨w.heap.size, 0, none⟩ = some (.int .i64 2) := fun w' ⟨x, hx⟩ => by rw [hx, (((Ksh.out).below hb0).below x.same).cell]; rfl
    have y1 : ∀ w', (∃ x : Ext w0, w' = x.at_) → w'.cell? ⟨w.heap.size, 1, none⟩ = some (.int .i64 (n : Int)) := fun w' ⟨x, hx⟩ => by rw [hx, (((Ksh.out).below hb0).below x.same).cell]; rfl
    simp only [pick, List.range, List.range.loop, List.getElem?_toArray, List.getElem?_cons_succ, List.getElem?_cons_zero, Option.toList_some, List.cons_append, List.nil_append]
    repeat (first | (go_big_quiet_want; refine quiet_load_blk 23 _ rfl (w.heap.size) rfl _ xs _ Tryz.underlying23 rfl 2 size_shape rfl ?_; go_big_quiet_on; simp only [Act.put, List.setIfInBounds_toArray, List.set_cons_zero, List.set_cons_succ]) | (go_big_quiet_want; refine quiet_load_one 3 _ rfl ⟨w.heap.size, 0, none⟩ rfl _ y0 _ Tryz.underlying3 rfl ?_; go_big_quiet_on; simp only [Act.put, List.setIfInBounds_toArray, List.set_cons_zero, List.set_cons_succ]) | (go_big_quiet_want; refine quiet_load_one 3 _ rfl ⟨w.heap.size, 1, none⟩ rfl _ y1 _ Tryz.underlying3 rfl ?_; go_big_quiet_on; simp only [Act.put, List.setIfInBounds_toArray, List.set_cons_zero, List.set_cons_succ]) | go_big_quiet_step (first | (go_at_call 8; with_reducible exact Calls.ext (c0 _)) | (go_at_call 13; with_reducible exact Calls.ext (c1 _))))
    exact wpQuiet_nil rfl
  refine AlChk.nil ?_
  refine Walk.fin fun w1 hw1 _ _ => ?_
  simp only [List.drop_succ_cons, List.drop_zero]
  have HBw1 := hid (Below.on Hb.out hw1)
  have hsw1 := HBw1.out.size
  have Kshw1 := hid (Ksh.out.below hw1)
  clear hw1
  go_wp2_with fail
  go_returns
  exact ⟨rfl, HBw1.out⟩
set_option maxHeartbeats 4000000 in
theorem small_3 (n : Nat) (m : Int) (r : Bool) (w : World) (hr : rightS 3 n = true) (hn : 1 ≤ n ∧ n ≤ 4) (hb : decide (3 * ((2 ^ n : Nat) : Int) ≤ m) = r) : Calls Tryz.prog 4 #[.agg (shC 3 n), .int .i64 m] w fun e w' => e = .returned (.bool r) ∧ Below w.heap.size w w' := by
  have hp16 : 2 ^ n ≤ 16 := by
    rcases (show n = 1 ∨ n = 2 ∨ n = 3 ∨ n = 4 by omega) with rfl | rfl | rfl | rfl <;> decide
  have CP := hid (fun W : World => power_any n (by omega) W)
  generalize 2 ^ n = p at *
  have hb2 : decide (3 * (p : Int) ≤ m) = r := hb
  have b1 := (Below.refl w.heap.size w).alloc (Nat.le_refl _) (.cells (shC 3 (n : Int)) 23 (0, 0))
  have Ksh := hid (Blk.new (w := w) (n := w.heap.size) rfl (shC 3 (n : Int)) 23)
  have Hb := hid b1
  clear b1
  go_enter Tryz.func4, Tryz.ntmps4
  go_wp2_with fail
  refine wp_region_flow 13 (List.range 13) [] [] (by kernel_rfl) (by kernel_rfl) ?_
  apply Exists.intro
  refine ⟨fun w0 hb0 hF0 => ?_, ?_⟩
  · skip
    have c0 := fun e : Ext w0 => refright_b 3 (n : Int) true hr e.at_
    have c1 := fun e : Ext w0 => CP.out e.at_
    have xs : ∀ w', (∃ x : Ext w0, w' = x.at_) → ∃ T, Blk w' (w.heap.size) (shC 3 (n : Int)) T := fun w' ⟨x, hx⟩ => ⟨_, hx ▸ (Ksh.out.below hb0).below x.same⟩
    have y0 : ∀ w', (∃ x : Ext w0, w' = x.at_) → w'.cell? ⟨w.heap.size, 0, none⟩ = some (.int .i64 3) := fun w' ⟨x, hx⟩ => by rw [hx, (((Ksh.out).below hb0).below x.same).cell]; rfl
    have y1 : ∀ w', (∃ x : Ext w0, w' = x.at_) → w'.cell? ⟨w.heap.size, 1, none⟩ = some (.int .i64 (n : Int)) := fun w' ⟨x, hx⟩ => by rw [hx, (((Ksh.out).below hb0).below x.same).cell]; rfl
    simp only [pick, List.range, List.range.loop, List.getElem?_toArray, List.getElem?_cons_succ, List.getElem?_cons_zero, Option.toList_some, List.cons_append, List.nil_append]
    repeat (first | (go_big_quiet_want; refine quiet_load_blk 23 _ rfl (w.heap.size) rfl _ xs _ Tryz.underlying23 rfl 2 size_shape rfl ?_; go_big_quiet_on; simp only [Act.put, List.setIfInBounds_toArray, List.set_cons_zero, List.set_cons_succ]) | (go_big_quiet_want; refine quiet_load_one 3 _ rfl ⟨w.heap.size, 0, none⟩ rfl _ y0 _ Tryz.underlying3 rfl ?_; go_big_quiet_on; simp only [Act.put, List.setIfInBounds_toArray, List.set_cons_zero, List.set_cons_succ]) | (go_big_quiet_want; refine quiet_load_one 3 _ rfl ⟨w.heap.size, 1, none⟩ rfl _ y1 _ Tryz.underlying3 rfl ?_; go_big_quiet_on; simp only [Act.put, List.setIfInBounds_toArray, List.set_cons_zero, List.set_cons_succ]) | go_big_quiet_step (first | (go_at_call 8; with_reducible exact Calls.ext (c0 _)) | (go_at_call 13; with_reducible exact Calls.ext (c1 _))))
    exact wpQuiet_nil rfl
  refine AlChk.nil ?_
  refine Walk.fin fun w1 hw1 _ _ => ?_
  simp only [List.drop_succ_cons, List.drop_zero]
  have HBw1 := hid (Below.on Hb.out hw1)
  have hsw1 := HBw1.out.size
  have Kshw1 := hid (Ksh.out.below hw1)
  clear hw1
  go_wp2_with fail
  go_returns
  exact ⟨rfl, HBw1.out⟩
set_option maxHeartbeats 4000000 in
theorem small_4 (n : Nat) (m : Int) (r : Bool) (w : World) (hr : rightS 4 n = true) (hn : 1 ≤ n ∧ n ≤ 4) (hb : decide (4 * ((2 ^ n : Nat) : Int) ≤ m) = r) : Calls Tryz.prog 4 #[.agg (shC 4 n), .int .i64 m] w fun e w' => e = .returned (.bool r) ∧ Below w.heap.size w w' := by
  have hp16 : 2 ^ n ≤ 16 := by
    rcases (show n = 1 ∨ n = 2 ∨ n = 3 ∨ n = 4 by omega) with rfl | rfl | rfl | rfl <;> decide
  have CP := hid (fun W : World => power_any n (by omega) W)
  generalize 2 ^ n = p at *
  have hb2 : decide (4 * (p : Int) ≤ m) = r := hb
  have b1 := (Below.refl w.heap.size w).alloc (Nat.le_refl _) (.cells (shC 4 (n : Int)) 23 (0, 0))
  have Ksh := hid (Blk.new (w := w) (n := w.heap.size) rfl (shC 4 (n : Int)) 23)
  have Hb := hid b1
  clear b1
  go_enter Tryz.func4, Tryz.ntmps4
  go_wp2_with fail
  refine wp_region_flow 13 (List.range 13) [] [] (by kernel_rfl) (by kernel_rfl) ?_
  apply Exists.intro
  refine ⟨fun w0 hb0 hF0 => ?_, ?_⟩
  · skip
    have c0 := fun e : Ext w0 => refright_b 4 (n : Int) true hr e.at_
    have c1 := fun e : Ext w0 => CP.out e.at_
    have xs : ∀ w', (∃ x : Ext w0, w' = x.at_) → ∃ T, Blk w' (w.heap.size) (shC 4 (n : Int)) T := fun w' ⟨x, hx⟩ => ⟨_, hx ▸ (Ksh.out.below hb0).below x.same⟩
    have y0 : ∀ w', (∃ x : Ext w0, w' = x.at_) → w'.cell? ⟨w.heap.size, 0, none⟩ = some (.int .i64 4) := fun w' ⟨x, hx⟩ => by rw [hx, (((Ksh.out).below hb0).below x.same).cell]; rfl
    have y1 : ∀ w', (∃ x : Ext w0, w' = x.at_) → w'.cell? ⟨w.heap.size, 1, none⟩ = some (.int .i64 (n : Int)) := fun w' ⟨x, hx⟩ => by rw [hx, (((Ksh.out).below hb0).below x.same).cell]; rfl
    simp only [pick, List.range, List.range.loop, List.getElem?_toArray, List.getElem?_cons_succ, List.getElem?_cons_zero, Option.toList_some, List.cons_append, List.nil_append]
    repeat (first | (go_big_quiet_want; refine quiet_load_blk 23 _ rfl (w.heap.size) rfl _ xs _ Tryz.underlying23 rfl 2 size_shape rfl ?_; go_big_quiet_on; simp only [Act.put, List.setIfInBounds_toArray, List.set_cons_zero, List.set_cons_succ]) | (go_big_quiet_want; refine quiet_load_one 3 _ rfl ⟨w.heap.size, 0, none⟩ rfl _ y0 _ Tryz.underlying3 rfl ?_; go_big_quiet_on; simp only [Act.put, List.setIfInBounds_toArray, List.set_cons_zero, List.set_cons_succ]) | (go_big_quiet_want; refine quiet_load_one 3 _ rfl ⟨w.heap.size, 1, none⟩ rfl _ y1 _ Tryz.underlying3 rfl ?_; go_big_quiet_on; simp only [Act.put, List.setIfInBounds_toArray, List.set_cons_zero, List.set_cons_succ]) | go_big_quiet_step (first | (go_at_call 8; with_reducible exact Calls.ext (c0 _)) | (go_at_call 13; with_reducible exact Calls.ext (c1 _))))
    exact wpQuiet_nil rfl
  refine AlChk.nil ?_
  refine Walk.fin fun w1 hw1 _ _ => ?_
  simp only [List.drop_succ_cons, List.drop_zero]
  have HBw1 := hid (Below.on Hb.out hw1)
  have hsw1 := HBw1.out.size
  have Kshw1 := hid (Ksh.out.below hw1)
  clear hw1
  go_wp2_with fail
  go_returns
  exact ⟨rfl, HBw1.out⟩
theorem small_good (L : Int) (n : Nat) (m : Int) (r : Bool) (w : World) (hr : rightS L n = true) (hb : decide (L * ((2 ^ n : Nat) : Int) ≤ m) = r) : Calls Tryz.prog 4 #[.agg (shC L n), .int .i64 m] w fun e w' => e = .returned (.bool r) ∧ Below w.heap.size w w' := by
  have hr2 := hr
  simp only [rightS, decide_eq_true_eq] at hr2
  rcases (show L = 1 ∨ L = 2 ∨ L = 3 ∨ L = 4 by omega) with rfl | rfl | rfl | rfl
  · exact small_1 n m r w hr (by omega) hb
  · exact small_2 n m r w hr (by omega) hb
  · exact small_3 n m r w hr (by omega) hb
  · exact small_4 n m r w hr (by omega) hb
set_option maxHeartbeats 4000000 in
theorem key_bad (L V : Int) (vs : Array Value) (w : World) (hr : rightS L V = false) : Calls Tryz.prog 14 #[.agg (shC L V), .agg vs] w fun e w' => e = .returned (.tuple #[.agg (pubC 0 0 zD zD).toArray, .int .i64 1]) ∧ Below w.heap.size w w' := by
  have b1 := (Below.refl w.heap.size w).alloc (Nat.le_refl _) (.cells (shC L V) 23 (0, 0))
  have b2 := b1.alloc b1.size (.cells vs 29 (0, 0))
  have b3 := b2.alloc b2.size (.cells zPub.toArray 27 (0, 0))
  have Ksh := hid (((Blk.new (w := w) (n := w.heap.size) rfl (shC L V) 23).old (.cells vs 29 (0, 0))).old (.cells zPub.toArray 27 (0, 0)))
  have Kse := hid ((Blk.new (w := w.alloc (.cells (shC L V) 23 (0, 0))) (n := w.heap.size + 1) (by simp only [World.size_alloc]) vs 29).old (.cells zPub.toArray 27 (0, 0)))
  have Kr := hid (Blk.new (w := (w.alloc (.cells (shC L V) 23 (0, 0))).alloc (.cells vs 29 (0, 0))) (n := w.heap.size + 1 + 1) (by simp only [World.size_alloc]) zPub.toArray 27)
  have Hb := hid b3
  have hs3 := b3.size
  have HzA := hid zsize
  clear b1 b2 b3
  go_enter Tryz.func14, Tryz.ntmps14
  go_wp2_with (refine wpList_load_blk rfl 23 _ rfl (w.heap.size) rfl _ 23 Ksh.out _ Tryz.underlying23 rfl 2 size_shape rfl ?_)
  refine (hright_b L V false hr _).mono ?_
  rintro e w1 ⟨rfl, bw1⟩
  have HBw1 := hid (Below.on Hb.out bw1)
  have hsw1 := HBw1.out.size
  have Kshw1 := hid (Ksh.out.below bw1)
  have Ksew1 := hid (Kse.out.below bw1)
  have Krw1 := hid (Kr.out.below bw1)
  clear bw1
  go_wp2_with (
      refine wpList_store_blk rfl 27 _ _ rfl (w.heap.size + 1 + 1) (pubC 0 0 zD zD).toArray rfl rfl _ 27 Krw1.out 66 size_public zPub_size zPub_size (pubC_ones _ _ _ _) ?_
      intro w9 hb9 hk9
      have HB9 := hid (hb9.below HBw1.out HBw1.out.size (by omega))
      have HK9 := hid hk9
      clear hb9 hk9)
  exact bodyPost_ret (v := .tuple #[.agg (pubC 0 0 zD zD).toArray, .int .i64 1]) (results_blk_tmp Tryz.results14 _ (w.heap.size + 1 + 1) rfl _ rfl _ 27 HK9.out _ Tryz.underlying27 rfl 66 size_public zPub_size) rfl ⟨rfl, HB9.out⟩
end Go.Proofs.YtjkfbeillmeomaaGreatDoor
