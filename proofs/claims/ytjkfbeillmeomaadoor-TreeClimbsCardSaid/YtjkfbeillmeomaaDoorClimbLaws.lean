/-
  Layer 10: TreeClimbs.
-/
import Derived.Test.YtjkfbeillmeomaaDoorClimbK
namespace Go.Proofs.YtjkfbeillmeomaaDoor
open Go.ChangeShapes Go.WideShapes Go.ChangeAt Go.RowKit

theorem may_b (n i : Int) (b : Bool) (hb : rightZ n i = b) (w : World) : Calls Tryd.prog 33 #[.int .i64 n, .int .i64 i] w fun e w' => e = .returned (.bool b) ∧ Below w.heap.size w w' :=
  (may_any n i w).mono fun e w' h => by
    obtain ⟨rfl, rfl⟩ := h
    exact ⟨by rw [hb], Below.refl _ _⟩

set_option maxHeartbeats 4000000 in
set_option maxRecDepth 100000 in
theorem treeClimbs_long (na : Option Addr) (n nc : Nat) (way : List (List Int)) (dx pub : List Int) (i la tr : Int) (w : World) (tab : ShaTab w) (hN : DigsAt w na n nc way) (hn : 20 < n) :
    Calls Tryd.prog 10 #[(.agg (dx.map (Value.int .u8)).toArray), .slice na n nc, .int .i64 i, (.agg (pub.map (Value.int .u8)).toArray), .int .u32 la, .int .u64 tr] w fun e w' => e = .returned (.bool true) ∧ Below w.heap.size w w' := by
  have HN0 := hid hN
  have hle := hN.le
  have hmx := hN.max
  have hn2 : (20 : Int) < (n : Int) := by omega
  have b1 := (Below.refl w.heap.size w).alloc (Nat.le_refl _) (.cells (dx.map (Value.int .u8)).toArray 23 (0, 0))
  have b2 := b1.alloc b1.size (.cells (pub.map (Value.int .u8)).toArray 23 (0, 0))
  have Kd := hid ((Blk.new (w := w) (n := w.heap.size) rfl (dx.map (Value.int .u8)).toArray 23).old (.cells (pub.map (Value.int .u8)).toArray 23 (0, 0)))
  have Kp := hid (Blk.new (w := (w.alloc (.cells (dx.map (Value.int .u8)).toArray 23 (0, 0)))) (n := w.heap.size + 1) (by simp only [World.size_alloc]) (pub.map (Value.int .u8)).toArray 23)
  have Hb := hid b2
  have HzA := hid zsize
  have hbz := b2.size
  have Hbs := hid (show w.heap.size + 1 + 1 = ((w.alloc (.cells (dx.map (Value.int .u8)).toArray 23 (0, 0))).alloc (.cells (pub.map (Value.int .u8)).toArray 23 (0, 0))).heap.size by simp only [World.size_alloc])
  have Htab := hid tab
  clear b1 b2 tab
  go_enter Tryd.func10, Tryd.ntmps10
  go_wp2_with fail
  refine (knows10 _ (Htab.out.below Hb.out)).mono ?_
  rintro e w1 ⟨rfl, bw1⟩
  have HBw1 := hid (Below.on Hb.out bw1)
  have hsw1 := HBw1.out.size
  have Kdw1 := hid (Kd.out.below bw1)
  have Kpw1 := hid (Kp.out.below bw1)
  clear bw1
  go_wp2_with fail
  go_returns
  exact ⟨rfl, HBw1.out⟩

set_option maxHeartbeats 4000000 in
set_option maxRecDepth 100000 in
theorem treeClimbs_bad (na : Option Addr) (n nc : Nat) (way : List (List Int)) (dx pub : List Int) (i la tr : Int) (w : World) (tab : ShaTab w) (hN : DigsAt w na n nc way) (hx : Dg dx) (hpub : Dg pub) (hn20 : n ≤ 20) (hr : rightZ (n : Int) i = false) :
    Calls Tryd.prog 10 #[(.agg (dx.map (Value.int .u8)).toArray), .slice na n nc, .int .i64 i, (.agg (pub.map (Value.int .u8)).toArray), .int .u32 la, .int .u64 tr] w fun e w' => e = .returned (.bool true) ∧ Below w.heap.size w w' := by
  have HN0 := hid hN
  have hle := hN.le
  have hmx := hN.max
  have hn2 : ¬ ((20 : Int) < (n : Int)) := by omega
  have q1 : ∀ W : World, (binOp .eql 23 (.agg (zD.map (Value.int .u8)).toArray) (.agg #[.int .u8 0, .int .u8 0, .int .u8 0, .int .u8 0, .int .u8 0, .int .u8 0, .int .u8 0, .int .u8 0, .int .u8 0, .int .u8 0, .int .u8 0, .int .u8 0, .int .u8 0, .int .u8 0, .int .u8 0, .int .u8 0, .int .u8 0, .int .u8 0, .int .u8 0, .int .u8 0, .int .u8 0, .int .u8 0, .int .u8 0, .int .u8 0, .int .u8 0, .int .u8 0, .int .u8 0, .int .u8 0, .int .u8 0, .int .u8 0, .int .u8 0, .int .u8 0])).run Tryd.prog W = .ok (.bool true) W := eqD_self zD Dg.zero.len
  have b1 := (Below.refl w.heap.size w).alloc (Nat.le_refl _) (.cells (dx.map (Value.int .u8)).toArray 23 (0, 0))
  have b2 := b1.alloc b1.size (.cells (pub.map (Value.int .u8)).toArray 23 (0, 0))
  have Kd := hid ((Blk.new (w := w) (n := w.heap.size) rfl (dx.map (Value.int .u8)).toArray 23).old (.cells (pub.map (Value.int .u8)).toArray 23 (0, 0)))
  have Kp := hid (Blk.new (w := (w.alloc (.cells (dx.map (Value.int .u8)).toArray 23 (0, 0)))) (n := w.heap.size + 1) (by simp only [World.size_alloc]) (pub.map (Value.int .u8)).toArray 23)
  have Hb := hid b2
  have HzA := hid zsize
  have hbz := b2.size
  have Hbs := hid (show w.heap.size + 1 + 1 = ((w.alloc (.cells (dx.map (Value.int .u8)).toArray 23 (0, 0))).alloc (.cells (pub.map (Value.int .u8)).toArray 23 (0, 0))).heap.size by simp only [World.size_alloc])
  have Htab := hid tab
  clear b1 b2 tab
  go_enter Tryd.func10, Tryd.ntmps10
  go_wp2_with (first
     | (refine wpList_load_blk rfl 23 _ rfl (w.heap.size) rfl _ 23 Kd.out _ Tryd.underlying23 rfl 32 size_digest hx.size ?_)
     | (refine wpList_load_blk rfl 23 _ rfl (w.heap.size + 1) rfl _ 23 Kp.out _ Tryd.underlying23 rfl 32 size_digest hpub.size ?_))
  refine (climb_bad dx pub na n nc i la tr _ hr).mono ?_
  rintro e w1 ⟨rfl, bw1⟩
  have HBw1 := hid (Below.on Hb.out bw1)
  have hsw1 := HBw1.out.size
  have Kdw1 := hid (Kd.out.below bw1)
  have Kpw1 := hid (Kp.out.below bw1)
  clear bw1
  go_wp2_with (
        refine wpList_store_blk rfl 23 _ _ rfl (w1.heap.size) (zD.map (Value.int .u8)).toArray rfl rfl _ 23 (Blk.new rfl (byteCells 32 []) _) 32 size_digest HzA.out Dg.zero.size (ints_one _ _) ?_
        intro w2 hbw2 hkw2
        have HBw2 := hid (hbw2.below (HBw1.out.alloc HBw1.out.size _) (by simp only [World.size_alloc]; omega) (by have := HBw1.out.size; omega))
        have hsw2 := HBw2.out.size
        have Kxw2 := hid hkw2
        have Kdw2 := hid (hbw2.blk (Kdw1.out.old _) (by have := Kdw1.out.lt; omega))
        have Kpw2 := hid (hbw2.blk (Kpw1.out.old _) (by have := Kpw1.out.lt; omega))
        clear hbw2 hkw2)
  refine (may_b n i false hr _).mono ?_
  rintro e w3 ⟨rfl, bw3⟩
  have HBw3 := hid (Below.on HBw2.out bw3)
  have hsw3 := HBw3.out.size
  have Kdw3 := hid (Kdw2.out.below bw3)
  have Kpw3 := hid (Kpw2.out.below bw3)
  have Kxw3 := hid (Kxw2.out.below bw3)
  clear bw3
  go_wp2_with (refine wpList_load_blk rfl 23 _ rfl (w1.heap.size) rfl _ 23 Kxw3.out _ Tryd.underlying23 rfl 32 size_digest Dg.zero.size ?_)
  refine (knows10 _ (Htab.out.below HBw3.out)).mono ?_
  rintro e w4 ⟨rfl, bw4⟩
  have HBw4 := hid (Below.on HBw3.out bw4)
  have hsw4 := HBw4.out.size
  have Kdw4 := hid (Kdw3.out.below bw4)
  have Kpw4 := hid (Kpw3.out.below bw4)
  have Kxw4 := hid (Kxw3.out.below bw4)
  clear bw4
  go_wp2_with fail
  go_returns
  exact ⟨rfl, HBw4.out⟩

set_option maxHeartbeats 4000000 in
set_option maxRecDepth 100000 in
theorem treeClimbs_good (na : Option Addr) (n nc : Nat) (way : List (List Int)) (dx pub : List Int) (i la tr : Int) (w : World) (tab : ShaTab w) (hN : DigsAt w na n nc way) (hx : Dg dx) (hpub : Dg pub) (hla : 0 ≤ la ∧ la < 4294967296) (htr : 0 ≤ tr ∧ tr < 18446744073709551616) (hn20 : n ≤ 20) (hr : rightZ (n : Int) i = true) :
    Calls Tryd.prog 10 #[(.agg (dx.map (Value.int .u8)).toArray), .slice na n nc, .int .i64 i, (.agg (pub.map (Value.int .u8)).toArray), .int .u32 la, .int .u64 tr] w fun e w' => e = .returned (.bool true) ∧ Below w.heap.size w w' := by
  have HN0 := hid hN
  have hle := hN.le
  have hmx := hN.max
  have hn2 : ¬ ((20 : Int) < (n : Int)) := by omega
  have HR := hid (Dg.climb (pub := pub) (ad := treeZ la tr) (i := i) (way := way) hx n)
  have b1 := (Below.refl w.heap.size w).alloc (Nat.le_refl _) (.cells (dx.map (Value.int .u8)).toArray 23 (0, 0))
  have b2 := b1.alloc b1.size (.cells (pub.map (Value.int .u8)).toArray 23 (0, 0))
  have Kd := hid ((Blk.new (w := w) (n := w.heap.size) rfl (dx.map (Value.int .u8)).toArray 23).old (.cells (pub.map (Value.int .u8)).toArray 23 (0, 0)))
  have Kp := hid (Blk.new (w := (w.alloc (.cells (dx.map (Value.int .u8)).toArray 23 (0, 0)))) (n := w.heap.size + 1) (by simp only [World.size_alloc]) (pub.map (Value.int .u8)).toArray 23)
  have Hb := hid b2
  have HzA := hid zsize
  have hbz := b2.size
  have Hbs := hid (show w.heap.size + 1 + 1 = ((w.alloc (.cells (dx.map (Value.int .u8)).toArray 23 (0, 0))).alloc (.cells (pub.map (Value.int .u8)).toArray 23 (0, 0))).heap.size by simp only [World.size_alloc])
  have Htab := hid tab
  clear b1 b2 tab
  go_enter Tryd.func10, Tryd.ntmps10
  go_wp2_with (first
     | (refine wpList_load_blk rfl 23 _ rfl (w.heap.size) rfl _ 23 Kd.out _ Tryd.underlying23 rfl 32 size_digest hx.size ?_)
     | (refine wpList_load_blk rfl 23 _ rfl (w.heap.size + 1) rfl _ 23 Kp.out _ Tryd.underlying23 rfl 32 size_digest hpub.size ?_))
  have C2 := hid (fun (W : World) (h : DigsAt W na n nc way) => refclimb_any dx pub na n nc way i la tr W hx hpub h hla htr hr)
  refine (climb_good dx pub na n nc way i la tr _ hx hpub (HN0.out.below Hb.out) hla htr hr (Htab.out.below Hb.out)).mono ?_
  rintro e w1 ⟨rfl, bw1⟩
  have HBw1 := hid (Below.on Hb.out bw1)
  have hsw1 := HBw1.out.size
  have Kdw1 := hid (Kd.out.below bw1)
  have Kpw1 := hid (Kp.out.below bw1)
  clear bw1
  generalize climbZ pub (treeZ la tr) i way dx n = R at *
  go_wp2_with (
        refine wpList_store_blk rfl 23 _ _ rfl (w1.heap.size) (R.map (Value.int .u8)).toArray rfl rfl _ 23 (Blk.new rfl (byteCells 32 []) _) 32 size_digest HzA.out HR.out.size (ints_one _ _) ?_
        intro w2 hbw2 hkw2
        have HBw2 := hid (hbw2.below (HBw1.out.alloc HBw1.out.size _) (by simp only [World.size_alloc]; omega) (by have := HBw1.out.size; omega))
        have hsw2 := HBw2.out.size
        have Kxw2 := hid hkw2
        have Kdw2 := hid (hbw2.blk (Kdw1.out.old _) (by have := Kdw1.out.lt; omega))
        have Kpw2 := hid (hbw2.blk (Kpw1.out.old _) (by have := Kpw1.out.lt; omega))
        clear hbw2 hkw2)
  refine (may_b n i true hr _).mono ?_
  rintro e w3 ⟨rfl, bw3⟩
  have HBw3 := hid (Below.on HBw2.out bw3)
  have hsw3 := HBw3.out.size
  have Kdw3 := hid (Kdw2.out.below bw3)
  have Kpw3 := hid (Kpw2.out.below bw3)
  have Kxw3 := hid (Kxw2.out.below bw3)
  clear bw3
  go_wp2_with fail
  have q8 := fun W => eqD_self R HR.out.len W
  refine wp_region_flow 16 (List.range 16) [] [] (by kernel_rfl) (by kernel_rfl) ?_
  apply Exists.intro
  refine ⟨fun w0 hb0 hF0 => ?_, ?_⟩
  · skip
    have x0 : ∀ w', (∃ x : Ext w0, w' = x.at_) → ∃ T, Blk w' (w1.heap.size) (R.map (Value.int .u8)).toArray T := fun w' ⟨x, hx⟩ => ⟨_, hx ▸ (Kxw3.out.below hb0).below x.same⟩
    have x1 : ∀ w', (∃ x : Ext w0, w' = x.at_) → ∃ T, Blk w' (w.heap.size) (dx.map (Value.int .u8)).toArray T := fun w' ⟨x, hx⟩ => ⟨_, hx ▸ (Kdw3.out.below hb0).below x.same⟩
    have x2 : ∀ w', (∃ x : Ext w0, w' = x.at_) → ∃ T, Blk w' (w.heap.size + 1) (pub.map (Value.int .u8)).toArray T := fun w' ⟨x, hx⟩ => ⟨_, hx ▸ (Kpw3.out.below hb0).below x.same⟩
    have c0 := fun e : Ext w0 => C2.out e.at_ ((HN0.out.below (Below.on HBw3.out hb0)).below e.same)
    have c1 := fun e : Ext w0 => knows10 e.at_ ((Htab.out.below (Below.on HBw3.out hb0)).below e.same)
    simp only [pick, List.range, List.range.loop, List.getElem?_toArray, List.getElem?_cons_succ, List.getElem?_cons_zero, Option.toList_some, List.cons_append, List.nil_append]
    repeat (first | (go_big_quiet_want; refine quiet_load_blk 23 _ rfl (w1.heap.size) rfl _ x0 _ Tryd.underlying23 rfl 32 size_digest HR.out.size ?_; go_big_quiet_on; simp only [Act.put, List.setIfInBounds_toArray, List.set_cons_zero, List.set_cons_succ]) | (go_big_quiet_want; refine quiet_load_blk 23 _ rfl (w.heap.size) rfl _ x1 _ Tryd.underlying23 rfl 32 size_digest hx.size ?_; go_big_quiet_on; simp only [Act.put, List.setIfInBounds_toArray, List.set_cons_zero, List.set_cons_succ]) | (go_big_quiet_want; refine quiet_load_blk 23 _ rfl (w.heap.size + 1) rfl _ x2 _ Tryd.underlying23 rfl 32 size_digest hpub.size ?_; go_big_quiet_on; simp only [Act.put, List.setIfInBounds_toArray, List.set_cons_zero, List.set_cons_succ]) | (go_big_quiet_want; refine quiet_cmp _ _ rfl _ _ _ rfl rfl q8 ?_; go_big_quiet_on; simp only [Act.put, List.setIfInBounds_toArray, List.set_cons_zero, List.set_cons_succ]) | go_big_quiet_step (first | (go_at_call 40; with_reducible exact Calls.ext (c0 _)) | (go_at_call 34; with_reducible exact Calls.ext (c1 _))))
    exact wpQuiet_nil rfl
  refine AlChk.nil ?_
  refine Walk.fin fun w4 hw4 _ _ => ?_
  simp only [List.drop_succ_cons, List.drop_zero]
  have HBw4 := hid (Below.on HBw3.out hw4)
  have hsw4 := HBw4.out.size
  have Kdw4 := hid (Kdw3.out.below hw4)
  have Kpw4 := hid (Kpw3.out.below hw4)
  have Kxw4 := hid (Kxw3.out.below hw4)
  clear hw4
  go_wp2_with fail
  go_returns
  exact ⟨rfl, HBw4.out⟩
end Go.Proofs.YtjkfbeillmeomaaDoor
