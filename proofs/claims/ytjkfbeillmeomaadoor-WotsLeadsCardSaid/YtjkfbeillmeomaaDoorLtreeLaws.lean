/-
  Layer 9: the statements' walks.
-/
import Derived.Test.YtjkfbeillmeomaaDoorUp
namespace Go.Proofs.YtjkfbeillmeomaaDoor
open Go.ChangeShapes Go.WideShapes Go.ChangeAt Go.RowKit

def sD : List Int := 7 :: List.replicate 31 0
def zA : List Int := List.replicate 8 0
theorem Dg.seven : Dg sD := ⟨by simp [sD], fun x hx => by
  unfold sD at hx
  rcases List.mem_cons.1 hx with h | h
  · omega
  · have := List.eq_of_mem_replicate h; omega⟩
theorem Aw.zero : Aw zA := ⟨by simp [zA], fun x hx => by have := List.eq_of_mem_replicate hx; omega⟩
theorem dig_one {w : World} {g : Nat} {x : List Int} (hx : Dg x) (k : Blk w g (x.map (Value.int .u8)).toArray 23) : DigsAt w (some ⟨g, 0, none⟩) 1 1 [x] :=
  DigsAt.of_blk (T := 23) (by rw [dcs_one]; exact k) (by simpa using hx) rfl (Nat.le_refl _) (by omega)

set_option maxHeartbeats 4000000 in
set_option maxRecDepth 100000 in
theorem knows09 (w : World) (tab : ShaTab w) : Calls Tryd.prog 27 #[] w fun e w' => e = .returned (.bool true) ∧ Below w.heap.size w w' := by
  have Hb := hid (Below.refl w.heap.size w)
  have HzA := hid zsize
  have Htab := hid tab
  clear tab
  have hq7 : ∀ W : World, (binOp .eql 23 (.agg (sD.map (Value.int .u8)).toArray) (.agg #[.int .u8 7, .int .u8 0, .int .u8 0, .int .u8 0, .int .u8 0, .int .u8 0, .int .u8 0, .int .u8 0, .int .u8 0, .int .u8 0, .int .u8 0, .int .u8 0, .int .u8 0, .int .u8 0, .int .u8 0, .int .u8 0, .int .u8 0, .int .u8 0, .int .u8 0, .int .u8 0, .int .u8 0, .int .u8 0, .int .u8 0, .int .u8 0, .int .u8 0, .int .u8 0, .int .u8 0, .int .u8 0, .int .u8 0, .int .u8 0, .int .u8 0, .int .u8 0])).run Tryd.prog W = .ok (.bool true) W := eqD_self sD Dg.seven.len
  have HJ := hid (Dg.join sD sD sD zA)
  have bA := (Below.refl w.heap.size w).alloc (Nat.le_refl _) (.cells (sD.map (Value.int .u8)).toArray 23 (0, 0))
  have HA := hid (dig_one Dg.seven (Blk.new (w := w) rfl (sD.map (Value.int .u8)).toArray 23))
  have HbA := hid bA
  have Hone := hid (show compZ zD zA 1 0 [sD] = sD from compZ_one zD zA 1 0 (ds := [sD]) (Nat.le_refl _))
  clear bA
  go_enter Tryd.func27, Tryd.ntmps27
  go_wp2_with (refine wpList_build_one rfl _ rfl (x := sD) rfl Dg.seven ?_)
  refine (compress_good _ 1 1 [sD] zD zA _ HA.out (by omega) Dg.zero Aw.zero (Htab.out.below HbA.out)).mono ?_
  rw [Hone.out]
  rintro e w1 ⟨rfl, b1⟩
  have HBw1 := hid (Below.on HbA.out b1)
  have hsw1 := HBw1.out.size
  clear b1 HA
  go_wp2_with (
        refine wpList_store_blk rfl 23 _ _ rfl (w1.heap.size) (sD.map (Value.int .u8)).toArray rfl rfl _ 23 (Blk.new rfl (byteCells 32 []) _) 32 size_digest HzA.out Dg.seven.size (ints_one _ _) ?_
        intro w2 hbw2 hkw2
        have HBw2 := hid (hbw2.below (HBw1.out.alloc HBw1.out.size _) (by simp only [World.size_alloc]; omega) (by have := HBw1.out.size; omega))
        have hsw2 := HBw2.out.size
        have Kxw2 := hid hkw2
        clear hbw2 hkw2)
  refine (compress_bad none 0 0 zD zA _ (by omega)).mono ?_
  rintro e w3 ⟨rfl, bw3⟩
  have HBw3 := hid (Below.on HBw2.out bw3)
  have hsw3 := HBw3.out.size
  have Kxw3 := hid (Kxw2.out.below bw3)
  clear bw3
  go_wp2_with (
        refine wpList_store_blk rfl 23 _ _ rfl (w3.heap.size) (zD.map (Value.int .u8)).toArray rfl rfl _ 23 (Blk.new rfl (byteCells 32 []) _) 32 size_digest HzA.out Dg.zero.size (ints_one _ _) ?_
        intro w4 hbw4 hkw4
        have HBw4 := hid (hbw4.below (HBw3.out.alloc HBw3.out.size _) (by simp only [World.size_alloc]; omega) (by have := HBw3.out.size; omega))
        have hsw4 := HBw4.out.size
        have Kyw4 := hid hkw4
        have Kxw4 := hid (hbw4.blk (Kxw3.out.old _) (by have := Kxw3.out.lt; omega))
        clear hbw4 hkw4)
  have C1 := hid (show ∀ W : World, ShaTab W → Calls Tryd.prog 29 #[(.agg (sD.map (Value.int .u8)).toArray), (.agg (sD.map (Value.int .u8)).toArray), (.agg (sD.map (Value.int .u8)).toArray), .agg #[.int .u32 0, .int .u32 0, .int .u32 0, .int .u32 0, .int .u32 0, .int .u32 0, .int .u32 0, .int .u32 0]] W (fun x w' => x = .returned (.agg ((joinZ sD sD sD zA).map (Value.int .u8)).toArray) ∧ Below W.heap.size W w') from fun W t => ljoin_any sD sD sD zA W Dg.seven Dg.seven Dg.seven Aw.zero t)
  have C2 := hid (show ∀ W : World, Calls Tryd.prog 30 #[(.agg (sD.map (Value.int .u8)).toArray), (.agg (sD.map (Value.int .u8)).toArray), (.agg (sD.map (Value.int .u8)).toArray), .agg #[.int .u32 0, .int .u32 0, .int .u32 0, .int .u32 0, .int .u32 0, .int .u32 0, .int .u32 0, .int .u32 0]] W (fun x w' => x = .returned (.agg ((joinZ sD sD sD zA).map (Value.int .u8)).toArray) ∧ Below W.heap.size W w') from fun W => refjoin_any sD sD sD zA W Dg.seven Dg.seven Dg.seven Aw.zero)
  generalize joinZ sD sD sD zA = J at *
  have q1 := fun W => eqD_self J HJ.out.len W
  refine wp_region_flow 24 (List.range 24) [] [] (by kernel_rfl) (by kernel_rfl) ?_
  apply Exists.intro
  refine ⟨fun w0 hb0 hF0 => ?_, ?_⟩
  · skip
    have x0 : ∀ w', (∃ x : Ext w0, w' = x.at_) → ∃ T, Blk w' (w1.heap.size) (sD.map (Value.int .u8)).toArray T := fun w' ⟨x, hx⟩ => ⟨_, hx ▸ (Kxw4.out.below hb0).below x.same⟩
    have c0 := fun e : Ext w0 => C1.out e.at_ ((Htab.out.below (Below.on HBw4.out hb0)).below e.same)
    have c1 := fun e : Ext w0 => C2.out e.at_
    simp only [pick, List.range, List.range.loop, List.getElem?_toArray, List.getElem?_cons_succ, List.getElem?_cons_zero, Option.toList_some, List.cons_append, List.nil_append]
    repeat (first | (go_big_quiet_want; refine quiet_load_blk 23 _ rfl (w1.heap.size) rfl _ x0 _ Tryd.underlying23 rfl 32 size_digest Dg.seven.size ?_; go_big_quiet_on; simp only [Act.put, List.setIfInBounds_toArray, List.set_cons_zero, List.set_cons_succ]) | go_big_quiet_step (first | (go_at_call 29; with_reducible exact Calls.ext (c0 _)) | (go_at_call 30; with_reducible exact Calls.ext (c1 _))))
    exact wpQuiet_nil rfl
  refine AlChk.nil ?_
  refine Walk.fin fun w5 hw5 _ _ => ?_
  simp only [List.drop_succ_cons, List.drop_zero]
  have HBw5 := hid (Below.on HBw4.out hw5)
  have hsw5 := HBw5.out.size
  have Kxw5 := hid (Kxw4.out.below hw5)
  have Kyw5 := hid (Kyw4.out.below hw5)
  clear hw5
  go_wp2_with fail
  go_returns
  exact ⟨rfl, HBw5.out⟩

set_option maxHeartbeats 4000000 in
set_option maxRecDepth 100000 in
theorem ltreeMakes_long (na : Option Addr) (n nc : Nat) (ds : List (List Int)) (pub ad : List Int) (w : World) (tab : ShaTab w) (hN : DigsAt w na n nc ds) (hn : 200 < n) :
    Calls Tryd.prog 7 #[.slice na n nc, (.agg (pub.map (Value.int .u8)).toArray), (.agg (ad.map (Value.int .u32)).toArray)] w fun e w' => e = .returned (.bool true) ∧ Below w.heap.size w w' := by
  have HN0 := hid hN
  have hle := hN.le
  have hmx := hN.max
  have b1 := (Below.refl w.heap.size w).alloc (Nat.le_refl _) (.cells (pub.map (Value.int .u8)).toArray 23 (0, 0))
  have b2 := b1.alloc b1.size (.cells (ad.map (Value.int .u32)).toArray 26 (0, 0))
  have Kp := hid ((Blk.new (w := w) (n := w.heap.size) rfl (pub.map (Value.int .u8)).toArray 23).old (.cells (ad.map (Value.int .u32)).toArray 26 (0, 0)))
  have Kad := hid (Blk.new (w := (w.alloc (.cells (pub.map (Value.int .u8)).toArray 23 (0, 0)))) (n := w.heap.size + 1) (by simp only [World.size_alloc]) (ad.map (Value.int .u32)).toArray 26)
  have Hb := hid b2
  have HzA := hid zsize
  have hbz := b2.size
  have Hbs := hid (show w.heap.size + 1 + 1 = ((w.alloc (.cells (pub.map (Value.int .u8)).toArray 23 (0, 0))).alloc (.cells (ad.map (Value.int .u32)).toArray 26 (0, 0))).heap.size by simp only [World.size_alloc])
  have Htab := hid tab
  clear b1 b2 tab
  go_enter Tryd.func7, Tryd.ntmps7
  go_wp2_with fail
  refine (knows09 _ (Htab.out.below Hb.out)).mono ?_
  rintro e w1 ⟨rfl, bw1⟩
  have HBw1 := hid (Below.on Hb.out bw1)
  have hsw1 := HBw1.out.size
  have Kpw1 := hid (Kp.out.below bw1)
  have Kadw1 := hid (Kad.out.below bw1)
  clear bw1
  go_wp2_with fail
  go_returns
  exact ⟨rfl, HBw1.out⟩

set_option maxHeartbeats 4000000 in
set_option maxRecDepth 100000 in
theorem ltreeMakes_bad (na : Option Addr) (n nc : Nat) (ds : List (List Int)) (pub ad : List Int) (w : World) (tab : ShaTab w) (hN : DigsAt w na n nc ds) (hpub : Dg pub) (had : Aw ad) (hn200 : n ≤ 200) (hbad : n = 0 ∨ 67 < n) :
    Calls Tryd.prog 7 #[.slice na n nc, (.agg (pub.map (Value.int .u8)).toArray), (.agg (ad.map (Value.int .u32)).toArray)] w fun e w' => e = .returned (.bool true) ∧ Below w.heap.size w w' := by
  have HN0 := hid hN
  have hle := hN.le
  have hmx := hN.max
  have hn2 : ¬ ((200 : Int) < (n : Int)) := by omega
  have q1 : ∀ W : World, (binOp .eql 23 (.agg (zD.map (Value.int .u8)).toArray) (.agg #[.int .u8 0, .int .u8 0, .int .u8 0, .int .u8 0, .int .u8 0, .int .u8 0, .int .u8 0, .int .u8 0, .int .u8 0, .int .u8 0, .int .u8 0, .int .u8 0, .int .u8 0, .int .u8 0, .int .u8 0, .int .u8 0, .int .u8 0, .int .u8 0, .int .u8 0, .int .u8 0, .int .u8 0, .int .u8 0, .int .u8 0, .int .u8 0, .int .u8 0, .int .u8 0, .int .u8 0, .int .u8 0, .int .u8 0, .int .u8 0, .int .u8 0, .int .u8 0])).run Tryd.prog W = .ok (.bool true) W := eqD_self zD Dg.zero.len
  have b1 := (Below.refl w.heap.size w).alloc (Nat.le_refl _) (.cells (pub.map (Value.int .u8)).toArray 23 (0, 0))
  have b2 := b1.alloc b1.size (.cells (ad.map (Value.int .u32)).toArray 26 (0, 0))
  have Kp := hid ((Blk.new (w := w) (n := w.heap.size) rfl (pub.map (Value.int .u8)).toArray 23).old (.cells (ad.map (Value.int .u32)).toArray 26 (0, 0)))
  have Kad := hid (Blk.new (w := (w.alloc (.cells (pub.map (Value.int .u8)).toArray 23 (0, 0)))) (n := w.heap.size + 1) (by simp only [World.size_alloc]) (ad.map (Value.int .u32)).toArray 26)
  have Hb := hid b2
  have HzA := hid zsize
  have hbz := b2.size
  have Hbs := hid (show w.heap.size + 1 + 1 = ((w.alloc (.cells (pub.map (Value.int .u8)).toArray 23 (0, 0))).alloc (.cells (ad.map (Value.int .u32)).toArray 26 (0, 0))).heap.size by simp only [World.size_alloc])
  have Htab := hid tab
  clear b1 b2 tab
  go_enter Tryd.func7, Tryd.ntmps7
  go_wp2_with (first
     | (refine wpList_load_blk rfl 23 _ rfl (w.heap.size) rfl _ 23 Kp.out _ Tryd.underlying23 rfl 32 size_digest hpub.size ?_)
     | (refine wpList_load_blk rfl 26 _ rfl (w.heap.size + 1) rfl _ 26 Kad.out _ Tryd.underlying26 rfl 8 sizeAdrs had.size ?_))
  refine (compress_bad na n nc pub ad _ hbad).mono ?_
  rintro e w1 ⟨rfl, bw1⟩
  have HBw1 := hid (Below.on Hb.out bw1)
  have hsw1 := HBw1.out.size
  have Kpw1 := hid (Kp.out.below bw1)
  have Kadw1 := hid (Kad.out.below bw1)
  clear bw1
  go_wp2_with (
        refine wpList_store_blk rfl 23 _ _ rfl (w1.heap.size) (zD.map (Value.int .u8)).toArray rfl rfl _ 23 (Blk.new rfl (byteCells 32 []) _) 32 size_digest HzA.out Dg.zero.size (ints_one _ _) ?_
        intro w2 hbw2 hkw2
        have HBw2 := hid (hbw2.below (HBw1.out.alloc HBw1.out.size _) (by simp only [World.size_alloc]; omega) (by have := HBw1.out.size; omega))
        have hsw2 := HBw2.out.size
        have Kxw2 := hid hkw2
        have Kpw2 := hid (hbw2.blk (Kpw1.out.old _) (by have := Kpw1.out.lt; omega))
        have Kadw2 := hid (hbw2.blk (Kadw1.out.old _) (by have := Kadw1.out.lt; omega))
        clear hbw2 hkw2)
  have HJ := hid (Dg.join pub zD pub ad)
  have J1 := hid (fun (W : World) (t : ShaTab W) => ljoin_any pub zD pub ad W hpub Dg.zero hpub had t)
  have J2 := hid (fun (W : World) => refjoin_any pub zD pub ad W hpub Dg.zero hpub had)
  generalize (joinZ pub zD pub ad) = J at *
  have q9 := fun W => neD_self J HJ.out.len W
  clear HJ
  refine wp_region_flow 11 (List.range 11) [] [] (by kernel_rfl) (by kernel_rfl) ?_
  apply Exists.intro
  refine ⟨fun w0 hb0 hF0 => ?_, ?_⟩
  · skip
    have x0 : ∀ w', (∃ x : Ext w0, w' = x.at_) → ∃ T, Blk w' (w.heap.size) (pub.map (Value.int .u8)).toArray T := fun w' ⟨x, hx⟩ => ⟨_, hx ▸ (Kpw2.out.below hb0).below x.same⟩
    have x1 : ∀ w', (∃ x : Ext w0, w' = x.at_) → ∃ T, Blk w' (w1.heap.size) (zD.map (Value.int .u8)).toArray T := fun w' ⟨x, hx⟩ => ⟨_, hx ▸ (Kxw2.out.below hb0).below x.same⟩
    have x2 : ∀ w', (∃ x : Ext w0, w' = x.at_) → ∃ T, Blk w' (w.heap.size + 1) (ad.map (Value.int .u32)).toArray T := fun w' ⟨x, hx⟩ => ⟨_, hx ▸ (Kadw2.out.below hb0).below x.same⟩
    have c0 := fun e : Ext w0 => J1.out e.at_ ((Htab.out.below (Below.on HBw2.out hb0)).below e.same)
    have c1 := fun e : Ext w0 => J2.out e.at_
    simp only [pick, List.range, List.range.loop, List.getElem?_toArray, List.getElem?_cons_succ, List.getElem?_cons_zero, Option.toList_some, List.cons_append, List.nil_append]
    repeat (first | (go_big_quiet_want; refine quiet_load_blk 23 _ rfl (w.heap.size) rfl _ x0 _ Tryd.underlying23 rfl 32 size_digest hpub.size ?_; go_big_quiet_on; simp only [Act.put, List.setIfInBounds_toArray, List.set_cons_zero, List.set_cons_succ]) | (go_big_quiet_want; refine quiet_load_blk 23 _ rfl (w1.heap.size) rfl _ x1 _ Tryd.underlying23 rfl 32 size_digest Dg.zero.size ?_; go_big_quiet_on; simp only [Act.put, List.setIfInBounds_toArray, List.set_cons_zero, List.set_cons_succ]) | (go_big_quiet_want; refine quiet_load_blk 26 _ rfl (w.heap.size + 1) rfl _ x2 _ Tryd.underlying26 rfl 8 sizeAdrs had.size ?_; go_big_quiet_on; simp only [Act.put, List.setIfInBounds_toArray, List.set_cons_zero, List.set_cons_succ]) | (go_big_quiet_want; refine quiet_cmp _ _ rfl _ _ _ rfl rfl q9 ?_; go_big_quiet_on; simp only [Act.put, List.setIfInBounds_toArray, List.set_cons_zero, List.set_cons_succ]) | go_big_quiet_step (first | (go_at_call 29; with_reducible exact Calls.ext (c0 _)) | (go_at_call 30; with_reducible exact Calls.ext (c1 _))))
    exact wpQuiet_nil rfl
  refine AlChk.nil ?_
  refine Walk.fin fun w3 hw3 _ _ => ?_
  simp only [List.drop_succ_cons, List.drop_zero]
  have HBw3 := hid (Below.on HBw2.out hw3)
  have hsw3 := HBw3.out.size
  have Kpw3 := hid (Kpw2.out.below hw3)
  have Kadw3 := hid (Kadw2.out.below hw3)
  have Kxw3 := hid (Kxw2.out.below hw3)
  clear hw3
  rcases (show n = 0 ∨ (¬ ((n : Int) = 0) ∧ (67 : Int) < n) by omega) with rfl | ⟨hn3, hn4⟩
  · skip
    go_wp2_with (refine wpList_load_blk rfl 23 _ rfl (w1.heap.size) rfl _ 23 Kxw3.out _ Tryd.underlying23 rfl 32 size_digest Dg.zero.size ?_)
    refine (knows09 _ (Htab.out.below HBw3.out)).mono ?_
    rintro e w4 ⟨rfl, bw4⟩
    have HBw4 := hid (Below.on HBw3.out bw4)
    have hsw4 := HBw4.out.size
    have Kpw4 := hid (Kpw3.out.below bw4)
    have Kadw4 := hid (Kadw3.out.below bw4)
    have Kxw4 := hid (Kxw3.out.below bw4)
    clear bw4
    go_wp2_with fail
    go_returns
    exact ⟨rfl, HBw4.out⟩
  · have hn5 : ((n : Int) == 0) = false := by simpa using hn3
    have hn6 : decide ((67 : Int) < n) = true := decide_eq_true hn4
    go_wp2_with (refine wpList_load_blk rfl 23 _ rfl (w1.heap.size) rfl _ 23 Kxw3.out _ Tryd.underlying23 rfl 32 size_digest Dg.zero.size ?_)
    refine (knows09 _ (Htab.out.below HBw3.out)).mono ?_
    rintro e w4 ⟨rfl, bw4⟩
    have HBw4 := hid (Below.on HBw3.out bw4)
    have hsw4 := HBw4.out.size
    have Kpw4 := hid (Kpw3.out.below bw4)
    have Kadw4 := hid (Kadw3.out.below bw4)
    have Kxw4 := hid (Kxw3.out.below bw4)
    clear bw4
    go_wp2_with fail
    go_returns
    exact ⟨rfl, HBw4.out⟩

set_option maxHeartbeats 4000000 in
set_option maxRecDepth 100000 in
theorem ltreeMakes_good (na : Option Addr) (n nc : Nat) (ds : List (List Int)) (pub ad : List Int) (w : World) (tab : ShaTab w) (hN : DigsAt w na n nc ds) (hpub : Dg pub) (had : Aw ad) (hn : 1 ≤ n ∧ n ≤ 67) :
    Calls Tryd.prog 7 #[.slice na n nc, (.agg (pub.map (Value.int .u8)).toArray), (.agg (ad.map (Value.int .u32)).toArray)] w fun e w' => e = .returned (.bool true) ∧ Below w.heap.size w w' := by
  have HN0 := hid hN
  have hle := hN.le
  have hmx := hN.max
  have hn2 : ¬ ((200 : Int) < (n : Int)) := by omega
  have HR := hid (compZ_dg pub ad n 0 ds hN.each (by rw [hN.length]; omega) (by rw [hN.length]; exact Nat.le_refl _))
  have b1 := (Below.refl w.heap.size w).alloc (Nat.le_refl _) (.cells (pub.map (Value.int .u8)).toArray 23 (0, 0))
  have b2 := b1.alloc b1.size (.cells (ad.map (Value.int .u32)).toArray 26 (0, 0))
  have Kp := hid ((Blk.new (w := w) (n := w.heap.size) rfl (pub.map (Value.int .u8)).toArray 23).old (.cells (ad.map (Value.int .u32)).toArray 26 (0, 0)))
  have Kad := hid (Blk.new (w := (w.alloc (.cells (pub.map (Value.int .u8)).toArray 23 (0, 0)))) (n := w.heap.size + 1) (by simp only [World.size_alloc]) (ad.map (Value.int .u32)).toArray 26)
  have Hb := hid b2
  have HzA := hid zsize
  have hbz := b2.size
  have Hbs := hid (show w.heap.size + 1 + 1 = ((w.alloc (.cells (pub.map (Value.int .u8)).toArray 23 (0, 0))).alloc (.cells (ad.map (Value.int .u32)).toArray 26 (0, 0))).heap.size by simp only [World.size_alloc])
  have Htab := hid tab
  clear b1 b2 tab
  go_enter Tryd.func7, Tryd.ntmps7
  go_wp2_with (first
     | (refine wpList_load_blk rfl 23 _ rfl (w.heap.size) rfl _ 23 Kp.out _ Tryd.underlying23 rfl 32 size_digest hpub.size ?_)
     | (refine wpList_load_blk rfl 26 _ rfl (w.heap.size + 1) rfl _ 26 Kad.out _ Tryd.underlying26 rfl 8 sizeAdrs had.size ?_))
  have C2 := hid (fun (W : World) (h : DigsAt W na n nc ds) => refcompress_any na n nc ds pub ad W h hn hpub had)
  refine (compress_good na n nc ds pub ad _ (HN0.out.below Hb.out) hn hpub had (Htab.out.below Hb.out)).mono ?_
  rintro e w1 ⟨rfl, bw1⟩
  have HBw1 := hid (Below.on Hb.out bw1)
  have hsw1 := HBw1.out.size
  have Kpw1 := hid (Kp.out.below bw1)
  have Kadw1 := hid (Kad.out.below bw1)
  clear bw1
  generalize compZ pub ad n 0 ds = R at *
  go_wp2_with (
        refine wpList_store_blk rfl 23 _ _ rfl (w1.heap.size) (R.map (Value.int .u8)).toArray rfl rfl _ 23 (Blk.new rfl (byteCells 32 []) _) 32 size_digest HzA.out HR.out.size (ints_one _ _) ?_
        intro w2 hbw2 hkw2
        have HBw2 := hid (hbw2.below (HBw1.out.alloc HBw1.out.size _) (by simp only [World.size_alloc]; omega) (by have := HBw1.out.size; omega))
        have hsw2 := HBw2.out.size
        have Kxw2 := hid hkw2
        have Kpw2 := hid (hbw2.blk (Kpw1.out.old _) (by have := Kpw1.out.lt; omega))
        have Kadw2 := hid (hbw2.blk (Kadw1.out.old _) (by have := Kadw1.out.lt; omega))
        clear hbw2 hkw2)
  have HJ := hid (Dg.join pub R pub ad)
  have J1 := hid (fun (W : World) (t : ShaTab W) => ljoin_any pub R pub ad W hpub HR.out hpub had t)
  have J2 := hid (fun (W : World) => refjoin_any pub R pub ad W hpub HR.out hpub had)
  generalize (joinZ pub R pub ad) = J at *
  have q9 := fun W => neD_self J HJ.out.len W
  clear HJ
  refine wp_region_flow 11 (List.range 11) [] [] (by kernel_rfl) (by kernel_rfl) ?_
  apply Exists.intro
  refine ⟨fun w0 hb0 hF0 => ?_, ?_⟩
  · skip
    have x0 : ∀ w', (∃ x : Ext w0, w' = x.at_) → ∃ T, Blk w' (w.heap.size) (pub.map (Value.int .u8)).toArray T := fun w' ⟨x, hx⟩ => ⟨_, hx ▸ (Kpw2.out.below hb0).below x.same⟩
    have x1 : ∀ w', (∃ x : Ext w0, w' = x.at_) → ∃ T, Blk w' (w1.heap.size) (R.map (Value.int .u8)).toArray T := fun w' ⟨x, hx⟩ => ⟨_, hx ▸ (Kxw2.out.below hb0).below x.same⟩
    have x2 : ∀ w', (∃ x : Ext w0, w' = x.at_) → ∃ T, Blk w' (w.heap.size + 1) (ad.map (Value.int .u32)).toArray T := fun w' ⟨x, hx⟩ => ⟨_, hx ▸ (Kadw2.out.below hb0).below x.same⟩
    have c0 := fun e : Ext w0 => J1.out e.at_ ((Htab.out.below (Below.on HBw2.out hb0)).below e.same)
    have c1 := fun e : Ext w0 => J2.out e.at_
    simp only [pick, List.range, List.range.loop, List.getElem?_toArray, List.getElem?_cons_succ, List.getElem?_cons_zero, Option.toList_some, List.cons_append, List.nil_append]
    repeat (first | (go_big_quiet_want; refine quiet_load_blk 23 _ rfl (w.heap.size) rfl _ x0 _ Tryd.underlying23 rfl 32 size_digest hpub.size ?_; go_big_quiet_on; simp only [Act.put, List.setIfInBounds_toArray, List.set_cons_zero, List.set_cons_succ]) | (go_big_quiet_want; refine quiet_load_blk 23 _ rfl (w1.heap.size) rfl _ x1 _ Tryd.underlying23 rfl 32 size_digest HR.out.size ?_; go_big_quiet_on; simp only [Act.put, List.setIfInBounds_toArray, List.set_cons_zero, List.set_cons_succ]) | (go_big_quiet_want; refine quiet_load_blk 26 _ rfl (w.heap.size + 1) rfl _ x2 _ Tryd.underlying26 rfl 8 sizeAdrs had.size ?_; go_big_quiet_on; simp only [Act.put, List.setIfInBounds_toArray, List.set_cons_zero, List.set_cons_succ]) | (go_big_quiet_want; refine quiet_cmp _ _ rfl _ _ _ rfl rfl q9 ?_; go_big_quiet_on; simp only [Act.put, List.setIfInBounds_toArray, List.set_cons_zero, List.set_cons_succ]) | go_big_quiet_step (first | (go_at_call 29; with_reducible exact Calls.ext (c0 _)) | (go_at_call 30; with_reducible exact Calls.ext (c1 _))))
    exact wpQuiet_nil rfl
  refine AlChk.nil ?_
  refine Walk.fin fun w3 hw3 _ _ => ?_
  simp only [List.drop_succ_cons, List.drop_zero]
  have HBw3 := hid (Below.on HBw2.out hw3)
  have hsw3 := HBw3.out.size
  have Kpw3 := hid (Kpw2.out.below hw3)
  have Kadw3 := hid (Kadw2.out.below hw3)
  have Kxw3 := hid (Kxw2.out.below hw3)
  clear hw3
  have q8 := fun W => eqD_self R HR.out.len W
  have hn3 : ((n : Int) == 0) = false := by simp; omega
  have hn4 : decide ((67 : Int) < n) = false := decide_eq_false (by omega)
  go_wp2_with fail
  refine wp_region_flow 13 (List.range 13) [] [] (by kernel_rfl) (by kernel_rfl) ?_
  apply Exists.intro
  refine ⟨fun w0 hb0 hF0 => ?_, ?_⟩
  · skip
    have x0 : ∀ w', (∃ x : Ext w0, w' = x.at_) → ∃ T, Blk w' (w.heap.size) (pub.map (Value.int .u8)).toArray T := fun w' ⟨x, hx⟩ => ⟨_, hx ▸ (Kpw3.out.below hb0).below x.same⟩
    have x1 : ∀ w', (∃ x : Ext w0, w' = x.at_) → ∃ T, Blk w' (w1.heap.size) (R.map (Value.int .u8)).toArray T := fun w' ⟨x, hx⟩ => ⟨_, hx ▸ (Kxw3.out.below hb0).below x.same⟩
    have x2 : ∀ w', (∃ x : Ext w0, w' = x.at_) → ∃ T, Blk w' (w.heap.size + 1) (ad.map (Value.int .u32)).toArray T := fun w' ⟨x, hx⟩ => ⟨_, hx ▸ (Kadw3.out.below hb0).below x.same⟩
    have c0 := fun e : Ext w0 => C2.out e.at_ ((HN0.out.below (Below.on HBw3.out hb0)).below e.same)
    have c1 := fun e : Ext w0 => knows09 e.at_ ((Htab.out.below (Below.on HBw3.out hb0)).below e.same)
    simp only [pick, List.range, List.range.loop, List.getElem?_toArray, List.getElem?_cons_succ, List.getElem?_cons_zero, Option.toList_some, List.cons_append, List.nil_append]
    repeat (first | (go_big_quiet_want; refine quiet_load_blk 23 _ rfl (w.heap.size) rfl _ x0 _ Tryd.underlying23 rfl 32 size_digest hpub.size ?_; go_big_quiet_on; simp only [Act.put, List.setIfInBounds_toArray, List.set_cons_zero, List.set_cons_succ]) | (go_big_quiet_want; refine quiet_load_blk 23 _ rfl (w1.heap.size) rfl _ x1 _ Tryd.underlying23 rfl 32 size_digest HR.out.size ?_; go_big_quiet_on; simp only [Act.put, List.setIfInBounds_toArray, List.set_cons_zero, List.set_cons_succ]) | (go_big_quiet_want; refine quiet_load_blk 26 _ rfl (w.heap.size + 1) rfl _ x2 _ Tryd.underlying26 rfl 8 sizeAdrs had.size ?_; go_big_quiet_on; simp only [Act.put, List.setIfInBounds_toArray, List.set_cons_zero, List.set_cons_succ]) | (go_big_quiet_want; refine quiet_cmp _ _ rfl _ _ _ rfl rfl q8 ?_; go_big_quiet_on; simp only [Act.put, List.setIfInBounds_toArray, List.set_cons_zero, List.set_cons_succ]) | go_big_quiet_step (first | (go_at_call 31; with_reducible exact Calls.ext (c0 _)) | (go_at_call 27; with_reducible exact Calls.ext (c1 _))))
    exact wpQuiet_nil rfl
  refine AlChk.nil ?_
  refine Walk.fin fun w4 hw4 _ _ => ?_
  simp only [List.drop_succ_cons, List.drop_zero]
  have HBw4 := hid (Below.on HBw3.out hw4)
  have hsw4 := HBw4.out.size
  have Kpw4 := hid (Kpw3.out.below hw4)
  have Kadw4 := hid (Kadw3.out.below hw4)
  have Kxw4 := hid (Kxw3.out.below hw4)
  clear hw4
  go_wp2_with fail
  go_returns
  exact ⟨rfl, HBw4.out⟩
end Go.Proofs.YtjkfbeillmeomaaDoor
