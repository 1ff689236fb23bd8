/-
  Layer 19: LogRoots.
-/
import Derived.Test.YthaicocfbmpnmaaDoorLLogF
namespace Go.Proofs.YthaicocfbmpnmaaDoor
open Go.ChangeShapes Go.WideShapes Go.ChangeAt Go.RowKit

set_option maxHeartbeats 4000000 in
set_option maxRecDepth 100000 in
theorem logRoots_mid (a : Option Addr) (len cap : Nat) (i m : Int) (w : World) (h1 : 40 < len) (h2 : len ≤ 200) (tab : ShaTab w) :
    Calls Tryd.prog 9 #[.slice a len cap, .int .i64 i, .int .i64 m] w fun e w' => e = .returned (.bool true) ∧ Below w.heap.size w w' := by
  have hI1 : (40 : Int) < len := by omega
  have hI2 : (len : Int) ≤ 200 := by omega
  have Htab := hid tab
  have Hb := hid (Below.refl w.heap.size w)
  clear tab
  go_enter Tryd.func9, Tryd.ntmps9
  go_wp2_with fail
  refine (knows19 _ Htab.out).mono ?_
  rintro e w1 ⟨rfl, bw1⟩
  have HBw1 := hid (Below.on Hb.out bw1)
  have hsw1 := HBw1.out.size
  clear bw1
  go_wp2_with fail
  go_returns
  exact ⟨rfl, HBw1.out⟩

set_option maxHeartbeats 4000000 in
set_option maxRecDepth 100000 in
theorem logRoots_big (a : Option Addr) (len cap : Nat) (i m : Int) (w : World) (h1 : 300 < len) (tab : ShaTab w) :
    Calls Tryd.prog 9 #[.slice a len cap, .int .i64 i, .int .i64 m] w fun e w' => e = .returned (.bool true) ∧ Below w.heap.size w w' := by
  have hI1 : (40 : Int) < len := by omega
  have hI2 : ¬ ((len : Int) ≤ 200) := by omega
  have hI3 : (300 : Int) < len := by omega
  have Htab := hid tab
  have Hb := hid (Below.refl w.heap.size w)
  clear tab
  go_enter Tryd.func9, Tryd.ntmps9
  go_wp2_with fail
  refine (knows19 _ Htab.out).mono ?_
  rintro e w1 ⟨rfl, bw1⟩
  have HBw1 := hid (Below.on Hb.out bw1)
  have hsw1 := HBw1.out.size
  clear bw1
  go_wp2_with fail
  go_returns
  exact ⟨rfl, HBw1.out⟩

set_option maxHeartbeats 4000000 in
set_option maxRecDepth 100000 in
theorem logRoots_long (a : Option Addr) (len cap : Nat) (i m : Int) (w : World) (ts : List (List Int)) (hT : TextsAt w a len cap ts) (hreach : ∀ t ∈ ts, t.length ≤ 140737488351232) (h1 : len ≤ 40) (ht : fewB ts 2000 = false) (tab : ShaTab w) :
    Calls Tryd.prog 9 #[.slice a len cap, .int .i64 i, .int .i64 m] w fun e w' => e = .returned (.bool true) ∧ Below w.heap.size w w' := by
  have hI1 : ¬ ((40 : Int) < len) := by omega
  have hI2 : (len : Int) ≤ 200 := by omega
  have hI3 : ¬ ((300 : Int) < len) := by omega
  have hI4 : (len : Int) ≤ 40 := by omega
  have CT := hid (fun (W : World) (h : TextsAt W a len cap ts) => by have := few_any a len cap ts 2000 W h hreach; rw [ht] at this; exact this)
  have Htab := hid tab
  have Hb := hid (Below.refl w.heap.size w)
  clear tab
  go_enter Tryd.func9, Tryd.ntmps9
  go_wp2_with fail
  refine (CT.out _ hT).mono ?_
  rintro e w50 ⟨rfl, rfl⟩
  go_wp2_with fail
  refine (knows19 _ Htab.out).mono ?_
  rintro e w1 ⟨rfl, bw1⟩
  have HBw1 := hid (Below.on Hb.out bw1)
  have hsw1 := HBw1.out.size
  clear bw1
  go_wp2_with fail
  go_returns
  exact ⟨rfl, HBw1.out⟩

set_option maxHeartbeats 4000000 in
set_option maxRecDepth 100000 in
theorem logRoots_full (a : Option Addr) (len cap : Nat) (i m : Int) (w : World) (h1 : 200 < len) (h2 : len ≤ 300) (tab : ShaTab w) :
    Calls Tryd.prog 9 #[.slice a len cap, .int .i64 i, .int .i64 m] w fun e w' => e = .returned (.bool true) ∧ Below w.heap.size w w' := by
  have hI1 : (40 : Int) < len := by omega
  have hI2 : ¬ ((len : Int) ≤ 200) := by omega
  have hI3 : ¬ ((300 : Int) < len) := by omega
  have hI4 : ¬ ((len : Int) ≤ 40) := by omega
  have hI5 : (200 : Int) < len := by omega
  have q1 : ∀ W : World, (binOp .eql 23 (.agg (zD.map (Value.int .u8)).toArray) (.agg #[.int .u8 0, .int .u8 0, .int .u8 0, .int .u8 0, .int .u8 0, .int .u8 0, .int .u8 0, .int .u8 0, .int .u8 0, .int .u8 0, .int .u8 0, .int .u8 0, .int .u8 0, .int .u8 0, .int .u8 0, .int .u8 0, .int .u8 0, .int .u8 0, .int .u8 0, .int .u8 0, .int .u8 0, .int .u8 0, .int .u8 0, .int .u8 0, .int .u8 0, .int .u8 0, .int .u8 0, .int .u8 0, .int .u8 0, .int .u8 0, .int .u8 0, .int .u8 0])).run Tryd.prog W = .ok (.bool true) W := eqD_self zD Dg.zero.len
  have Htab := hid tab
  have Hb := hid (Below.refl w.heap.size w)
  clear tab
  go_enter Tryd.func9, Tryd.ntmps9
  go_wp2_with fail
  refine (loRoot_full a len cap _ h1).mono ?_
  rintro e w1 ⟨rfl, bw1⟩
  have HBw1 := hid (Below.on Hb.out bw1)
  have hsw1 := HBw1.out.size
  clear bw1
  go_wp2_with (
        refine wpList_store_blk rfl 23 _ _ rfl (w1.heap.size) (zD.map (Value.int .u8)).toArray rfl rfl _ 23 (Blk.new rfl (byteCells 32 []) _) 32 size_digest zsize Dg.zero.size (ints_one _ _) ?_
        intro w2 hbw2 hkw2
        have hw2 := hbw2.below ((Below.refl w1.heap.size w1).alloc (Nat.le_refl _) _) (by simp only [World.size_alloc]; omega) (Nat.le_refl _)
        have HBw2 := hid (Below.on HBw1.out hw2)
        have hsw2 := HBw2.out.size
        have Kxw2 := hid hkw2
        have hfw2 : w.heap.size ≤ w1.heap.size := HBw1.out.size
        clear hbw2 hkw2 hw2)
  refine (loWay_full a len cap i _ h1).mono ?_
  rintro e w3 ⟨rfl, bw3⟩
  have HBw3 := hid (Below.on HBw2.out bw3)
  have hsw3 := HBw3.out.size
  have Kxw3 := hid (Kxw2.out.below bw3)
  clear bw3
  go_wp2_with fail
  refine (loFrom_full a len cap m _ h1).mono ?_
  rintro e w4 ⟨rfl, bw4⟩
  have HBw4 := hid (Below.on HBw3.out bw4)
  have hsw4 := HBw4.out.size
  have Kxw4 := hid (Kxw3.out.below bw4)
  clear bw4
  go_wp2_with (refine wpList_load_blk rfl 23 _ rfl (w1.heap.size) rfl _ 23 Kxw4.out _ Tryd.underlying23 rfl 32 size_digest Dg.zero.size ?_)
  refine (knows19 _ (Htab.out.below HBw4.out)).mono ?_
  rintro e w5 ⟨rfl, bw5⟩
  have HBw5 := hid (Below.on HBw4.out bw5)
  have hsw5 := HBw5.out.size
  have Kxw5 := hid (Kxw4.out.below bw5)
  clear bw5
  go_wp2_with fail
  go_returns
  exact ⟨rfl, HBw5.out⟩

set_option maxHeartbeats 4000000 in
set_option maxRecDepth 100000 in
theorem logRoots_low_low (a : Option Addr) (len cap : Nat) (i : Int) (m : Int) (w : World) (ts : List (List Int)) (hT : TextsAt w a len cap ts) (hreach : ∀ t ∈ ts, t.length ≤ 140737488351232) (h1 : len ≤ 40) (ht : fewB ts 2000 = true) (hi : i < 0) (hm : m < 1) (tab : ShaTab w) :
    Calls Tryd.prog 9 #[.slice a len cap, .int .i64 i, .int .i64 m] w fun e w' => e = .returned (.bool true) ∧ Below w.heap.size w w' := by
  obtain ⟨hs1, hs2⟩ := fewB_spec ht
  have hI1 : ¬ ((40 : Int) < len) := by omega
  have hI2 : (len : Int) ≤ 200 := by omega
  have hI3 : ¬ ((300 : Int) < len) := by omega
  have hI4 : (len : Int) ≤ 40 := by omega
  have CT := hid (fun (W : World) (h : TextsAt W a len cap ts) => by have := few_any a len cap ts 2000 W h hreach; rw [ht] at this; exact this)
  have CR := hid (fun (W : World) (h : TextsAt W a len cap ts) (t : ShaTab W) => loRoot_good a len cap ts W h (by omega) (by omega) t)
  have CRR := hid (fun (W : World) (h : TextsAt W a len cap ts) => refroot_any len a len cap ts W h (Nat.le_refl _) (by omega) (by omega))
  have HX := hid (Dg.rootL len ts)
  generalize rootL len ts = X at *
  have Htab := hid tab
  have Hb := hid (Below.refl w.heap.size w)
  clear tab
  go_enter Tryd.func9, Tryd.ntmps9
  go_wp2_with fail
  refine (CT.out _ hT).mono ?_
  rintro e w50 ⟨rfl, rfl⟩
  go_wp2_with fail
  refine (CR.out _ hT Htab.out).mono ?_
  rintro e w1 ⟨rfl, bw1⟩
  have HBw1 := hid (Below.on Hb.out bw1)
  have hsw1 := HBw1.out.size
  clear bw1
  go_wp2_with (
        refine wpList_store_blk rfl 23 _ _ rfl (w1.heap.size) (X.map (Value.int .u8)).toArray rfl rfl _ 23 (Blk.new rfl (byteCells 32 []) _) 32 size_digest zsize HX.out.size (ints_one _ _) ?_
        intro w2 hbw2 hkw2
        have hw2 := hbw2.below ((Below.refl w1.heap.size w1).alloc (Nat.le_refl _) _) (by simp only [World.size_alloc]; omega) (Nat.le_refl _)
        have HBw2 := hid (Below.on HBw1.out hw2)
        have hsw2 := HBw2.out.size
        have Kxw2 := hid hkw2
        have hfw2 : w.heap.size ≤ w1.heap.size := HBw1.out.size
        clear hbw2 hkw2 hw2)
  refine (loWay_low a len cap i _ (by omega) hi).mono ?_
  rintro e w3 ⟨rfl, bw3⟩
  have HBw3 := hid (Below.on HBw2.out bw3)
  have hsw3 := HBw3.out.size
  have Kxw3 := hid (Kxw2.out.below bw3)
  clear bw3
  go_wp2_with fail
  refine (loFrom_low a len cap m _ (by omega) hm).mono ?_
  rintro e w4 ⟨rfl, bw4⟩
  have HBw4 := hid (Below.on HBw3.out bw4)
  have hsw4 := HBw4.out.size
  have Kxw4 := hid (Kxw3.out.below bw4)
  clear bw4
  go_wp2_with fail
  refine wp_region_flow 8 (List.range 8) [] [] (by kernel_rfl) (by kernel_rfl) ?_
  apply Exists.intro
  refine ⟨fun w0 hb0 hF0 => ?_, ?_⟩
  · skip
    have x0 : ∀ w', (∃ x : Ext w0, w' = x.at_) → ∃ T, Blk w' (w1.heap.size) (X.map (Value.int .u8)).toArray T := fun w' ⟨x, hx⟩ => ⟨_, hx ▸ (Kxw4.out.below hb0).below x.same⟩
    have c0 := fun e : Ext w0 => CRR.out e.at_ (((hT.below HBw4.out).below hb0).below e.same)
    have qx := fun W => neD_self X HX.out.len W
    simp only [pick, List.range, List.range.loop, List.getElem?_toArray, List.getElem?_cons_succ, List.getElem?_cons_zero, Option.toList_some, List.cons_append, List.nil_append]
    repeat (first | (go_big_quiet_want; refine quiet_load_blk 23 _ rfl (w1.heap.size) rfl _ x0 _ Tryd.underlying23 rfl 32 size_digest HX.out.size ?_; go_big_quiet_on; simp only [Act.put, List.setIfInBounds_toArray, List.set_cons_zero, List.set_cons_succ]) | (go_big_quiet_want; refine quiet_cmp _ _ rfl _ _ _ rfl rfl qx ?_; go_big_quiet_on; simp only [Act.put, List.setIfInBounds_toArray, List.set_cons_zero, List.set_cons_succ]) | go_big_quiet_step (first | (go_at_call 39; with_reducible exact Calls.ext (c0 _))))
    exact wpQuiet_nil rfl
  refine AlChk.nil ?_
  refine Walk.fin fun w5 hw5 _ _ => ?_
  simp only [List.drop_succ_cons, List.drop_zero]
  have HBw5 := hid (Below.on HBw4.out hw5)
  have hsw5 := HBw5.out.size
  have Kxw5 := hid (Kxw4.out.below hw5)
  clear hw5
  go_wp2_with fail
  refine (knows19 _ (Htab.out.below HBw5.out)).mono ?_
  rintro e w6 ⟨rfl, bw6⟩
  have HBw6 := hid (Below.on HBw5.out bw6)
  have hsw6 := HBw6.out.size
  have Kxw6 := hid (Kxw5.out.below bw6)
  clear bw6
  go_wp2_with fail
  go_returns
  exact ⟨rfl, HBw6.out⟩

set_option maxHeartbeats 4000000 in
set_option maxRecDepth 100000 in
theorem logRoots_low_high (a : Option Addr) (len cap : Nat) (i : Int) (m : Int) (w : World) (ts : List (List Int)) (hT : TextsAt w a len cap ts) (hreach : ∀ t ∈ ts, t.length ≤ 140737488351232) (h1 : len ≤ 40) (ht : fewB ts 2000 = true) (hi : i < 0) (hm0 : ¬ m < 1) (hm : (len : Int) < m) (tab : ShaTab w) :
    Calls Tryd.prog 9 #[.slice a len cap, .int .i64 i, .int .i64 m] w fun e w' => e = .returned (.bool true) ∧ Below w.heap.size w w' := by
  obtain ⟨hs1, hs2⟩ := fewB_spec ht
  have hI1 : ¬ ((40 : Int) < len) := by omega
  have hI2 : (len : Int) ≤ 200 := by omega
  have hI3 : ¬ ((300 : Int) < len) := by omega
  have hI4 : (len : Int) ≤ 40 := by omega
  have CT := hid (fun (W : World) (h : TextsAt W a len cap ts) => by have := few_any a len cap ts 2000 W h hreach; rw [ht] at this; exact this)
  have CR := hid (fun (W : World) (h : TextsAt W a len cap ts) (t : ShaTab W) => loRoot_good a len cap ts W h (by omega) (by omega) t)
  have CRR := hid (fun (W : World) (h : TextsAt W a len cap ts) => refroot_any len a len cap ts W h (Nat.le_refl _) (by omega) (by omega))
  have HX := hid (Dg.rootL len ts)
  generalize rootL len ts = X at *
  have Htab := hid tab
  have Hb := hid (Below.refl w.heap.size w)
  clear tab
  go_enter Tryd.func9, Tryd.ntmps9
  go_wp2_with fail
  refine (CT.out _ hT).mono ?_
  rintro e w50 ⟨rfl, rfl⟩
  go_wp2_with fail
  refine (CR.out _ hT Htab.out).mono ?_
  rintro e w1 ⟨rfl, bw1⟩
  have HBw1 := hid (Below.on Hb.out bw1)
  have hsw1 := HBw1.out.size
  clear bw1
  go_wp2_with (
        refine wpList_store_blk rfl 23 _ _ rfl (w1.heap.size) (X.map (Value.int .u8)).toArray rfl rfl _ 23 (Blk.new rfl (byteCells 32 []) _) 32 size_digest zsize HX.out.size (ints_one _ _) ?_
        intro w2 hbw2 hkw2
        have hw2 := hbw2.below ((Below.refl w1.heap.size w1).alloc (Nat.le_refl _) _) (by simp only [World.size_alloc]; omega) (Nat.le_refl _)
        have HBw2 := hid (Below.on HBw1.out hw2)
        have hsw2 := HBw2.out.size
        have Kxw2 := hid hkw2
        have hfw2 : w.heap.size ≤ w1.heap.size := HBw1.out.size
        clear hbw2 hkw2 hw2)
  refine (loWay_low a len cap i _ (by omega) hi).mono ?_
  rintro e w3 ⟨rfl, bw3⟩
  have HBw3 := hid (Below.on HBw2.out bw3)
  have hsw3 := HBw3.out.size
  have Kxw3 := hid (Kxw2.out.below bw3)
  clear bw3
  go_wp2_with fail
  refine (loFrom_high a len cap m _ (by omega) (by omega) hm).mono ?_
  rintro e w4 ⟨rfl, bw4⟩
  have HBw4 := hid (Below.on HBw3.out bw4)
  have hsw4 := HBw4.out.size
  have Kxw4 := hid (Kxw3.out.below bw4)
  clear bw4
  go_wp2_with fail
  refine wp_region_flow 8 (List.range 8) [] [] (by kernel_rfl) (by kernel_rfl) ?_
  apply Exists.intro
  refine ⟨fun w0 hb0 hF0 => ?_, ?_⟩
  · skip
    have x0 : ∀ w', (∃ x : Ext w0, w' = x.at_) → ∃ T, Blk w' (w1.heap.size) (X.map (Value.int .u8)).toArray T := fun w' ⟨x, hx⟩ => ⟨_, hx ▸ (Kxw4.out.below hb0).below x.same⟩
    have c0 := fun e : Ext w0 => CRR.out e.at_ (((hT.below HBw4.out).below hb0).below e.same)
    have qx := fun W => neD_self X HX.out.len W
    simp only [pick, List.range, List.range.loop, List.getElem?_toArray, List.getElem?_cons_succ, List.getElem?_cons_zero, Option.toList_some, List.cons_append, List.nil_append]
    repeat (first | (go_big_quiet_want; refine quiet_load_blk 23 _ rfl (w1.heap.size) rfl _ x0 _ Tryd.underlying23 rfl 32 size_digest HX.out.size ?_; go_big_quiet_on; simp only [Act.put, List.setIfInBounds_toArray, List.set_cons_zero, List.set_cons_succ]) | (go_big_quiet_want; refine quiet_cmp _ _ rfl _ _ _ rfl rfl qx ?_; go_big_quiet_on; simp only [Act.put, List.setIfInBounds_toArray, List.set_cons_zero, List.set_cons_succ]) | go_big_quiet_step (first | (go_at_call 39; with_reducible exact Calls.ext (c0 _))))
    exact wpQuiet_nil rfl
  refine AlChk.nil ?_
  refine Walk.fin fun w5 hw5 _ _ => ?_
  simp only [List.drop_succ_cons, List.drop_zero]
  have HBw5 := hid (Below.on HBw4.out hw5)
  have hsw5 := HBw5.out.size
  have Kxw5 := hid (Kxw4.out.below hw5)
  clear hw5
  go_wp2_with fail
  refine (knows19 _ (Htab.out.below HBw5.out)).mono ?_
  rintro e w6 ⟨rfl, bw6⟩
  have HBw6 := hid (Below.on HBw5.out bw6)
  have hsw6 := HBw6.out.size
  have Kxw6 := hid (Kxw5.out.below bw6)
  clear bw6
  go_wp2_with fail
  go_returns
  exact ⟨rfl, HBw6.out⟩

set_option maxHeartbeats 4000000 in
set_option maxRecDepth 100000 in
theorem logRoots_low_good (a : Option Addr) (len cap : Nat) (i : Int) (m : Nat) (w : World) (ts : List (List Int)) (hT : TextsAt w a len cap ts) (hreach : ∀ t ∈ ts, t.length ≤ 140737488351232) (h1 : len ≤ 40) (ht : fewB ts 2000 = true) (hi : i < 0) (hm1 : 1 ≤ m) (hm : m ≤ len) (tab : ShaTab w) :
    Calls Tryd.prog 9 #[.slice a len cap, .int .i64 i, .int .i64 m] w fun e w' => e = .returned (.bool true) ∧ Below w.heap.size w w' := by
  obtain ⟨hs1, hs2⟩ := fewB_spec ht
  have hI1 : ¬ ((40 : Int) < len) := by omega
  have hI2 : (len : Int) ≤ 200 := by omega
  have hI3 : ¬ ((300 : Int) < len) := by omega
  have hI4 : (len : Int) ≤ 40 := by omega
  have CT := hid (fun (W : World) (h : TextsAt W a len cap ts) => by have := few_any a len cap ts 2000 W h hreach; rw [ht] at this; exact this)
  have hf1 : ¬ ((m : Int) < 1) := by omega
  have hf2 : ¬ ((len : Int) < (m : Int)) := by omega
  have CF := hid (fun (W : World) (h : TextsAt W a len cap ts) (t : ShaTab W) => loFrom_good a len cap ts m W h (by omega) hm1 hm (by omega) t)
  have CRF := hid (fun (W : World) (h : TextsAt W a len cap ts) => reffrom19_any len a len cap ts m false W h hm1 hm (Nat.le_refl _) (by omega) (by omega) (by omega))
  generalize growL len ts m false = FL at *
  have CR := hid (fun (W : World) (h : TextsAt W a len cap ts) (t : ShaTab W) => loRoot_good a len cap ts W h (by omega) (by omega) t)
  have CRR := hid (fun (W : World) (h : TextsAt W a len cap ts) => refroot_any len a len cap ts W h (Nat.le_refl _) (by omega) (by omega))
  have HX := hid (Dg.rootL len ts)
  generalize rootL len ts = X at *
  have Htab := hid tab
  have Hb := hid (Below.refl w.heap.size w)
  clear tab
  go_enter Tryd.func9, Tryd.ntmps9
  go_wp2_with fail
  refine (CT.out _ hT).mono ?_
  rintro e w50 ⟨rfl, rfl⟩
  go_wp2_with fail
  refine (CR.out _ hT Htab.out).mono ?_
  rintro e w1 ⟨rfl, bw1⟩
  have HBw1 := hid (Below.on Hb.out bw1)
  have hsw1 := HBw1.out.size
  clear bw1
  go_wp2_with (
        refine wpList_store_blk rfl 23 _ _ rfl (w1.heap.size) (X.map (Value.int .u8)).toArray rfl rfl _ 23 (Blk.new rfl (byteCells 32 []) _) 32 size_digest zsize HX.out.size (ints_one _ _) ?_
        intro w2 hbw2 hkw2
        have hw2 := hbw2.below ((Below.refl w1.heap.size w1).alloc (Nat.le_refl _) _) (by simp only [World.size_alloc]; omega) (Nat.le_refl _)
        have HBw2 := hid (Below.on HBw1.out hw2)
        have hsw2 := HBw2.out.size
        have Kxw2 := hid hkw2
        have hfw2 : w.heap.size ≤ w1.heap.size := HBw1.out.size
        clear hbw2 hkw2 hw2)
  refine (loWay_low a len cap i _ (by omega) hi).mono ?_
  rintro e w3 ⟨rfl, bw3⟩
  have HBw3 := hid (Below.on HBw2.out bw3)
  have hsw3 := HBw3.out.size
  have Kxw3 := hid (Kxw2.out.below bw3)
  clear bw3
  go_wp2_with fail
  refine (CF.out _ (hT.below HBw3.out) (Htab.out.below HBw3.out)).mono ?_
  rintro e w4 ⟨_, rfl, bw4, ow4⟩
  obtain ⟨za, zc, rfl, dw4, _⟩ := ow4.digs
  have HZw4 := hid dw4
  have HBw4 := hid (Below.on HBw3.out bw4)
  have hsw4 := HBw4.out.size
  have Kxw4 := hid (Kxw3.out.below bw4)
  clear bw4 ow4 dw4
  go_wp2_with fail
  refine wp_region_flow 8 (List.range 8) [] [] (by kernel_rfl) (by kernel_rfl) ?_
  apply Exists.intro
  refine ⟨fun w0 hb0 hF0 => ?_, ?_⟩
  · skip
    have x0 : ∀ w', (∃ x : Ext w0, w' = x.at_) → ∃ T, Blk w' (w1.heap.size) (X.map (Value.int .u8)).toArray T := fun w' ⟨x, hx⟩ => ⟨_, hx ▸ (Kxw4.out.below hb0).below x.same⟩
    have c0 := fun e : Ext w0 => CRR.out e.at_ (((hT.below HBw4.out).below hb0).below e.same)
    have qx := fun W => neD_self X HX.out.len W
    simp only [pick, List.range, List.range.loop, List.getElem?_toArray, List.getElem?_cons_succ, List.getElem?_cons_zero, Option.toList_some, List.cons_append, List.nil_append]
    repeat (first | (go_big_quiet_want; refine quiet_load_blk 23 _ rfl (w1.heap.size) rfl _ x0 _ Tryd.underlying23 rfl 32 size_digest HX.out.size ?_; go_big_quiet_on; simp only [Act.put, List.setIfInBounds_toArray, List.set_cons_zero, List.set_cons_succ]) | (go_big_quiet_want; refine quiet_cmp _ _ rfl _ _ _ rfl rfl qx ?_; go_big_quiet_on; simp only [Act.put, List.setIfInBounds_toArray, List.set_cons_zero, List.set_cons_succ]) | go_big_quiet_step (first | (go_at_call 39; with_reducible exact Calls.ext (c0 _))))
    exact wpQuiet_nil rfl
  refine AlChk.nil ?_
  refine Walk.fin fun w5 hw5 _ _ => ?_
  simp only [List.drop_succ_cons, List.drop_zero]
  have HBw5 := hid (Below.on HBw4.out hw5)
  have hsw5 := HBw5.out.size
  have Kxw5 := hid (Kxw4.out.below hw5)
  have HZw5 := hid (HZw4.out.below hw5)
  clear hw5
  go_wp2_with fail
  refine (CRF.out _ (hT.below HBw5.out)).mono ?_
  rintro e w6 ⟨_, rfl, bw6, ow6⟩
  obtain ⟨va, vc, rfl, dw6, _⟩ := ow6.digs
  have HVw6 := hid dw6
  have HBw6 := hid (Below.on HBw5.out bw6)
  have hsw6 := HBw6.out.size
  have Kxw6 := hid (Kxw5.out.below bw6)
  have HZw6 := hid (HZw5.out.below bw6)
  clear bw6 ow6 dw6
  go_wp2_with fail
  refine (same_any za va FL.length zc vc FL _ HZw6.out HVw6.out).mono ?_
  rintro e w7 ⟨rfl, bw7⟩
  have HBw7 := hid (Below.on HBw6.out bw7)
  have hsw7 := HBw7.out.size
  have Kxw7 := hid (Kxw6.out.below bw7)
  have HZw7 := hid (HZw6.out.below bw7)
  have HVw7 := hid (HVw6.out.below bw7)
  clear bw7
  go_wp2_with fail
  refine (knows19 _ (Htab.out.below HBw7.out)).mono ?_
  rintro e w8 ⟨rfl, bw8⟩
  have HBw8 := hid (Below.on HBw7.out bw8)
  have hsw8 := HBw8.out.size
  have Kxw8 := hid (Kxw7.out.below bw8)
  clear bw8
  go_wp2_with fail
  go_returns
  exact ⟨rfl, HBw8.out⟩

set_option maxHeartbeats 4000000 in
set_option maxRecDepth 100000 in
theorem logRoots_high_low (a : Option Addr) (len cap : Nat) (i : Int) (m : Int) (w : World) (ts : List (List Int)) (hT : TextsAt w a len cap ts) (hreach : ∀ t ∈ ts, t.length ≤ 140737488351232) (h1 : len ≤ 40) (ht : fewB ts 2000 = true) (hi0 : ¬ i < 0) (hi : (len : Int) ≤ i) (hm : m < 1) (tab : ShaTab w) :
    Calls Tryd.prog 9 #[.slice a len cap, .int .i64 i, .int .i64 m] w fun e w' => e = .returned (.bool true) ∧ Below w.heap.size w w' := by
  obtain ⟨hs1, hs2⟩ := fewB_spec ht
  have hI1 : ¬ ((40 : Int) < len) := by omega
  have hI2 : (len : Int) ≤ 200 := by omega
  have hI3 : ¬ ((300 : Int) < len) := by omega
  have hI4 : (len : Int) ≤ 40 := by omega
  have CT := hid (fun (W : World) (h : TextsAt W a len cap ts) => by have := few_any a len cap ts 2000 W h hreach; rw [ht] at this; exact this)
  have CR := hid (fun (W : World) (h : TextsAt W a len cap ts) (t : ShaTab W) => loRoot_good a len cap ts W h (by omega) (by omega) t)
  have CRR := hid (fun (W : World) (h : TextsAt W a len cap ts) => refroot_any len a len cap ts W h (Nat.le_refl _) (by omega) (by omega))
  have HX := hid (Dg.rootL len ts)
  generalize rootL len ts = X at *
  have Htab := hid tab
  have Hb := hid (Below.refl w.heap.size w)
  clear tab
  go_enter Tryd.func9, Tryd.ntmps9
  go_wp2_with fail
  refine (CT.out _ hT).mono ?_
  rintro e w50 ⟨rfl, rfl⟩
  go_wp2_with fail
  refine (CR.out _ hT Htab.out).mono ?_
  rintro e w1 ⟨rfl, bw1⟩
  have HBw1 := hid (Below.on Hb.out bw1)
  have hsw1 := HBw1.out.size
  clear bw1
  go_wp2_with (
        refine wpList_store_blk rfl 23 _ _ rfl (w1.heap.size) (X.map (Value.int .u8)).toArray rfl rfl _ 23 (Blk.new rfl (byteCells 32 []) _) 32 size_digest zsize HX.out.size (ints_one _ _) ?_
        intro w2 hbw2 hkw2
        have hw2 := hbw2.below ((Below.refl w1.heap.size w1).alloc (Nat.le_refl _) _) (by simp only [World.size_alloc]; omega) (Nat.le_refl _)
        have HBw2 := hid (Below.on HBw1.out hw2)
        have hsw2 := HBw2.out.size
        have Kxw2 := hid hkw2
        have hfw2 : w.heap.size ≤ w1.heap.size := HBw1.out.size
        clear hbw2 hkw2 hw2)
  refine (loWay_high a len cap i _ (by omega) (by omega) hi).mono ?_
  rintro e w3 ⟨rfl, bw3⟩
  have HBw3 := hid (Below.on HBw2.out bw3)
  have hsw3 := HBw3.out.size
  have Kxw3 := hid (Kxw2.out.below bw3)
  clear bw3
  go_wp2_with fail
  refine (loFrom_low a len cap m _ (by omega) hm).mono ?_
  rintro e w4 ⟨rfl, bw4⟩
  have HBw4 := hid (Below.on HBw3.out bw4)
  have hsw4 := HBw4.out.size
  have Kxw4 := hid (Kxw3.out.below bw4)
  clear bw4
  go_wp2_with fail
  refine wp_region_flow 8 (List.range 8) [] [] (by kernel_rfl) (by kernel_rfl) ?_
  apply Exists.intro
  refine ⟨fun w0 hb0 hF0 => ?_, ?_⟩
  · skip
    have x0 : ∀ w', (∃ x : Ext w0, w' = x.at_) → ∃ T, Blk w' (w1.heap.size) (X.map (Value.int .u8)).toArray T := fun w' ⟨x, hx⟩ => ⟨_, hx ▸ (Kxw4.out.below hb0).below x.same⟩
    have c0 := fun e : Ext w0 => CRR.out e.at_ (((hT.below HBw4.out).below hb0).below e.same)
    have qx := fun W => neD_self X HX.out.len W
    simp only [pick, List.range, List.range.loop, List.getElem?_toArray, List.getElem?_cons_succ, List.getElem?_cons_zero, Option.toList_some, List.cons_append, List.nil_append]
    repeat (first | (go_big_quiet_want; refine quiet_load_blk 23 _ rfl (w1.heap.size) rfl _ x0 _ Tryd.underlying23 rfl 32 size_digest HX.out.size ?_; go_big_quiet_on; simp only [Act.put, List.setIfInBounds_toArray, List.set_cons_zero, List.set_cons_succ]) | (go_big_quiet_want; refine quiet_cmp _ _ rfl _ _ _ rfl rfl qx ?_; go_big_quiet_on; simp only [Act.put, List.setIfInBounds_toArray, List.set_cons_zero, List.set_cons_succ]) | go_big_quiet_step (first | (go_at_call 39; with_reducible exact Calls.ext (c0 _))))
    exact wpQuiet_nil rfl
  refine AlChk.nil ?_
  refine Walk.fin fun w5 hw5 _ _ => ?_
  simp only [List.drop_succ_cons, List.drop_zero]
  have HBw5 := hid (Below.on HBw4.out hw5)
  have hsw5 := HBw5.out.size
  have Kxw5 := hid (Kxw4.out.below hw5)
  clear hw5
  go_wp2_with fail
  refine (knows19 _ (Htab.out.below HBw5.out)).mono ?_
  rintro e w6 ⟨rfl, bw6⟩
  have HBw6 := hid (Below.on HBw5.out bw6)
  have hsw6 := HBw6.out.size
  have Kxw6 := hid (Kxw5.out.below bw6)
  clear bw6
  go_wp2_with fail
  go_returns
  exact ⟨rfl, HBw6.out⟩

set_option maxHeartbeats 4000000 in
set_option maxRecDepth 100000 in
theorem logRoots_high_high (a : Option Addr) (len cap : Nat) (i : Int) (m : Int) (w : World) (ts : List (List Int)) (hT : TextsAt w a len cap ts) (hreach : ∀ t ∈ ts, t.length ≤ 140737488351232) (h1 : len ≤ 40) (ht : fewB ts 2000 = true) (hi0 : ¬ i < 0) (hi : (len : Int) ≤ i) (hm0 : ¬ m < 1) (hm : (len : Int) < m) (tab : ShaTab w) :
    Calls Tryd.prog 9 #[.slice a len cap, .int .i64 i, .int .i64 m] w fun e w' => e = .returned (.bool true) ∧ Below w.heap.size w w' := by
  obtain ⟨hs1, hs2⟩ := fewB_spec ht
  have hI1 : ¬ ((40 : Int) < len) := by omega
  have hI2 : (len : Int) ≤ 200 := by omega
  have hI3 : ¬ ((300 : Int) < len) := by omega
  have hI4 : (len : Int) ≤ 40 := by omega
  have CT := hid (fun (W : World) (h : TextsAt W a len cap ts) => by have := few_any a len cap ts 2000 W h hreach; rw [ht] at this; exact this)
  have CR := hid (fun (W : World) (h : TextsAt W a len cap ts) (t : ShaTab W) => loRoot_good a len cap ts W h (by omega) (by omega) t)
  have CRR := hid (fun (W : World) (h : TextsAt W a len cap ts) => refroot_any len a len cap ts W h (Nat.le_refl _) (by omega) (by omega))
  have HX := hid (Dg.rootL len ts)
  generalize rootL len ts = X at *
  have Htab := hid tab
  have Hb := hid (Below.refl w.heap.size w)
  clear tab
  go_enter Tryd.func9, Tryd.ntmps9
  go_wp2_with fail
  refine (CT.out _ hT).mono ?_
  rintro e w50 ⟨rfl, rfl⟩
  go_wp2_with fail
  refine (CR.out _ hT Htab.out).mono ?_
  rintro e w1 ⟨rfl, bw1⟩
  have HBw1 := hid (Below.on Hb.out bw1)
  have hsw1 := HBw1.out.size
  clear bw1
  go_wp2_with (
        refine wpList_store_blk rfl 23 _ _ rfl (w1.heap.size) (X.map (Value.int .u8)).toArray rfl rfl _ 23 (Blk.new rfl (byteCells 32 []) _) 32 size_digest zsize HX.out.size (ints_one _ _) ?_
        intro w2 hbw2 hkw2
        have hw2 := hbw2.below ((Below.refl w1.heap.size w1).alloc (Nat.le_refl _) _) (by simp only [World.size_alloc]; omega) (Nat.le_refl _)
        have HBw2 := hid (Below.on HBw1.out hw2)
        have hsw2 := HBw2.out.size
        have Kxw2 := hid hkw2
        have hfw2 : w.heap.size ≤ w1.heap.size := HBw1.out.size
        clear hbw2 hkw2 hw2)
  refine (loWay_high a len cap i _ (by omega) (by omega) hi).mono ?_
  rintro e w3 ⟨rfl, bw3⟩
  have HBw3 := hid (Below.on HBw2.out bw3)
  have hsw3 := HBw3.out.size
  have Kxw3 := hid (Kxw2.out.below bw3)
  clear bw3
  go_wp2_with fail
  refine (loFrom_high a len cap m _ (by omega) (by omega) hm).mono ?_
  rintro e w4 ⟨rfl, bw4⟩
  have HBw4 := hid (Below.on HBw3.out bw4)
  have hsw4 := HBw4.out.size
  have Kxw4 := hid (Kxw3.out.below bw4)
  clear bw4
  go_wp2_with fail
  refine wp_region_flow 8 (List.range 8) [] [] (by kernel_rfl) (by kernel_rfl) ?_
  apply Exists.intro
  refine ⟨fun w0 hb0 hF0 => ?_, ?_⟩
  · skip
    have x0 : ∀ w', (∃ x : Ext w0, w' = x.at_) → ∃ T, Blk w' (w1.heap.size) (X.map (Value.int .u8)).toArray T := fun w' ⟨x, hx⟩ => ⟨_, hx ▸ (Kxw4.out.below hb0).below x.same⟩
    have c0 := fun e : Ext w0 => CRR.out e.at_ (((hT.below HBw4.out).below hb0).below e.same)
    have qx := fun W => neD_self X HX.out.len W
    simp only [pick, List.range, List.range.loop, List.getElem?_toArray, List.getElem?_cons_succ, List.getElem?_cons_zero, Option.toList_some, List.cons_append, List.nil_append]
    repeat (first | (go_big_quiet_want; refine quiet_load_blk 23 _ rfl (w1.heap.size) rfl _ x0 _ Tryd.underlying23 rfl 32 size_digest HX.out.size ?_; go_big_quiet_on; simp only [Act.put, List.setIfInBounds_toArray, List.set_cons_zero, List.set_cons_succ]) | (go_big_quiet_want; refine quiet_cmp _ _ rfl _ _ _ rfl rfl qx ?_; go_big_quiet_on; simp only [Act.put, List.setIfInBounds_toArray, List.set_cons_zero, List.set_cons_succ]) | go_big_quiet_step (first | (go_at_call 39; with_reducible exact Calls.ext (c0 _))))
    exact wpQuiet_nil rfl
  refine AlChk.nil ?_
  refine Walk.fin fun w5 hw5 _ _ => ?_
  simp only [List.drop_succ_cons, List.drop_zero]
  have HBw5 := hid (Below.on HBw4.out hw5)
  have hsw5 := HBw5.out.size
  have Kxw5 := hid (Kxw4.out.below hw5)
  clear hw5
  go_wp2_with fail
  refine (knows19 _ (Htab.out.below HBw5.out)).mono ?_
  rintro e w6 ⟨rfl, bw6⟩
  have HBw6 := hid (Below.on HBw5.out bw6)
  have hsw6 := HBw6.out.size
  have Kxw6 := hid (Kxw5.out.below bw6)
  clear bw6
  go_wp2_with fail
  go_returns
  exact ⟨rfl, HBw6.out⟩

set_option maxHeartbeats 4000000 in
set_option maxRecDepth 100000 in
theorem logRoots_high_good (a : Option Addr) (len cap : Nat) (i : Int) (m : Nat) (w : World) (ts : List (List Int)) (hT : TextsAt w a len cap ts) (hreach : ∀ t ∈ ts, t.length ≤ 140737488351232) (h1 : len ≤ 40) (ht : fewB ts 2000 = true) (hi0 : ¬ i < 0) (hi : (len : Int) ≤ i) (hm1 : 1 ≤ m) (hm : m ≤ len) (tab : ShaTab w) :
    Calls Tryd.prog 9 #[.slice a len cap, .int .i64 i, .int .i64 m] w fun e w' => e = .returned (.bool true) ∧ Below w.heap.size w w' := by
  obtain ⟨hs1, hs2⟩ := fewB_spec ht
  have hI1 : ¬ ((40 : Int) < len) := by omega
  have hI2 : (len : Int) ≤ 200 := by omega
  have hI3 : ¬ ((300 : Int) < len) := by omega
  have hI4 : (len : Int) ≤ 40 := by omega
  have CT := hid (fun (W : World) (h : TextsAt W a len cap ts) => by have := few_any a len cap ts 2000 W h hreach; rw [ht] at this; exact this)
  have hf1 : ¬ ((m : Int) < 1) := by omega
  have hf2 : ¬ ((len : Int) < (m : Int)) := by omega
  have CF := hid (fun (W : World) (h : TextsAt W a len cap ts) (t : ShaTab W) => loFrom_good a len cap ts m W h (by omega) hm1 hm (by omega) t)
  have CRF := hid (fun (W : World) (h : TextsAt W a len cap ts) => reffrom19_any len a len cap ts m false W h hm1 hm (Nat.le_refl _) (by omega) (by omega) (by omega))
  generalize growL len ts m false = FL at *
  have CR := hid (fun (W : World) (h : TextsAt W a len cap ts) (t : ShaTab W) => loRoot_good a len cap ts W h (by omega) (by omega) t)
  have CRR := hid (fun (W : World) (h : TextsAt W a len cap ts) => refroot_any len a len cap ts W h (Nat.le_refl _) (by omega) (by omega))
  have HX := hid (Dg.rootL len ts)
  generalize rootL len ts = X at *
  have Htab := hid tab
  have Hb := hid (Below.refl w.heap.size w)
  clear tab
  go_enter Tryd.func9, Tryd.ntmps9
  go_wp2_with fail
  refine (CT.out _ hT).mono ?_
  rintro e w50 ⟨rfl, rfl⟩
  go_wp2_with fail
  refine (CR.out _ hT Htab.out).mono ?_
  rintro e w1 ⟨rfl, bw1⟩
  have HBw1 := hid (Below.on Hb.out bw1)
  have hsw1 := HBw1.out.size
  clear bw1
  go_wp2_with (
        refine wpList_store_blk rfl 23 _ _ rfl (w1.heap.size) (X.map (Value.int .u8)).toArray rfl rfl _ 23 (Blk.new rfl (byteCells 32 []) _) 32 size_digest zsize HX.out.size (ints_one _ _) ?_
        intro w2 hbw2 hkw2
        have hw2 := hbw2.below ((Below.refl w1.heap.size w1).alloc (Nat.le_refl _) _) (by simp only [World.size_alloc]; omega) (Nat.le_refl _)
        have HBw2 := hid (Below.on HBw1.out hw2)
        have hsw2 := HBw2.out.size
        have Kxw2 := hid hkw2
        have hfw2 : w.heap.size ≤ w1.heap.size := HBw1.out.size
        clear hbw2 hkw2 hw2)
  refine (loWay_high a len cap i _ (by omega) (by omega) hi).mono ?_
  rintro e w3 ⟨rfl, bw3⟩
  have HBw3 := hid (Below.on HBw2.out bw3)
  have hsw3 := HBw3.out.size
  have Kxw3 := hid (Kxw2.out.below bw3)
  clear bw3
  go_wp2_with fail
  refine (CF.out _ (hT.below HBw3.out) (Htab.out.below HBw3.out)).mono ?_
  rintro e w4 ⟨_, rfl, bw4, ow4⟩
  obtain ⟨za, zc, rfl, dw4, _⟩ := ow4.digs
  have HZw4 := hid dw4
  have HBw4 := hid (Below.on HBw3.out bw4)
  have hsw4 := HBw4.out.size
  have Kxw4 := hid (Kxw3.out.below bw4)
  clear bw4 ow4 dw4
  go_wp2_with fail
  refine wp_region_flow 8 (List.range 8) [] [] (by kernel_rfl) (by kernel_rfl) ?_
  apply Exists.intro
  refine ⟨fun w0 hb0 hF0 => ?_, ?_⟩
  · skip
    have x0 : ∀ w', (∃ x : Ext w0, w' = x.at_) → ∃ T, Blk w' (w1.heap.size) (X.map (Value.int .u8)).toArray T := fun w' ⟨x, hx⟩ => ⟨_, hx ▸ (Kxw4.out.below hb0).below x.same⟩
    have c0 := fun e : Ext w0 => CRR.out e.at_ (((hT.below HBw4.out).below hb0).below e.same)
    have qx := fun W => neD_self X HX.out.len W
    simp only [pick, List.range, List.range.loop, List.getElem?_toArray, List.getElem?_cons_succ, List.getElem?_cons_zero, Option.toList_some, List.cons_append, List.nil_append]
    repeat (first | (go_big_quiet_want; refine quiet_load_blk 23 _ rfl (w1.heap.size) rfl _ x0 _ Tryd.underlying23 rfl 32 size_digest HX.out.size ?_; go_big_quiet_on; simp only [Act.put, List.setIfInBounds_toArray, List.set_cons_zero, List.set_cons_succ]) | (go_big_quiet_want; refine quiet_cmp _ _ rfl _ _ _ rfl rfl qx ?_; go_big_quiet_on; simp only [Act.put, List.setIfInBounds_toArray, List.set_cons_zero, List.set_cons_succ]) | go_big_quiet_step (first | (go_at_call 39; with_reducible exact Calls.ext (c0 _))))
    exact wpQuiet_nil rfl
  refine AlChk.nil ?_
  refine Walk.fin fun w5 hw5 _ _ => ?_
  simp only [List.drop_succ_cons, List.drop_zero]
  have HBw5 := hid (Below.on HBw4.out hw5)
  have hsw5 := HBw5.out.size
  have Kxw5 := hid (Kxw4.out.below hw5)
  have HZw5 := hid (HZw4.out.below hw5)
  clear hw5
  go_wp2_with fail
  refine (CRF.out _ (hT.below HBw5.out)).mono ?_
  rintro e w6 ⟨_, rfl, bw6, ow6⟩
  obtain ⟨va, vc, rfl, dw6, _⟩ := ow6.digs
  have HVw6 := hid dw6
  have HBw6 := hid (Below.on HBw5.out bw6)
  have hsw6 := HBw6.out.size
  have Kxw6 := hid (Kxw5.out.below bw6)
  have HZw6 := hid (HZw5.out.below bw6)
  clear bw6 ow6 dw6
  go_wp2_with fail
  refine (same_any za va FL.length zc vc FL _ HZw6.out HVw6.out).mono ?_
  rintro e w7 ⟨rfl, bw7⟩
  have HBw7 := hid (Below.on HBw6.out bw7)
  have hsw7 := HBw7.out.size
  have Kxw7 := hid (Kxw6.out.below bw7)
  have HZw7 := hid (HZw6.out.below bw7)
  have HVw7 := hid (HVw6.out.below bw7)
  clear bw7
  go_wp2_with fail
  refine (knows19 _ (Htab.out.below HBw7.out)).mono ?_
  rintro e w8 ⟨rfl, bw8⟩
  have HBw8 := hid (Below.on HBw7.out bw8)
  have hsw8 := HBw8.out.size
  have Kxw8 := hid (Kxw7.out.below bw8)
  clear bw8
  go_wp2_with fail
  go_returns
  exact ⟨rfl, HBw8.out⟩

set_option maxHeartbeats 4000000 in
set_option maxRecDepth 100000 in
theorem logRoots_good_low (a : Option Addr) (len cap : Nat) (i : Nat) (m : Int) (w : World) (ts : List (List Int)) (hT : TextsAt w a len cap ts) (hreach : ∀ t ∈ ts, t.length ≤ 140737488351232) (h1 : len ≤ 40) (ht : fewB ts 2000 = true) (hi : i < len) (hm : m < 1) (tab : ShaTab w) :
    Calls Tryd.prog 9 #[.slice a len cap, .int .i64 i, .int .i64 m] w fun e w' => e = .returned (.bool true) ∧ Below w.heap.size w w' := by
  obtain ⟨hs1, hs2⟩ := fewB_spec ht
  have hI1 : ¬ ((40 : Int) < len) := by omega
  have hI2 : (len : Int) ≤ 200 := by omega
  have hI3 : ¬ ((300 : Int) < len) := by omega
  have hI4 : (len : Int) ≤ 40 := by omega
  have CT := hid (fun (W : World) (h : TextsAt W a len cap ts) => by have := few_any a len cap ts 2000 W h hreach; rw [ht] at this; exact this)
  have hw1 : ¬ ((i : Int) < 0) := by omega
  have hw2 : ¬ ((len : Int) ≤ (i : Int)) := by omega
  have CW := hid (fun (W : World) (h : TextsAt W a len cap ts) (t : ShaTab W) => loWay_good a len cap ts i W h (by omega) hi (by omega) t)
  have CRW := hid (fun (W : World) (h : TextsAt W a len cap ts) => refway19_any len a len cap ts i W h hi (Nat.le_refl _) (by omega) (by omega) (by omega))
  generalize pathL len ts i = WL at *
  have CR := hid (fun (W : World) (h : TextsAt W a len cap ts) (t : ShaTab W) => loRoot_good a len cap ts W h (by omega) (by omega) t)
  have CRR := hid (fun (W : World) (h : TextsAt W a len cap ts) => refroot_any len a len cap ts W h (Nat.le_refl _) (by omega) (by omega))
  have HX := hid (Dg.rootL len ts)
  generalize rootL len ts = X at *
  have Htab := hid tab
  have Hb := hid (Below.refl w.heap.size w)
  clear tab
  go_enter Tryd.func9, Tryd.ntmps9
  go_wp2_with fail
  refine (CT.out _ hT).mono ?_
  rintro e w50 ⟨rfl, rfl⟩
  go_wp2_with fail
  refine (CR.out _ hT Htab.out).mono ?_
  rintro e w1 ⟨rfl, bw1⟩
  have HBw1 := hid (Below.on Hb.out bw1)
  have hsw1 := HBw1.out.size
  clear bw1
  go_wp2_with (
        refine wpList_store_blk rfl 23 _ _ rfl (w1.heap.size) (X.map (Value.int .u8)).toArray rfl rfl _ 23 (Blk.new rfl (byteCells 32 []) _) 32 size_digest zsize HX.out.size (ints_one _ _) ?_
        intro w2 hbw2 hkw2
        have hw2 := hbw2.below ((Below.refl w1.heap.size w1).alloc (Nat.le_refl _) _) (by simp only [World.size_alloc]; omega) (Nat.le_refl _)
        have HBw2 := hid (Below.on HBw1.out hw2)
        have hsw2 := HBw2.out.size
        have Kxw2 := hid hkw2
        have hfw2 : w.heap.size ≤ w1.heap.size := HBw1.out.size
        clear hbw2 hkw2 hw2)
  refine (CW.out _ (hT.below HBw2.out) (Htab.out.below HBw2.out)).mono ?_
  rintro e w3 ⟨_, rfl, bw3, ow3⟩
  obtain ⟨ya, yc, rfl, dw3, _⟩ := ow3.digs
  have HYw3 := hid dw3
  have HBw3 := hid (Below.on HBw2.out bw3)
  have hsw3 := HBw3.out.size
  have Kxw3 := hid (Kxw2.out.below bw3)
  clear bw3 ow3 dw3
  go_wp2_with fail
  refine (loFrom_low a len cap m _ (by omega) hm).mono ?_
  rintro e w4 ⟨rfl, bw4⟩
  have HBw4 := hid (Below.on HBw3.out bw4)
  have hsw4 := HBw4.out.size
  have Kxw4 := hid (Kxw3.out.below bw4)
  have HYw4 := hid (HYw3.out.below bw4)
  clear bw4
  go_wp2_with fail
  refine wp_region_flow 8 (List.range 8) [] [] (by kernel_rfl) (by kernel_rfl) ?_
  apply Exists.intro
  refine ⟨fun w0 hb0 hF0 => ?_, ?_⟩
  · skip
    have x0 : ∀ w', (∃ x : Ext w0, w' = x.at_) → ∃ T, Blk w' (w1.heap.size) (X.map (Value.int .u8)).toArray T := fun w' ⟨x, hx⟩ => ⟨_, hx ▸ (Kxw4.out.below hb0).below x.same⟩
    have c0 := fun e : Ext w0 => CRR.out e.at_ (((hT.below HBw4.out).below hb0).below e.same)
    have qx := fun W => neD_self X HX.out.len W
    simp only [pick, List.range, List.range.loop, List.getElem?_toArray, List.getElem?_cons_succ, List.getElem?_cons_zero, Option.toList_some, List.cons_append, List.nil_append]
    repeat (first | (go_big_quiet_want; refine quiet_load_blk 23 _ rfl (w1.heap.size) rfl _ x0 _ Tryd.underlying23 rfl 32 size_digest HX.out.size ?_; go_big_quiet_on; simp only [Act.put, List.setIfInBounds_toArray, List.set_cons_zero, List.set_cons_succ]) | (go_big_quiet_want; refine quiet_cmp _ _ rfl _ _ _ rfl rfl qx ?_; go_big_quiet_on; simp only [Act.put, List.setIfInBounds_toArray, List.set_cons_zero, List.set_cons_succ]) | go_big_quiet_step (first | (go_at_call 39; with_reducible exact Calls.ext (c0 _))))
    exact wpQuiet_nil rfl
  refine AlChk.nil ?_
  refine Walk.fin fun w5 hw5 _ _ => ?_
  simp only [List.drop_succ_cons, List.drop_zero]
  have HBw5 := hid (Below.on HBw4.out hw5)
  have hsw5 := HBw5.out.size
  have Kxw5 := hid (Kxw4.out.below hw5)
  have HYw5 := hid (HYw4.out.below hw5)
  clear hw5
  go_wp2_with fail
  refine (CRW.out _ (hT.below HBw5.out)).mono ?_
  rintro e w6 ⟨_, rfl, bw6, ow6⟩
  obtain ⟨ua, uc, rfl, dw6, _⟩ := ow6.digs
  have HUw6 := hid dw6
  have HBw6 := hid (Below.on HBw5.out bw6)
  have hsw6 := HBw6.out.size
  have Kxw6 := hid (Kxw5.out.below bw6)
  have HYw6 := hid (HYw5.out.below bw6)
  clear bw6 ow6 dw6
  go_wp2_with fail
  refine (same_any ya ua WL.length yc uc WL _ HYw6.out HUw6.out).mono ?_
  rintro e w7 ⟨rfl, bw7⟩
  have HBw7 := hid (Below.on HBw6.out bw7)
  have hsw7 := HBw7.out.size
  have Kxw7 := hid (Kxw6.out.below bw7)
  have HYw7 := hid (HYw6.out.below bw7)
  have HUw7 := hid (HUw6.out.below bw7)
  clear bw7
  go_wp2_with fail
  refine (knows19 _ (Htab.out.below HBw7.out)).mono ?_
  rintro e w8 ⟨rfl, bw8⟩
  have HBw8 := hid (Below.on HBw7.out bw8)
  have hsw8 := HBw8.out.size
  have Kxw8 := hid (Kxw7.out.below bw8)
  clear bw8
  go_wp2_with fail
  go_returns
  exact ⟨rfl, HBw8.out⟩

set_option maxHeartbeats 4000000 in
set_option maxRecDepth 100000 in
theorem logRoots_good_high (a : Option Addr) (len cap : Nat) (i : Nat) (m : Int) (w : World) (ts : List (List Int)) (hT : TextsAt w a len cap ts) (hreach : ∀ t ∈ ts, t.length ≤ 140737488351232) (h1 : len ≤ 40) (ht : fewB ts 2000 = true) (hi : i < len) (hm0 : ¬ m < 1) (hm : (len : Int) < m) (tab : ShaTab w) :
    Calls Tryd.prog 9 #[.slice a len cap, .int .i64 i, .int .i64 m] w fun e w' => e = .returned (.bool true) ∧ Below w.heap.size w w' := by
  obtain ⟨hs1, hs2⟩ := fewB_spec ht
  have hI1 : ¬ ((40 : Int) < len) := by omega
  have hI2 : (len : Int) ≤ 200 := by omega
  have hI3 : ¬ ((300 : Int) < len) := by omega
  have hI4 : (len : Int) ≤ 40 := by omega
  have CT := hid (fun (W : World) (h : TextsAt W a len cap ts) => by have := few_any a len cap ts 2000 W h hreach; rw [ht] at this; exact this)
  have hw1 : ¬ ((i : Int) < 0) := by omega
  have hw2 : ¬ ((len : Int) ≤ (i : Int)) := by omega
  have CW := hid (fun (W : World) (h : TextsAt W a len cap ts) (t : ShaTab W) => loWay_good a len cap ts i W h (by omega) hi (by omega) t)
  have CRW := hid (fun (W : World) (h : TextsAt W a len cap ts) => refway19_any len a len cap ts i W h hi (Nat.le_refl _) (by omega) (by omega) (by omega))
  generalize pathL len ts i = WL at *
  have CR := hid (fun (W : World) (h : TextsAt W a len cap ts) (t : ShaTab W) => loRoot_good a len cap ts W h (by omega) (by omega) t)
  have CRR := hid (fun (W : World) (h : TextsAt W a len cap ts) => refroot_any len a len cap ts W h (Nat.le_refl _) (by omega) (by omega))
  have HX := hid (Dg.rootL len ts)
  generalize rootL len ts = X at *
  have Htab := hid tab
  have Hb := hid (Below.refl w.heap.size w)
  clear tab
  go_enter Tryd.func9, Tryd.ntmps9
  go_wp2_with fail
  refine (CT.out _ hT).mono ?_
  rintro e w50 ⟨rfl, rfl⟩
  go_wp2_with fail
  refine (CR.out _ hT Htab.out).mono ?_
  rintro e w1 ⟨rfl, bw1⟩
  have HBw1 := hid (Below.on Hb.out bw1)
  have hsw1 := HBw1.out.size
  clear bw1
  go_wp2_with (
        refine wpList_store_blk rfl 23 _ _ rfl (w1.heap.size) (X.map (Value.int .u8)).toArray rfl rfl _ 23 (Blk.new rfl (byteCells 32 []) _) 32 size_digest zsize HX.out.size (ints_one _ _) ?_
        intro w2 hbw2 hkw2
        have hw2 := hbw2.below ((Below.refl w1.heap.size w1).alloc (Nat.le_refl _) _) (by simp only [World.size_alloc]; omega) (Nat.le_refl _)
        have HBw2 := hid (Below.on HBw1.out hw2)
        have hsw2 := HBw2.out.size
        have Kxw2 := hid hkw2
        have hfw2 : w.heap.size ≤ w1.heap.size := HBw1.out.size
        clear hbw2 hkw2 hw2)
  refine (CW.out _ (hT.below HBw2.out) (Htab.out.below HBw2.out)).mono ?_
  rintro e w3 ⟨_, rfl, bw3, ow3⟩
  obtain ⟨ya, yc, rfl, dw3, _⟩ := ow3.digs
  have HYw3 := hid dw3
  have HBw3 := hid (Below.on HBw2.out bw3)
  have hsw3 := HBw3.out.size
  have Kxw3 := hid (Kxw2.out.below bw3)
  clear bw3 ow3 dw3
  go_wp2_with fail
  refine (loFrom_high a len cap m _ (by omega) (by omega) hm).mono ?_
  rintro e w4 ⟨rfl, bw4⟩
  have HBw4 := hid (Below.on HBw3.out bw4)
  have hsw4 := HBw4.out.size
  have Kxw4 := hid (Kxw3.out.below bw4)
  have HYw4 := hid (HYw3.out.below bw4)
  clear bw4
  go_wp2_with fail
  refine wp_region_flow 8 (List.range 8) [] [] (by kernel_rfl) (by kernel_rfl) ?_
  apply Exists.intro
  refine ⟨fun w0 hb0 hF0 => ?_, ?_⟩
  · skip
    have x0 : ∀ w', (∃ x : Ext w0, w' = x.at_) → ∃ T, Blk w' (w1.heap.size) (X.map (Value.int .u8)).toArray T := fun w' ⟨x, hx⟩ => ⟨_, hx ▸ (Kxw4.out.below hb0).below x.same⟩
    have c0 := fun e : Ext w0 => CRR.out e.at_ (((hT.below HBw4.out).below hb0).below e.same)
    have qx := fun W => neD_self X HX.out.len W
    simp only [pick, List.range, List.range.loop, List.getElem?_toArray, List.getElem?_cons_succ, List.getElem?_cons_zero, Option.toList_some, List.cons_append, List.nil_append]
    repeat (first | (go_big_quiet_want; refine quiet_load_blk 23 _ rfl (w1.heap.size) rfl _ x0 _ Tryd.underlying23 rfl 32 size_digest HX.out.size ?_; go_big_quiet_on; simp only [Act.put, List.setIfInBounds_toArray, List.set_cons_zero, List.set_cons_succ]) | (go_big_quiet_want; refine quiet_cmp _ _ rfl _ _ _ rfl rfl qx ?_; go_big_quiet_on; simp only [Act.put, List.setIfInBounds_toArray, List.set_cons_zero, List.set_cons_succ]) | go_big_quiet_step (first | (go_at_call 39; with_reducible exact Calls.ext (c0 _))))
    exact wpQuiet_nil rfl
  refine AlChk.nil ?_
  refine Walk.fin fun w5 hw5 _ _ => ?_
  simp only [List.drop_succ_cons, List.drop_zero]
  have HBw5 := hid (Below.on HBw4.out hw5)
  have hsw5 := HBw5.out.size
  have Kxw5 := hid (Kxw4.out.below hw5)
  have HYw5 := hid (HYw4.out.below hw5)
  clear hw5
  go_wp2_with fail
  refine (CRW.out _ (hT.below HBw5.out)).mono ?_
  rintro e w6 ⟨_, rfl, bw6, ow6⟩
  obtain ⟨ua, uc, rfl, dw6, _⟩ := ow6.digs
  have HUw6 := hid dw6
  have HBw6 := hid (Below.on HBw5.out bw6)
  have hsw6 := HBw6.out.size
  have Kxw6 := hid (Kxw5.out.below bw6)
  have HYw6 := hid (HYw5.out.below bw6)
  clear bw6 ow6 dw6
  go_wp2_with fail
  refine (same_any ya ua WL.length yc uc WL _ HYw6.out HUw6.out).mono ?_
  rintro e w7 ⟨rfl, bw7⟩
  have HBw7 := hid (Below.on HBw6.out bw7)
  have hsw7 := HBw7.out.size
  have Kxw7 := hid (Kxw6.out.below bw7)
  have HYw7 := hid (HYw6.out.below bw7)
  have HUw7 := hid (HUw6.out.below bw7)
  clear bw7
  go_wp2_with fail
  refine (knows19 _ (Htab.out.below HBw7.out)).mono ?_
  rintro e w8 ⟨rfl, bw8⟩
  have HBw8 := hid (Below.on HBw7.out bw8)
  have hsw8 := HBw8.out.size
  have Kxw8 := hid (Kxw7.out.below bw8)
  clear bw8
  go_wp2_with fail
  go_returns
  exact ⟨rfl, HBw8.out⟩

set_option maxHeartbeats 4000000 in
set_option maxRecDepth 100000 in
theorem logRoots_good_good (a : Option Addr) (len cap : Nat) (i : Nat) (m : Nat) (w : World) (ts : List (List Int)) (hT : TextsAt w a len cap ts) (hreach : ∀ t ∈ ts, t.length ≤ 140737488351232) (h1 : len ≤ 40) (ht : fewB ts 2000 = true) (hi : i < len) (hm1 : 1 ≤ m) (hm : m ≤ len) (tab : ShaTab w) :
    Calls Tryd.prog 9 #[.slice a len cap, .int .i64 i, .int .i64 m] w fun e w' => e = .returned (.bool true) ∧ Below w.heap.size w w' := by
  obtain ⟨hs1, hs2⟩ := fewB_spec ht
  have hI1 : ¬ ((40 : Int) < len) := by omega
  have hI2 : (len : Int) ≤ 200 := by omega
  have hI3 : ¬ ((300 : Int) < len) := by omega
  have hI4 : (len : Int) ≤ 40 := by omega
  have CT := hid (fun (W : World) (h : TextsAt W a len cap ts) => by have := few_any a len cap ts 2000 W h hreach; rw [ht] at this; exact this)
  have hw1 : ¬ ((i : Int) < 0) := by omega
  have hw2 : ¬ ((len : Int) ≤ (i : Int)) := by omega
  have CW := hid (fun (W : World) (h : TextsAt W a len cap ts) (t : ShaTab W) => loWay_good a len cap ts i W h (by omega) hi (by omega) t)
  have CRW := hid (fun (W : World) (h : TextsAt W a len cap ts) => refway19_any len a len cap ts i W h hi (Nat.le_refl _) (by omega) (by omega) (by omega))
  generalize pathL len ts i = WL at *
  have hf1 : ¬ ((m : Int) < 1) := by omega
  have hf2 : ¬ ((len : Int) < (m : Int)) := by omega
  have CF := hid (fun (W : World) (h : TextsAt W a len cap ts) (t : ShaTab W) => loFrom_good a len cap ts m W h (by omega) hm1 hm (by omega) t)
  have CRF := hid (fun (W : World) (h : TextsAt W a len cap ts) => reffrom19_any len a len cap ts m false W h hm1 hm (Nat.le_refl _) (by omega) (by omega) (by omega))
  generalize growL len ts m false = FL at *
  have CR := hid (fun (W : World) (h : TextsAt W a len cap ts) (t : ShaTab W) => loRoot_good a len cap ts W h (by omega) (by omega) t)
  have CRR := hid (fun (W : World) (h : TextsAt W a len cap ts) => refroot_any len a len cap ts W h (Nat.le_refl _) (by omega) (by omega))
  have HX := hid (Dg.rootL len ts)
  generalize rootL len ts = X at *
  have Htab := hid tab
  have Hb := hid (Below.refl w.heap.size w)
  clear tab
  go_enter Tryd.func9, Tryd.ntmps9
  go_wp2_with fail
  refine (CT.out _ hT).mono ?_
  rintro e w50 ⟨rfl, rfl⟩
  go_wp2_with fail
  refine (CR.out _ hT Htab.out).mono ?_
  rintro e w1 ⟨rfl, bw1⟩
  have HBw1 := hid (Below.on Hb.out bw1)
  have hsw1 := HBw1.out.size
  clear bw1
  go_wp2_with (
        refine wpList_store_blk rfl 23 _ _ rfl (w1.heap.size) (X.map (Value.int .u8)).toArray rfl rfl _ 23 (Blk.new rfl (byteCells 32 []) _) 32 size_digest zsize HX.out.size (ints_one _ _) ?_
        intro w2 hbw2 hkw2
        have hw2 := hbw2.below ((Below.refl w1.heap.size w1).alloc (Nat.le_refl _) _) (by simp only [World.size_alloc]; omega) (Nat.le_refl _)
        have HBw2 := hid (Below.on HBw1.out hw2)
        have hsw2 := HBw2.out.size
        have Kxw2 := hid hkw2
        have hfw2 : w.heap.size ≤ w1.heap.size := HBw1.out.size
        clear hbw2 hkw2 hw2)
  refine (CW.out _ (hT.below HBw2.out) (Htab.out.below HBw2.out)).mono ?_
  rintro e w3 ⟨_, rfl, bw3, ow3⟩
  obtain ⟨ya, yc, rfl, dw3, _⟩ := ow3.digs
  have HYw3 := hid dw3
  have HBw3 := hid (Below.on HBw2.out bw3)
  have hsw3 := HBw3.out.size
  have Kxw3 := hid (Kxw2.out.below bw3)
  clear bw3 ow3 dw3
  go_wp2_with fail
  refine (CF.out _ (hT.below HBw3.out) (Htab.out.below HBw3.out)).mono ?_
  rintro e w4 ⟨_, rfl, bw4, ow4⟩
  obtain ⟨za, zc, rfl, dw4, _⟩ := ow4.digs
  have HZw4 := hid dw4
  have HBw4 := hid (Below.on HBw3.out bw4)
  have hsw4 := HBw4.out.size
  have Kxw4 := hid (Kxw3.out.below bw4)
  have HYw4 := hid (HYw3.out.below bw4)
  clear bw4 ow4 dw4
  go_wp2_with fail
  refine wp_region_flow 8 (List.range 8) [] [] (by kernel_rfl) (by kernel_rfl) ?_
  apply Exists.intro
  refine ⟨fun w0 hb0 hF0 => ?_, ?_⟩
  · skip
    have x0 : ∀ w', (∃ x : Ext w0, w' = x.at_) → ∃ T, Blk w' (w1.heap.size) (X.map (Value.int .u8)).toArray T := fun w' ⟨x, hx⟩ => ⟨_, hx ▸ (Kxw4.out.below hb0).below x.same⟩
    have c0 := fun e : Ext w0 => CRR.out e.at_ (((hT.below HBw4.out).below hb0).below e.same)
    have qx := fun W => neD_self X HX.out.len W
    simp only [pick, List.range, List.range.loop, List.getElem?_toArray, List.getElem?_cons_succ, List.getElem?_cons_zero, Option.toList_some, List.cons_append, List.nil_append]
    repeat (first | (go_big_quiet_want; refine quiet_load_blk 23 _ rfl (w1.heap.size) rfl _ x0 _ Tryd.underlying23 rfl 32 size_digest HX.out.size ?_; go_big_quiet_on; simp only [Act.put, List.setIfInBounds_toArray, List.set_cons_zero, List.set_cons_succ]) | (go_big_quiet_want; refine quiet_cmp _ _ rfl _ _ _ rfl rfl qx ?_; go_big_quiet_on; simp only [Act.put, List.setIfInBounds_toArray, List.set_cons_zero, List.set_cons_succ]) | go_big_quiet_step (first | (go_at_call 39; with_reducible exact Calls.ext (c0 _))))
    exact wpQuiet_nil rfl
  refine AlChk.nil ?_
  refine Walk.fin fun w5 hw5 _ _ => ?_
  simp only [List.drop_succ_cons, List.drop_zero]
  have HBw5 := hid (Below.on HBw4.out hw5)
  have hsw5 := HBw5.out.size
  have Kxw5 := hid (Kxw4.out.below hw5)
  have HZw5 := hid (HZw4.out.below hw5)
  have HYw5 := hid (HYw4.out.below hw5)
  clear hw5
  go_wp2_with fail
  refine (CRW.out _ (hT.below HBw5.out)).mono ?_
  rintro e w6 ⟨_, rfl, bw6, ow6⟩
  obtain ⟨ua, uc, rfl, dw6, _⟩ := ow6.digs
  have HUw6 := hid dw6
  have HBw6 := hid (Below.on HBw5.out bw6)
  have hsw6 := HBw6.out.size
  have Kxw6 := hid (Kxw5.out.below bw6)
  have HYw6 := hid (HYw5.out.below bw6)
  have HZw6 := hid (HZw5.out.below bw6)
  clear bw6 ow6 dw6
  go_wp2_with fail
  refine (same_any ya ua WL.length yc uc WL _ HYw6.out HUw6.out).mono ?_
  rintro e w7 ⟨rfl, bw7⟩
  have HBw7 := hid (Below.on HBw6.out bw7)
  have hsw7 := HBw7.out.size
  have Kxw7 := hid (Kxw6.out.below bw7)
  have HYw7 := hid (HYw6.out.below bw7)
  have HZw7 := hid (HZw6.out.below bw7)
  have HUw7 := hid (HUw6.out.below bw7)
  clear bw7
  go_wp2_with fail
  refine (CRF.out _ (hT.below HBw7.out)).mono ?_
  rintro e w8 ⟨_, rfl, bw8, ow8⟩
  obtain ⟨va, vc, rfl, dw8, _⟩ := ow8.digs
  have HVw8 := hid dw8
  have HBw8 := hid (Below.on HBw7.out bw8)
  have hsw8 := HBw8.out.size
  have Kxw8 := hid (Kxw7.out.below bw8)
  have HYw8 := hid (HYw7.out.below bw8)
  have HZw8 := hid (HZw7.out.below bw8)
  clear bw8 ow8 dw8
  go_wp2_with fail
  refine (same_any za va FL.length zc vc FL _ HZw8.out HVw8.out).mono ?_
  rintro e w9 ⟨rfl, bw9⟩
  have HBw9 := hid (Below.on HBw8.out bw9)
  have hsw9 := HBw9.out.size
  have Kxw9 := hid (Kxw8.out.below bw9)
  have HYw9 := hid (HYw8.out.below bw9)
  have HZw9 := hid (HZw8.out.below bw9)
  have HVw9 := hid (HVw8.out.below bw9)
  clear bw9
  go_wp2_with fail
  refine (knows19 _ (Htab.out.below HBw9.out)).mono ?_
  rintro e w10 ⟨rfl, bw10⟩
  have HBw10 := hid (Below.on HBw9.out bw10)
  have hsw10 := HBw10.out.size
  have Kxw10 := hid (Kxw9.out.below bw10)
  clear bw10
  go_wp2_with fail
  go_returns
  exact ⟨rfl, HBw10.out⟩
end Go.Proofs.YthaicocfbmpnmaaDoor
