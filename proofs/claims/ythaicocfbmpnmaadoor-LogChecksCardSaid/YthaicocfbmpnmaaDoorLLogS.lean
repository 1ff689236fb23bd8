/-
  Layer 19: LogChecks.
-/
import Derived.Test.YthaicocfbmpnmaaDoorLLogR
import Derived.Test.YthaicocfbmpnmaaDoorLLogF
namespace Go.Proofs.YthaicocfbmpnmaaDoor
open Go.ChangeShapes Go.WideShapes Go.ChangeAt Go.RowKit

theorem holds_two (A : List Int) (m n : Int) (ta : Option Addr) (tn tc : Nat) (t : List Int) (ya : Option Addr) (yn yc : Nat) (ds : List (List Int)) (hA : Dg A) (htn : tn ≤ 1000) (hyn : yn ≤ 40) (hlen : ds.length = yn) : ∃ H : Bool, (∀ W : World, DigsAt W ya yn yc ds → TextAt W ta tn tc t → ShaTab W → Calls Tryd.prog 42 #[.agg (A.map (Value.int .u8)).toArray, .int .i64 n, .int .i64 m, .slice ta tn tc, .slice ya yn yc] W fun e w' => e = .returned (.bool H) ∧ Below W.heap.size W w') ∧ (∀ W : World, DigsAt W ya yn yc ds → TextAt W ta tn tc t → ShaTab W → Calls Tryd.prog 43 #[.agg (A.map (Value.int .u8)).toArray, .int .i64 n, .int .i64 m, .slice ta tn tc, .slice ya yn yc] W fun e w' => e = .returned (.bool H) ∧ Below W.heap.size W w') := by
  by_cases h : n < 1 ∨ 200 < n ∨ m < 0 ∨ n ≤ m
  · exact ⟨false, fun W _ _ _ => holds_bad A n m ta tn tc ya yn yc W hA h, fun W _ _ _ => refholds_bad A n m ta tn tc ya yn yc W hA h⟩
  · obtain ⟨n, rfl⟩ := Int.eq_ofNat_of_zero_le (show 0 ≤ n by omega)
    obtain ⟨m, rfl⟩ := Int.eq_ofNat_of_zero_le (show 0 ≤ m by omega)
    have hs := holds_same (leafL t) A n m ds yn (by omega) (by omega) hlen
    refine ⟨_, fun W hd ht tb => holds_good A n m ta tn tc t ya yn yc ds W hA (by omega) (by omega) (by omega) ht hd (by omega) (by omega) tb, fun W hd ht _ => ?_⟩
    rw [← hs]
    exact refholds_good A n m ta tn tc t ya yn yc ds W hA (by omega) (by omega) (by omega) ht hd (by omega) (by omega)

theorem grows_two (A B : List Int) (m n : Int) (ya : Option Addr) (yn yc : Nat) (ds : List (List Int)) (hA : Dg A) (hB : Dg B) (hyn : yn ≤ 40) (hlen : ds.length = yn) : ∃ H : Bool, (∀ W : World, DigsAt W ya yn yc ds → ShaTab W → Calls Tryd.prog 44 #[.agg (A.map (Value.int .u8)).toArray, .int .i64 m, .agg (B.map (Value.int .u8)).toArray, .int .i64 n, .slice ya yn yc] W fun e w' => e = .returned (.bool H) ∧ Below W.heap.size W w') ∧ (∀ W : World, DigsAt W ya yn yc ds → ShaTab W → Calls Tryd.prog 45 #[.agg (A.map (Value.int .u8)).toArray, .int .i64 m, .agg (B.map (Value.int .u8)).toArray, .int .i64 n, .slice ya yn yc] W fun e w' => e = .returned (.bool H) ∧ Below W.heap.size W w') := by
  by_cases h : m < 1 ∨ n < m ∨ 200 < n
  · exact ⟨false, fun W _ _ => grows_bad A B m n ya yn yc W hA hB h, fun W _ _ => refgrows_bad A B m n ya yn yc W hA hB h⟩
  · obtain ⟨n, rfl⟩ := Int.eq_ofNat_of_zero_le (show 0 ≤ n by omega)
    obtain ⟨m, rfl⟩ := Int.eq_ofNat_of_zero_le (show 0 ≤ m by omega)
    have hs := grows_same A B m n ds yn (by omega) (by omega) hlen
    refine ⟨_, fun W hd tb => grows_good A B m n ya yn yc ds W hA hB (by omega) (by omega) (by omega) hd (by omega) tb, fun W hd _ => ?_⟩
    rw [← hs]
    exact refgrows_good A B m n ya yn yc ds W hA hB (by omega) (by omega) (by omega) hd (by omega)

set_option maxHeartbeats 4000000 in
set_option maxRecDepth 100000 in
theorem logChecks_text (A B : List Int) (m n : Int) (ta : Option Addr) (tn tc : Nat) (ya : Option Addr) (yn yc : Nat) (w : World) (_hA : Dg A) (_hB : Dg B) (h : 1000 < tn) (tab : ShaTab w) :
    Calls Tryd.prog 10 #[.agg (A.map (Value.int .u8)).toArray, .agg (B.map (Value.int .u8)).toArray, .int .i64 m, .int .i64 n, .slice ta tn tc, .slice ya yn yc] w fun e w' => e = .returned (.bool true) ∧ Below w.heap.size w w' := by
  have hI1 : (1000 : Int) < tn := by omega
  have b1 := (Below.refl w.heap.size w).alloc (Nat.le_refl _) (.cells (A.map (Value.int .u8)).toArray 23 (0, 0))
  have b2 := b1.alloc b1.size (.cells (B.map (Value.int .u8)).toArray 23 (0, 0))
  have Ka := hid ((Blk.new (w := w) (n := w.heap.size) rfl (A.map (Value.int .u8)).toArray 23).old (.cells (B.map (Value.int .u8)).toArray 23 (0, 0)))
  have Kb := hid (Blk.new (w := (w.alloc (.cells (A.map (Value.int .u8)).toArray 23 (0, 0)))) (n := w.heap.size + 1) (by simp only [World.size_alloc]) (B.map (Value.int .u8)).toArray 23)
  have Hb := hid b2
  have hbz := b2.size
  have Hbs := hid (show w.heap.size + 1 + 1 = ((w.alloc (.cells (A.map (Value.int .u8)).toArray 23 (0, 0))).alloc (.cells (B.map (Value.int .u8)).toArray 23 (0, 0))).heap.size by simp only [World.size_alloc])
  have Htab := hid tab
  clear b1 b2 tab 
  go_enter Tryd.func10, Tryd.ntmps10
  go_wp2_with fail
  refine (knows19 _ (Htab.out.below Hb.out)).mono ?_
  rintro e w1 ⟨rfl, bw1⟩
  have HBw1 := hid (Below.on Hb.out bw1)
  have hsw1 := HBw1.out.size
  have Kaw1 := hid (Ka.out.below bw1)
  have Kbw1 := hid (Kb.out.below bw1)
  clear bw1
  go_wp2_with fail
  go_returns
  exact ⟨rfl, HBw1.out⟩

set_option maxHeartbeats 4000000 in
set_option maxRecDepth 100000 in
theorem logChecks_way (A B : List Int) (m n : Int) (ta : Option Addr) (tn tc : Nat) (ya : Option Addr) (yn yc : Nat) (w : World) (_hA : Dg A) (_hB : Dg B) (h1 : tn ≤ 1000) (h : 40 < yn) (tab : ShaTab w) :
    Calls Tryd.prog 10 #[.agg (A.map (Value.int .u8)).toArray, .agg (B.map (Value.int .u8)).toArray, .int .i64 m, .int .i64 n, .slice ta tn tc, .slice ya yn yc] w fun e w' => e = .returned (.bool true) ∧ Below w.heap.size w w' := by
  have hI1 : ¬ ((1000 : Int) < tn) := by omega
  have hI2 : (40 : Int) < yn := by omega
  have b1 := (Below.refl w.heap.size w).alloc (Nat.le_refl _) (.cells (A.map (Value.int .u8)).toArray 23 (0, 0))
  have b2 := b1.alloc b1.size (.cells (B.map (Value.int .u8)).toArray 23 (0, 0))
  have Ka := hid ((Blk.new (w := w) (n := w.heap.size) rfl (A.map (Value.int .u8)).toArray 23).old (.cells (B.map (Value.int .u8)).toArray 23 (0, 0)))
  have Kb := hid (Blk.new (w := (w.alloc (.cells (A.map (Value.int .u8)).toArray 23 (0, 0)))) (n := w.heap.size + 1) (by simp only [World.size_alloc]) (B.map (Value.int .u8)).toArray 23)
  have Hb := hid b2
  have hbz := b2.size
  have Hbs := hid (show w.heap.size + 1 + 1 = ((w.alloc (.cells (A.map (Value.int .u8)).toArray 23 (0, 0))).alloc (.cells (B.map (Value.int .u8)).toArray 23 (0, 0))).heap.size by simp only [World.size_alloc])
  have Htab := hid tab
  clear b1 b2 tab 
  go_enter Tryd.func10, Tryd.ntmps10
  go_wp2_with fail
  refine (knows19 _ (Htab.out.below Hb.out)).mono ?_
  rintro e w1 ⟨rfl, bw1⟩
  have HBw1 := hid (Below.on Hb.out bw1)
  have hsw1 := HBw1.out.size
  have Kaw1 := hid (Ka.out.below bw1)
  have Kbw1 := hid (Kb.out.below bw1)
  clear bw1
  go_wp2_with fail
  go_returns
  exact ⟨rfl, HBw1.out⟩

set_option maxHeartbeats 4000000 in
set_option maxRecDepth 100000 in
theorem logChecks_good (A B : List Int) (m n : Int) (ta : Option Addr) (tn tc : Nat) (ya : Option Addr) (yn yc : Nat) (w : World) (hA : Dg A) (hB : Dg B) (t : List Int) (ds : List (List Int)) (hT : TextAt w ta tn tc t) (hD : DigsAt w ya yn yc ds) (h1 : tn ≤ 1000) (h2 : yn ≤ 40) (tab : ShaTab w) :
    Calls Tryd.prog 10 #[.agg (A.map (Value.int .u8)).toArray, .agg (B.map (Value.int .u8)).toArray, .int .i64 m, .int .i64 n, .slice ta tn tc, .slice ya yn yc] w fun e w' => e = .returned (.bool true) ∧ Below w.heap.size w w' := by
  have hI1 : ¬ ((1000 : Int) < tn) := by omega
  have hI2 : ¬ ((40 : Int) < yn) := by omega
  have hlen := hD.length
  obtain ⟨Hv, c1, c2⟩ := holds_two A m n ta tn tc t ya yn yc ds hA h1 h2 hlen
  obtain ⟨Gv, c3, c4⟩ := grows_two A B m n ya yn yc ds hA hB h2 hlen
  have CH := hid c1
  have CI := hid c2
  have CG := hid c3
  have CJ := hid c4
  have HT := hid hT
  have HD := hid hD
  clear c1 c2 c3 c4 hT hD
  have b1 := (Below.refl w.heap.size w).alloc (Nat.le_refl _) (.cells (A.map (Value.int .u8)).toArray 23 (0, 0))
  have b2 := b1.alloc b1.size (.cells (B.map (Value.int .u8)).toArray 23 (0, 0))
  have Ka := hid ((Blk.new (w := w) (n := w.heap.size) rfl (A.map (Value.int .u8)).toArray 23).old (.cells (B.map (Value.int .u8)).toArray 23 (0, 0)))
  have Kb := hid (Blk.new (w := (w.alloc (.cells (A.map (Value.int .u8)).toArray 23 (0, 0)))) (n := w.heap.size + 1) (by simp only [World.size_alloc]) (B.map (Value.int .u8)).toArray 23)
  have Hb := hid b2
  have hbz := b2.size
  have Hbs := hid (show w.heap.size + 1 + 1 = ((w.alloc (.cells (A.map (Value.int .u8)).toArray 23 (0, 0))).alloc (.cells (B.map (Value.int .u8)).toArray 23 (0, 0))).heap.size by simp only [World.size_alloc])
  have Htab := hid tab
  clear b1 b2 tab 
  go_enter Tryd.func10, Tryd.ntmps10
  go_wp2_with fail
  cases Hv <;> cases Gv
  all_goals
    refine wp_region_flow 31 (List.range 31) [] [] (by kernel_rfl) (by kernel_rfl) ?_
    apply Exists.intro
    refine ⟨fun w0 hb0 hF0 => ?_, ?_⟩
    · skip
      have x0 : ∀ w', (∃ x : Ext w0, w' = x.at_) → ∃ T, Blk w' (w.heap.size) (A.map (Value.int .u8)).toArray T := fun w' ⟨x, hx⟩ => ⟨_, hx ▸ (Ka.out.below hb0).below x.same⟩
      have x1 : ∀ w', (∃ x : Ext w0, w' = x.at_) → ∃ T, Blk w' (w.heap.size + 1) (B.map (Value.int .u8)).toArray T := fun w' ⟨x, hx⟩ => ⟨_, hx ▸ (Kb.out.below hb0).below x.same⟩
      have c0 := fun e : Ext w0 => CH.out e.at_ (HD.out.below (Below.on (Below.on Hb.out hb0) e.same)) (HT.out.below (Below.on (Below.on Hb.out hb0) e.same)) (Htab.out.below (Below.on (Below.on Hb.out hb0) e.same))
      have c1 := fun e : Ext w0 => CI.out e.at_ (HD.out.below (Below.on (Below.on Hb.out hb0) e.same)) (HT.out.below (Below.on (Below.on Hb.out hb0) e.same)) (Htab.out.below (Below.on (Below.on Hb.out hb0) e.same))
      have c2 := fun e : Ext w0 => CG.out e.at_ (HD.out.below (Below.on (Below.on Hb.out hb0) e.same)) (Htab.out.below (Below.on (Below.on Hb.out hb0) e.same))
      have c3 := fun e : Ext w0 => CJ.out e.at_ (HD.out.below (Below.on (Below.on Hb.out hb0) e.same)) (Htab.out.below (Below.on (Below.on Hb.out hb0) e.same))
      have c4 := fun e : Ext w0 => knows19 e.at_ (Htab.out.below (Below.on (Below.on Hb.out hb0) e.same))
      simp only [pick, List.range, List.range.loop, List.getElem?_toArray, List.getElem?_cons_succ, List.getElem?_cons_zero, Option.toList_some, List.cons_append, List.nil_append]
      repeat (first | (go_big_quiet_want; refine quiet_load_blk 23 _ rfl (w.heap.size) rfl _ x0 _ Tryd.underlying23 rfl 32 size_digest hA.size ?_; go_big_quiet_on; simp only [Act.put, List.setIfInBounds_toArray, List.set_cons_zero, List.set_cons_succ]) | (go_big_quiet_want; refine quiet_load_blk 23 _ rfl (w.heap.size + 1) rfl _ x1 _ Tryd.underlying23 rfl 32 size_digest hB.size ?_; go_big_quiet_on; simp only [Act.put, List.setIfInBounds_toArray, List.set_cons_zero, List.set_cons_succ]) | go_big_quiet_step (first | (go_at_call 42; with_reducible exact Calls.ext (c0 _)) | (go_at_call 43; with_reducible exact Calls.ext (c1 _)) | (go_at_call 44; with_reducible exact Calls.ext (c2 _)) | (go_at_call 45; with_reducible exact Calls.ext (c3 _)) | (go_at_call 35; with_reducible exact Calls.ext (c4 _))))
      exact wpQuiet_nil rfl
    refine AlChk.nil ?_
    refine Walk.fin fun w1 hw1 _ _ => ?_
    simp only [List.drop_succ_cons, List.drop_zero]
    have HBw1 := hid (Below.on Hb.out hw1)
    have hsw1 := HBw1.out.size
    have Kaw1 := hid (Ka.out.below hw1)
    have Kbw1 := hid (Kb.out.below hw1)
    clear hw1
    go_wp2_with fail
    go_returns
    exact ⟨by first | rfl | simp, HBw1.out⟩
end Go.Proofs.YthaicocfbmpnmaaDoor
