/-
  Layer 10: climbing.
-/
import Derived.Test.YtjkfbeillmeomaaDoorLtreeLaws
import Derived.Test.YtjkfbeillmeomaaDoorNLate
namespace Go.Proofs.YtjkfbeillmeomaaDoor
open Go.ChangeShapes Go.WideShapes Go.ChangeAt Go.RowKit

/-- May there be so many levels, and such a leaf? -/
def rightZ (n i : Int) : Bool := decide (1 ≤ n ∧ n ≤ 4 ∧ 0 ≤ i ∧ i < 2 ^ n.toNat)

set_option maxHeartbeats 4000000 in
set_option maxRecDepth 100000 in
theorem tright_any (n i : Int) (w : World) :
    Calls Tryd.prog 87 #[.int .i64 n, .int .i64 i] w fun e w' => e = .returned (.bool (rightZ n i)) ∧ w' = w := by
  by_cases h1 : 1 ≤ n
  · by_cases h2 : n ≤ 4
    · rcases (show n = 1 ∨ n = 2 ∨ n = 3 ∨ n = 4 by omega) with rfl | rfl | rfl | rfl
      · by_cases h3 : 0 ≤ i
        · by_cases h4 : i < 2
          · have h4b : ¬ 2 ≤ i := by omega
            go_enter Tryd.func87, Tryd.ntmps87
            go_wp2
            go_returns
            exact ⟨by simp [rightZ, *] <;> omega, rfl⟩
          · have h4b : 2 ≤ i := by omega
            go_enter Tryd.func87, Tryd.ntmps87
            go_wp2
            go_returns
            exact ⟨by simp [rightZ, *] <;> omega, rfl⟩
        · have h3b : i < 0 := by omega
          go_enter Tryd.func87, Tryd.ntmps87
          go_wp2
          go_returns
          exact ⟨by simp [rightZ, *] <;> omega, rfl⟩
      · by_cases h3 : 0 ≤ i
        · by_cases h4 : i < 4
          · have h4b : ¬ 4 ≤ i := by omega
            go_enter Tryd.func87, Tryd.ntmps87
            go_wp2
            go_returns
            exact ⟨by simp [rightZ, *] <;> omega, rfl⟩
          · have h4b : 4 ≤ i := by omega
            go_enter Tryd.func87, Tryd.ntmps87
            go_wp2
            go_returns
            exact ⟨by simp [rightZ, *] <;> omega, rfl⟩
        · have h3b : i < 0 := by omega
          go_enter Tryd.func87, Tryd.ntmps87
          go_wp2
          go_returns
          exact ⟨by simp [rightZ, *] <;> omega, rfl⟩
      · by_cases h3 : 0 ≤ i
        · by_cases h4 : i < 8
          · have h4b : ¬ 8 ≤ i := by omega
            go_enter Tryd.func87, Tryd.ntmps87
            go_wp2
            go_returns
            exact ⟨by simp [rightZ, *] <;> omega, rfl⟩
          · have h4b : 8 ≤ i := by omega
            go_enter Tryd.func87, Tryd.ntmps87
            go_wp2
            go_returns
            exact ⟨by simp [rightZ, *] <;> omega, rfl⟩
        · have h3b : i < 0 := by omega
          go_enter Tryd.func87, Tryd.ntmps87
          go_wp2
          go_returns
          exact ⟨by simp [rightZ, *] <;> omega, rfl⟩
      · by_cases h3 : 0 ≤ i
        · by_cases h4 : i < 16
          · have h4b : ¬ 16 ≤ i := by omega
            go_enter Tryd.func87, Tryd.ntmps87
            go_wp2
            go_returns
            exact ⟨by simp [rightZ, *] <;> omega, rfl⟩
          · have h4b : 16 ≤ i := by omega
            go_enter Tryd.func87, Tryd.ntmps87
            go_wp2
            go_returns
            exact ⟨by simp [rightZ, *] <;> omega, rfl⟩
        · have h3b : i < 0 := by omega
          go_enter Tryd.func87, Tryd.ntmps87
          go_wp2
          go_returns
          exact ⟨by simp [rightZ, *] <;> omega, rfl⟩
    · have h2b : 4 < n := by omega
      go_enter Tryd.func87, Tryd.ntmps87
      go_wp2
      go_returns
      exact ⟨by simp [rightZ, *] <;> omega, rfl⟩
  · have h1b : n < 1 := by omega
    go_enter Tryd.func87, Tryd.ntmps87
    go_wp2
    go_returns
    exact ⟨by simp [rightZ, *] <;> omega, rfl⟩
set_option maxHeartbeats 4000000 in
set_option maxRecDepth 100000 in
theorem may_any (n i : Int) (w : World) :
    Calls Tryd.prog 33 #[.int .i64 n, .int .i64 i] w fun e w' => e = .returned (.bool (rightZ n i)) ∧ w' = w := by
  go_enter Tryd.func33, Tryd.ntmps33
  go_wp2
  go_loopw [5, 6] (fun v c wr => wr = w ∧ ∃ k : Nat, 1 ≤ k ∧ k ≤ 5 ∧ ((k : Int) ≤ 1 ∨ (k : Int) ≤ n) ∧ v = .int .i64 (2 ^ k : Int) ∧ c = .int .i64 k) (fun _ c _ => 5 - (intOf c).toNat)
  case atStart => exact ⟨rfl, 1, Nat.le_refl _, by omega, .inl (by omega), rfl, rfl⟩
  case round =>
    obtain ⟨rfl, k, h1, h5, hk, rfl, rfl⟩ := hrel
    rcases (show k = 1 ∨ k = 2 ∨ k = 3 ∨ k = 4 ∨ k = 5 by omega) with rfl | rfl | rfl | rfl | rfl
    · by_cases hlt : (1 : Int) < n
      · go_wp2
        refine ⟨⟨by trivial, 2, by omega, by omega, .inr (by omega), rfl, rfl⟩, by simp [intOf]⟩
      · by_cases hn : 1 ≤ n
        · obtain rfl : n = 1 := by omega
          by_cases h3 : 0 ≤ i
          · by_cases h4 : i < 2
            · go_wp2
              go_returns
              exact ⟨by simp [rightZ, *] <;> omega, rfl⟩
            · go_wp2
              go_returns
              exact ⟨by simp [rightZ, *] <;> omega, rfl⟩
          · go_wp2
            go_returns
            exact ⟨by simp [rightZ, *] <;> omega, rfl⟩
        · go_wp2
          go_returns
          exact ⟨by simp [rightZ, *] <;> omega, rfl⟩
    · by_cases hlt : (2 : Int) < n
      · go_wp2
        refine ⟨⟨by trivial, 3, by omega, by omega, .inr (by omega), rfl, rfl⟩, by simp [intOf]⟩
      · obtain rfl : n = 2 := by omega
        by_cases h3 : 0 ≤ i
        · by_cases h4 : i < 4
          · go_wp2
            go_returns
            exact ⟨by simp [rightZ, *] <;> omega, rfl⟩
          · go_wp2
            go_returns
            exact ⟨by simp [rightZ, *] <;> omega, rfl⟩
        · go_wp2
          go_returns
          exact ⟨by simp [rightZ, *] <;> omega, rfl⟩
    · by_cases hlt : (3 : Int) < n
      · go_wp2
        refine ⟨⟨by trivial, 4, by omega, by omega, .inr (by omega), rfl, rfl⟩, by simp [intOf]⟩
      · obtain rfl : n = 3 := by omega
        by_cases h3 : 0 ≤ i
        · by_cases h4 : i < 8
          · go_wp2
            go_returns
            exact ⟨by simp [rightZ, *] <;> omega, rfl⟩
          · go_wp2
            go_returns
            exact ⟨by simp [rightZ, *] <;> omega, rfl⟩
        · go_wp2
          go_returns
          exact ⟨by simp [rightZ, *] <;> omega, rfl⟩
    · by_cases hlt : (4 : Int) < n
      · go_wp2
        refine ⟨⟨by trivial, 5, by omega, by omega, .inr (by omega), rfl, rfl⟩, by simp [intOf]⟩
      · obtain rfl : n = 4 := by omega
        by_cases h3 : 0 ≤ i
        · by_cases h4 : i < 16
          · go_wp2
            go_returns
            exact ⟨by simp [rightZ, *] <;> omega, rfl⟩
          · go_wp2
            go_returns
            exact ⟨by simp [rightZ, *] <;> omega, rfl⟩
        · go_wp2
          go_returns
          exact ⟨by simp [rightZ, *] <;> omega, rfl⟩
    · by_cases hlt : (5 : Int) < n
      · go_wp2
        go_returns
        exact ⟨by simp [rightZ] <;> omega, rfl⟩
      · obtain rfl : n = 5 := by omega
        go_wp2
        go_returns
        exact ⟨by simp [rightZ], rfl⟩


/-- A tree's address. -/
def treeZ (la tr : Int) : List Int := [la, tr / 4294967296, tr % 4294967296, 2, 0, 0, 0, 0]
theorem Aw.tree {la tr : Int} (hl : 0 ≤ la ∧ la < 4294967296) (ht : 0 ≤ tr ∧ tr < 18446744073709551616) : Aw (treeZ la tr) := ⟨rfl, fun x hx => by
  simp only [treeZ, List.mem_cons, List.not_mem_nil, or_false] at hx
  omega⟩
theorem tree_list (la tr : Int) (w : World) (h0 : 0 ≤ tr) (h1 : tr < 18446744073709551616) :
    Calls Tryd.prog 88 #[.int .u32 la, .int .u64 tr] w fun e w' => e = .returned (.agg ((treeZ la tr).map (Value.int .u32)).toArray) ∧ Below w.heap.size w w' := tree_any la tr w h0 h1

set_option maxHeartbeats 4000000 in
set_option maxRecDepth 100000 in
theorem tjoin_any (da db pub ad : List Int) (lev num : Int) (w : World) (hda : Dg da) (hdb : Dg db) (hpub : Dg pub) (had : Aw ad) (hl : 0 ≤ lev ∧ lev < 4294967296) (hn : 0 ≤ num ∧ num < 4294967296) (tab : ShaTab w) :
    Calls Tryd.prog 96 #[(.agg (da.map (Value.int .u8)).toArray), (.agg (db.map (Value.int .u8)).toArray), (.agg (pub.map (Value.int .u8)).toArray), (.agg (ad.map (Value.int .u32)).toArray), .int .i64 lev, .int .i64 num] w fun e w' => e = .returned (.agg ((joinZ da db pub (setAd ad lev num 0)).map (Value.int .u8)).toArray) ∧ Below w.heap.size w w' := by
  have HJ := hid (Dg.join da db pub (setAd ad lev num 0))
  have HA := hid (had.set (f := lev) (s := num) (p := 0) hl hn (by omega))
  have J1 := hid (fun (W : World) (t : ShaTab W) => ljoin_any da db pub (setAd ad lev num 0) W hda hdb hpub HA.out t)
  generalize (joinZ da db pub (setAd ad lev num 0)) = J at *
  have b1 := (Below.refl w.heap.size w).alloc (Nat.le_refl _) (.cells (da.map (Value.int .u8)).toArray 23 (0, 0))
  have b2 := b1.alloc b1.size (.cells (db.map (Value.int .u8)).toArray 23 (0, 0))
  have b3 := b2.alloc b2.size (.cells (pub.map (Value.int .u8)).toArray 23 (0, 0))
  have b4 := b3.alloc b3.size (.cells (ad.map (Value.int .u32)).toArray 26 (0, 0))
  have b5 := b4.alloc b4.size (.cells (byteCells 32 []) 23 (0, 0))
  have Ka := hid (((((Blk.new (w := w) (n := w.heap.size) rfl (da.map (Value.int .u8)).toArray 23).old (.cells (db.map (Value.int .u8)).toArray 23 (0, 0))).old (.cells (pub.map (Value.int .u8)).toArray 23 (0, 0))).old (.cells (ad.map (Value.int .u32)).toArray 26 (0, 0))).old (.cells (byteCells 32 []) 23 (0, 0)))
  have Kb := hid ((((Blk.new (w := (w.alloc (.cells (da.map (Value.int .u8)).toArray 23 (0, 0)))) (n := w.heap.size + 1) (by simp only [World.size_alloc]) (db.map (Value.int .u8)).toArray 23).old (.cells (pub.map (Value.int .u8)).toArray 23 (0, 0))).old (.cells (ad.map (Value.int .u32)).toArray 26 (0, 0))).old (.cells (byteCells 32 []) 23 (0, 0)))
  have Kp := hid (((Blk.new (w := ((w.alloc (.cells (da.map (Value.int .u8)).toArray 23 (0, 0))).alloc (.cells (db.map (Value.int .u8)).toArray 23 (0, 0)))) (n := w.heap.size + 1 + 1) (by simp only [World.size_alloc]) (pub.map (Value.int .u8)).toArray 23).old (.cells (ad.map (Value.int .u32)).toArray 26 (0, 0))).old (.cells (byteCells 32 []) 23 (0, 0)))
  have Kad := hid ((Blk.new (w := (((w.alloc (.cells (da.map (Value.int .u8)).toArray 23 (0, 0))).alloc (.cells (db.map (Value.int .u8)).toArray 23 (0, 0))).alloc (.cells (pub.map (Value.int .u8)).toArray 23 (0, 0)))) (n := w.heap.size + 1 + 1 + 1) (by simp only [World.size_alloc]) (ad.map (Value.int .u32)).toArray 26).old (.cells (byteCells 32 []) 23 (0, 0)))
  have Kr0 := hid (Blk.new (w := ((((w.alloc (.cells (da.map (Value.int .u8)).toArray 23 (0, 0))).alloc (.cells (db.map (Value.int .u8)).toArray 23 (0, 0))).alloc (.cells (pub.map (Value.int .u8)).toArray 23 (0, 0))).alloc (.cells (ad.map (Value.int .u32)).toArray 26 (0, 0)))) (n := w.heap.size + 1 + 1 + 1 + 1) (by simp only [World.size_alloc]) (byteCells 32 []) 23)
  have Hb := hid b5
  have HzA := hid zsize
  have hbz := b5.size
  have Hbs := hid (show w.heap.size + 1 + 1 + 1 + 1 + 1 = (((((w.alloc (.cells (da.map (Value.int .u8)).toArray 23 (0, 0))).alloc (.cells (db.map (Value.int .u8)).toArray 23 (0, 0))).alloc (.cells (pub.map (Value.int .u8)).toArray 23 (0, 0))).alloc (.cells (ad.map (Value.int .u32)).toArray 26 (0, 0))).alloc (.cells (byteCells 32 []) 23 (0, 0))).heap.size by simp only [World.size_alloc])
  have Htab := hid tab
  clear b1 b2 b3 b4 b5 tab
  go_enter Tryd.func96, Tryd.ntmps96
  go_wp2_with fail
  refine wp_region_flow 10 (List.range 10) [] [] (by kernel_rfl) (by kernel_rfl) ?_
  apply Exists.intro
  refine ⟨fun w0 hb0 hF0 => ?_, ?_⟩
  · skip
    have x0 : ∀ w', (∃ x : Ext w0, w' = x.at_) → ∃ T, Blk w' (w.heap.size) (da.map (Value.int .u8)).toArray T := fun w' ⟨x, hx⟩ => ⟨_, hx ▸ (Ka.out.below hb0).below x.same⟩
    have x1 : ∀ w', (∃ x : Ext w0, w' = x.at_) → ∃ T, Blk w' (w.heap.size + 1) (db.map (Value.int .u8)).toArray T := fun w' ⟨x, hx⟩ => ⟨_, hx ▸ (Kb.out.below hb0).below x.same⟩
    have x2 : ∀ w', (∃ x : Ext w0, w' = x.at_) → ∃ T, Blk w' (w.heap.size + 1 + 1) (pub.map (Value.int .u8)).toArray T := fun w' ⟨x, hx⟩ => ⟨_, hx ▸ (Kp.out.below hb0).below x.same⟩
    have x3 : ∀ w', (∃ x : Ext w0, w' = x.at_) → ∃ T, Blk w' (w.heap.size + 1 + 1 + 1) (ad.map (Value.int .u32)).toArray T := fun w' ⟨x, hx⟩ => ⟨_, hx ▸ (Kad.out.below hb0).below x.same⟩
    have c0 := fun e : Ext w0 => at_list ad lev num e.at_ had
    have c1 := fun e : Ext w0 => J1.out e.at_ ((Htab.out.below (Below.on Hb.out hb0)).below e.same)
    simp only [pick, List.range, List.range.loop, List.getElem?_toArray, List.getElem?_cons_succ, List.getElem?_cons_zero, Option.toList_some, List.cons_append, List.nil_append]
    repeat (first | (go_big_quiet_want; refine quiet_load_blk 23 _ rfl (w.heap.size) rfl _ x0 _ Tryd.underlying23 rfl 32 size_digest hda.size ?_; go_big_quiet_on; simp only [Act.put, List.setIfInBounds_toArray, List.set_cons_zero, List.set_cons_succ]) | (go_big_quiet_want; refine quiet_load_blk 23 _ rfl (w.heap.size + 1) rfl _ x1 _ Tryd.underlying23 rfl 32 size_digest hdb.size ?_; go_big_quiet_on; simp only [Act.put, List.setIfInBounds_toArray, List.set_cons_zero, List.set_cons_succ]) | (go_big_quiet_want; refine quiet_load_blk 23 _ rfl (w.heap.size + 1 + 1) rfl _ x2 _ Tryd.underlying23 rfl 32 size_digest hpub.size ?_; go_big_quiet_on; simp only [Act.put, List.setIfInBounds_toArray, List.set_cons_zero, List.set_cons_succ]) | (go_big_quiet_want; refine quiet_load_blk 26 _ rfl (w.heap.size + 1 + 1 + 1) rfl _ x3 _ Tryd.underlying26 rfl 8 sizeAdrs had.size ?_; go_big_quiet_on; simp only [Act.put, List.setIfInBounds_toArray, List.set_cons_zero, List.set_cons_succ]) | go_big_quiet_step (first | (go_at_call 32; with_reducible exact Calls.ext (c0 _)) | (go_at_call 29; with_reducible exact Calls.ext (c1 _))))
    exact wpQuiet_nil rfl
  refine AlChk.nil ?_
  refine Walk.fin fun w1 hw1 _ _ => ?_
  simp only [List.drop_succ_cons, List.drop_zero]
  have HBw1 := hid (Below.on Hb.out hw1)
  have hsw1 := HBw1.out.size
  have Kaw1 := hid (Ka.out.below hw1)
  have Kbw1 := hid (Kb.out.below hw1)
  have Kpw1 := hid (Kp.out.below hw1)
  have Kadw1 := hid (Kad.out.below hw1)
  have Kr0w1 := hid (Kr0.out.below hw1)
  clear hw1
  go_wp2_with (
      refine wpList_store_blk rfl 23 _ _ rfl (w.heap.size + 1 + 1 + 1 + 1) (J.map (Value.int .u8)).toArray rfl rfl _ 23 Kr0w1.out 32 size_digest HzA.out HJ.out.size (ints_one _ _) ?_
      intro w9 hb9 hk9
      have HB9 := hid (hb9.below HBw1.out HBw1.out.size (by omega))
      have HK9 := hid hk9
      clear hb9 hk9)
  exact bodyPost_ret (v := (.agg (J.map (Value.int .u8)).toArray)) (results_blk Tryd.results96 _ (w.heap.size + 1 + 1 + 1 + 1) rfl _ 23 HK9.out _ Tryd.underlying23 rfl 32 size_digest HJ.out.size) rfl ⟨rfl, HB9.out⟩
end Go.Proofs.YtjkfbeillmeomaaDoor
