/-
  NPair, Climb, ClimbP, ClimbR, ClimbK, ClimbLaws: one text.
-/
import Derived.Test.YtjkfbeillmeomaaGreatDoorSZNFlowB
import Derived.OrdersHeld
import Derived.Test.YtjkfbeillmeomaaGreatDoorSZPLt
import Derived.Test.YtjkfbeillmeomaaGreatDoorSZNLate
namespace Go.Proofs.YtjkfbeillmeomaaGreatDoor
set_option maxRecDepth 100000
open Go.RowKit
section
variable {P : Program} {ops : Array Oper} {Q : Exit → Act → World → Prop}
end
def pl (l : List Nat) : Array Bool := l.foldl (fun x i => x.setIfInBounds i true) (Array.replicate 6 false)
/-- Two loads, two variables, two stores; the second load may come up behind the first store. -/
def pairB (l : List Oper) : Bool :=
  Region.noSelect l.toArray && l.length == 6 && Region.free .any l.toArray (pl []) 0 && Region.free .any l.toArray (pl [0]) 1 &&
  (Region.ready .any l.toArray (pl [])).contains 0 && (Region.ready .any l.toArray (pl [0])).contains 1 && Region.ready .any l.toArray (pl [0, 1]) == [2, 3] &&
  Region.ready .any l.toArray (pl [0, 1, 2]) == [3] && Region.ready .any l.toArray (pl [0, 1, 3]) == [2] &&
  [[0, 1, 2, 3], [0, 1, 3, 2]].all fun m => Region.ready .any l.toArray (pl m) == [4] && Region.ready .any l.toArray (pl (m ++ [4])) == [5] && Region.ready .any l.toArray (pl (m ++ [4, 5])) == []
def pairF (a : Act) (o0 o1 o2 o3 : Oper) (X Y : Array Value) (b c : Nat) : Act :=
  (((a.put o0.dst (.agg X)).put o1.dst (.agg Y)).put o2.dst (.pointer (some ⟨b, 0, none⟩))).put o3.dst (.pointer (some ⟨c, 0, none⟩))
end Go.Proofs.YtjkfbeillmeomaaGreatDoor
namespace Go.Proofs.YtjkfbeillmeomaaGreatDoor
set_option maxRecDepth 100000
open Go.ChangeShapes Go.WideShapes Go.ChangeAt Go.RowKit
/-- May there be so many levels, and such a leaf? -/
def rightZ (n i : Int) : Bool := decide (1 ≤ n ∧ n ≤ 4 ∧ 0 ≤ i ∧ i < 2 ^ n.toNat)
set_option maxHeartbeats 4000000 in
theorem tright_any (n i : Int) (w : World) :
    Calls Tryz.prog 47 #[.int .i64 n, .int .i64 i] w fun e w' => e = .returned (.bool (rightZ n i)) ∧ w' = w := by
  by_cases h1 : 1 ≤ n
  · by_cases h2 : n ≤ 4
    · rcases (show n = 1 ∨ n = 2 ∨ n = 3 ∨ n = 4 by omega) with rfl | rfl | rfl | rfl
      · by_cases h3 : 0 ≤ i
        · by_cases h4 : i < 2
          · have h4b : ¬ 2 ≤ i := by omega
            go_enter Tryz.func47, Tryz.ntmps47
            go_wp2
            go_returns
            exact ⟨by simp [rightZ, *] <;> omega, rfl⟩
          · have h4b : 2 ≤ i := by omega
            go_enter Tryz.func47, Tryz.ntmps47
            go_wp2
            go_returns
            exact ⟨by simp [rightZ, *] <;> omega, rfl⟩
        · have h3b : i < 0 := by omega
          go_enter Tryz.func47, Tryz.ntmps47
          go_wp2
          go_returns
          exact ⟨by simp [rightZ, *] <;> omega, rfl⟩
      · by_cases h3 : 0 ≤ i
        · by_cases h4 : i < 4
          · have h4b : ¬ 4 ≤ i := by omega
            go_enter Tryz.func47, Tryz.ntmps47
            go_wp2
            go_returns
            exact ⟨by simp [rightZ, *] <;> omega, rfl⟩
          · have h4b : 4 ≤ i := by omega
            go_enter Tryz.func47, Tryz.ntmps47
            go_wp2
            go_returns
            exact ⟨by simp [rightZ, *] <;> omega, rfl⟩
        · have h3b : i < 0 := by omega
          go_enter Tryz.func47, Tryz.ntmps47
          go_wp2
          go_returns
          exact ⟨by simp [rightZ, *] <;> omega, rfl⟩
      · by_cases h3 : 0 ≤ i
        · by_cases h4 : i < 8
          · have h4b : ¬ 8 ≤ i := by omega
            go_enter Tryz.func47, Tryz.ntmps47
            go_wp2
            go_returns
            exact ⟨by simp [rightZ, *] <;> omega, rfl⟩
          · have h4b : 8 ≤ i := by omega
            go_enter Tryz.func47, Tryz.ntmps47
            go_wp2
            go_returns
            exact ⟨by simp [rightZ, *] <;> omega, rfl⟩
        · have h3b : i < 0 := by omega
          go_enter Tryz.func47, Tryz.ntmps47
          go_wp2
          go_returns
          exact ⟨by simp [rightZ, *] <;> omega, rfl⟩
      · by_cases h3 : 0 ≤ i
        · by_cases h4 : i < 16
          · have h4b : ¬ 16 ≤ i := by omega
            go_enter Tryz.func47, Tryz.ntmps47
            go_wp2
            go_returns
            exact ⟨by simp [rightZ, *] <;> omega, rfl⟩
          · have h4b : 16 ≤ i := by omega
            go_enter Tryz.func47, Tryz.ntmps47
            go_wp2
            go_returns
            exact ⟨by simp [rightZ, *] <;> omega, rfl⟩
        · have h3b : i < 0 := by omega
          go_enter Tryz.func47, Tryz.ntmps47
          go_wp2
          go_returns
          exact ⟨by simp [rightZ, *] <;> omega, rfl⟩
    · have h2b : 4 < n := by omega
      go_enter Tryz.func47, Tryz.ntmps47
      go_wp2
      go_returns
      exact ⟨by simp [rightZ, *] <;> omega, rfl⟩
  · have h1b : n < 1 := by omega
    go_enter Tryz.func47, Tryz.ntmps47
    go_wp2
    go_returns
    exact ⟨by simp [rightZ, *] <;> omega, rfl⟩
/-- A tree's address. -/
def treeZ (la tr : Int) : List Int := [la, tr / 4294967296, tr % 4294967296, 2, 0, 0, 0, 0]
theorem Aw.tree {la tr : Int} (hl : 0 ≤ la ∧ la < 4294967296) (ht : 0 ≤ tr ∧ tr < 18446744073709551616) : Aw (treeZ la tr) := ⟨rfl, fun x hx => by
  simp only [treeZ, List.mem_cons, List.not_mem_nil, or_false] at hx
  omega⟩
theorem tree_list (la tr : Int) (w : World) (h0 : 0 ≤ tr) (h1 : tr < 18446744073709551616) :
    Calls Tryz.prog 48 #[.int .u32 la, .int .u64 tr] w fun e w' => e = .returned (.agg ((treeZ la tr).map (Value.int .u32)).toArray) ∧ Below w.heap.size w w' := tree_any la tr w h0 h1
set_option maxHeartbeats 4000000 in
theorem tjoin_any (da db pub ad : List Int) (lev num : Int) (w : World) (hda : Dg da) (hdb : Dg db) (hpub : Dg pub) (had : Aw ad) (hl : 0 ≤ lev ∧ lev < 4294967296) (hn : 0 ≤ num ∧ num < 4294967296) (tab : ShaTab w) :
    Calls Tryz.prog 74 #[(.agg (da.map (Value.int .u8)).toArray), (.agg (db.map (Value.int .u8)).toArray), (.agg (pub.map (Value.int .u8)).toArray), (.agg (ad.map (Value.int .u32)).toArray), .int .i64 lev, .int .i64 num] w fun e w' => e = .returned (.agg ((joinZ da db pub (setAd ad lev num 0)).map (Value.int .u8)).toArray) ∧ Below w.heap.size w w' := by
  have HJ := hid (Dg.join da db pub (setAd ad lev num 0))
  have HA := hid (had.set (f := lev) (s := num) (p := 0) hl hn (by omega))
  have J1 := hid (fun (W : World) (t : ShaTab W) => ljoin_any da db pub (setAd ad lev num 0) W hda hdb hpub HA.out t)
  generalize (joinZ da db pub (setAd ad lev num 0)) = J at *
  have b1 := (Below.refl w.heap.size w).alloc (Nat.le_refl _) (.cells (da.map (Value.int .u8)).toArray 25 (0, 0))
  have b2 := b1.alloc b1.size (.cells (db.map (Value.int .u8)).toArray 25 (0, 0))
  have b3 := b2.alloc b2.size (.cells (pub.map (Value.int .u8)).toArray 25 (0, 0))
  have b4 := b3.alloc b3.size (.cells (ad.map (Value.int .u32)).toArray 73 (0, 0))
  have b5 := b4.alloc b4.size (.cells (byteCells 32 []) 25 (0, 0))
  have Ka := hid (((((Blk.new (w := w) (n := w.heap.size) rfl (da.map (Value.int .u8)).toArray 25).old (.cells (db.map (Value.int .u8)).toArray 25 (0, 0))).old (.cells (pub.map (Value.int .u8)).toArray 25 (0, 0))).old (.cells (ad.map (Value.int .u32)).toArray 73 (0, 0))).old (.cells (byteCells 32 []) 25 (0, 0)))
  have Kb := hid ((((Blk.new (w := (w.alloc (.cells (da.map (Value.int .u8)).toArray 25 (0, 0)))) (n := w.heap.size + 1) (by simp only [World.size_alloc]) (db.map (Value.int .u8)).toArray 25).old (.cells (pub.map (Value.int .u8)).toArray 25 (0, 0))).old (.cells (ad.map (Value.int .u32)).toArray 73 (0, 0))).old (.cells (byteCells 32 []) 25 (0, 0)))
  have Kp := hid (((Blk.new (w := ((w.alloc (.cells (da.map (Value.int .u8)).toArray 25 (0, 0))).alloc (.cells (db.map (Value.int .u8)).toArray 25 (0, 0)))) (n := w.heap.size + 1 + 1) (by simp only [World.size_alloc]) (pub.map (Value.int .u8)).toArray 25).old (.cells (ad.map (Value.int .u32)).toArray 73 (0, 0))).old (.cells (byteCells 32 []) 25 (0, 0)))
  have Kad := hid ((Blk.new (w := (((w.alloc (.cells (da.map (Value.int .u8)).toArray 25 (0, 0))).alloc (.cells (db.map (Value.int .u8)).toArray 25 (0, 0))).alloc (.cells (pub.map (Value.int .u8)).toArray 25 (0, 0)))) (n := w.heap.size + 1 + 1 + 1) (by simp only [World.size_alloc]) (ad.map (Value.int .u32)).toArray 73).old (.cells (byteCells 32 []) 25 (0, 0)))
  have Kr0 := hid (Blk.new (w := ((((w.alloc (.cells (da.map (Value.int .u8)).toArray 25 (0, 0))).alloc (.cells (db.map (Value.int .u8)).toArray 25 (0, 0))).alloc (.cells (pub.map (Value.int .u8)).toArray 25 (0, 0))).alloc (.cells (ad.map (Value.int .u32)).toArray 73 (0, 0)))) (n := w.heap.size + 1 + 1 + 1 + 1) (by simp only [World.size_alloc]) (byteCells 32 []) 25)
  have Hb := hid b5
  have HzA := hid zsize
  have hbz := b5.size
  have Hbs := hid (show w.heap.size + 1 + 1 + 1 + 1 + 1 = (((((w.alloc (.cells (da.map (Value.int .u8)).toArray 25 (0, 0))).alloc (.cells (db.map (Value.int .u8)).toArray 25 (0, 0))).alloc (.cells (pub.map (Value.int .u8)).toArray 25 (0, 0))).alloc (.cells (ad.map (Value.int .u32)).toArray 73 (0, 0))).alloc (.cells (byteCells 32 []) 25 (0, 0))).heap.size by simp only [World.size_alloc])
  have Htab := hid tab
  clear b1 b2 b3 b4 b5 tab
  go_enter Tryz.func74, Tryz.ntmps74
  go_wp2_with fail
  refine wp_region_flow 10 (List.range 10) [] [] (by kernel_rfl) (by kernel_rfl) ?_
  apply Exists.intro
  refine ⟨fun w0 hb0 hF0 => ?_, ?_⟩
  · skip
    have x0 : ∀ w', (∃ x : Ext w0, w' = x.at_) → ∃ T, Blk w' (w.heap.size) (da.map (Value.int .u8)).toArray T := fun w' ⟨x, hx⟩ => ⟨_, hx ▸ (Ka.out.below hb0).below x.same⟩
    have x1 : ∀ w', (∃ x : Ext w0, w' = x.at_) → ∃ T, Blk w' (w.heap.size + 1) (db.map (Value.int .u8)).toArray T := fun w' ⟨x, hx⟩ => ⟨_, hx ▸ (Kb.out.below hb0).below x.same⟩
    have x2 : ∀ w', (∃ x : Ext w0, w' = x.at_) → ∃ T, Blk w' (w.heap.size + 1 + 1) (pub.map (Value.int .u8)).toArray T := fun w' ⟨x, hx⟩ => ⟨_, hx ▸ (Kp.out.below hb0).below x.same⟩
    have x3 : ∀ w', (∃ x : Ext w0, w' = x.at_) → ∃ T, Blk w' (w.heap.size + 1 + 1 + 1) (ad.map (Value.int .u32)).toArray T := fun w' ⟨x, hx⟩ => ⟨_, hx ▸ (Kad.out.below hb0).below x.same⟩
    have c0 := fun e : Ext w0 => at_list ad lev num e.at_ had
    have c1 := fun e : Ext w0 => J1.out e.at_ ((Htab.out.below (Below.on Hb.out hb0)).below e.same)
    simp only [pick, List.range, List.range.loop, List.getElem?_toArray, List.getElem?_cons_succ, List.getElem?_cons_zero, Option.toList_some, List.cons_append, List.nil_append]
    repeat (first | (go_big_quiet_want; refine quiet_load_blk 25 _ rfl (w.heap.size) rfl _ x0 _ Tryz.underlying25 rfl 32 size_digest hda.size ?_; go_big_quiet_on; simp only [Act.put, List.setIfInBounds_toArray, List.set_cons_zero, List.set_cons_succ]) | (go_big_quiet_want; refine quiet_load_blk 25 _ rfl (w.heap.size + 1) rfl _ x1 _ Tryz.underlying25 rfl 32 size_digest hdb.size ?_; go_big_quiet_on; simp only [Act.put, List.setIfInBounds_toArray, List.set_cons_zero, List.set_cons_succ]) | (go_big_quiet_want; refine quiet_load_blk 25 _ rfl (w.heap.size + 1 + 1) rfl _ x2 _ Tryz.underlying25 rfl 32 size_digest hpub.size ?_; go_big_quiet_on; simp only [Act.put, List.setIfInBounds_toArray, List.set_cons_zero, List.set_cons_succ]) | (go_big_quiet_want; refine quiet_load_blk 73 _ rfl (w.heap.size + 1 + 1 + 1) rfl _ x3 _ Tryz.underlying73 rfl 8 sizeAdrs had.size ?_; go_big_quiet_on; simp only [Act.put, List.setIfInBounds_toArray, List.set_cons_zero, List.set_cons_succ]) | go_big_quiet_step (first | (go_at_call 81; with_reducible exact Calls.ext (c0 _)) | (go_at_call 93; with_reducible exact Calls.ext (c1 _))))
    exact wpQuiet_nil rfl
  refine AlChk.nil ?_
  refine Walk.fin fun w1 hw1 _ _ => ?_
  simp only [List.drop_succ_cons, List.drop_zero]
  have HBw1 := hid (Below.on Hb.out hw1)
  have hsw1 := HBw1.out.size
  have Kaw1 := hid (Ka.out.below hw1)
  have Kbw1 := hid (Kb.out.below hw1)
  have Kpw1 := hid (Kp.out.below hw1)
  have Kadw1 := hid (Kad.out.below hw1)
  have Kr0w1 := hid (Kr0.out.below hw1)
  clear hw1
  go_wp2_with (
      refine wpList_store_blk rfl 25 _ _ rfl (w.heap.size + 1 + 1 + 1 + 1) (J.map (Value.int .u8)).toArray rfl rfl _ 25 Kr0w1.out 32 size_digest HzA.out HJ.out.size (ints_one _ _) ?_
      intro w9 hb9 hk9
      have HB9 := hid (hb9.below HBw1.out HBw1.out.size (by omega))
      have HK9 := hid hk9
      clear hb9 hk9)
  exact bodyPost_ret (v := (.agg (J.map (Value.int .u8)).toArray)) (results_blk Tryz.results74 _ (w.heap.size + 1 + 1 + 1 + 1) rfl _ 25 HK9.out _ Tryz.underlying25 rfl 32 size_digest HJ.out.size) rfl ⟨rfl, HB9.out⟩
end Go.Proofs.YtjkfbeillmeomaaGreatDoor
namespace Go.Proofs.YtjkfbeillmeomaaGreatDoor
set_option maxRecDepth 100000
open Go.ChangeShapes Go.WideShapes Go.ChangeAt Go.RowKit
theorem tright_b (n i : Int) (b : Bool) (hb : rightZ n i = b) (w : World) : Calls Tryz.prog 47 #[.int .i64 n, .int .i64 i] w fun e w' => e = .returned (.bool b) ∧ Below w.heap.size w w' :=
  (tright_any n i w).mono fun e w' h => by
    obtain ⟨rfl, rfl⟩ := h
    exact ⟨by rw [hb], Below.refl _ _⟩
/-- One step up. -/
def climbS (pub ad : List Int) (i : Int) (lev : Nat) (x s : List Int) : List Int :=
  if i / 2 ^ lev % 2 = 1 then joinZ s x pub (setAd ad lev (i / 2 ^ lev / 2) 0) else joinZ x s pub (setAd ad lev (i / 2 ^ lev / 2) 0)
def climbZ (pub ad : List Int) (i : Int) (way : List (List Int)) (x : List Int) : Nat → List Int
  | 0 => x
  | k + 1 => climbS pub ad i k (climbZ pub ad i way x k) (way.getD k [])
end Go.Proofs.YtjkfbeillmeomaaGreatDoor
namespace Go.Proofs.YtjkfbeillmeomaaGreatDoor
set_option maxRecDepth 100000
open Go.ChangeShapes Go.WideShapes Go.ChangeAt Go.RowKit
set_option maxHeartbeats 4000000 in
theorem refbase_tree (la tr : Int) (w : World) (h0 : 0 ≤ tr) (h1 : tr < 18446744073709551616) :
    Calls Tryz.prog 30 #[.int .u32 la, .int .u64 tr, .int .u32 2, .int .u32 0] w fun e w' => e = .returned (.agg ((treeZ la tr).map (Value.int .u32)).toArray) ∧ Below w.heap.size w w' := by
  go_enter Tryz.func30, Tryz.ntmps30
  go_wp2
  go_returns
  exact ⟨rfl, by go_grown⟩
set_option maxHeartbeats 4000000 in
theorem two_any (da db pub : List Int) (la tr lev num : Int) (w : World) (hda : Dg da) (hdb : Dg db) (hpub : Dg pub) (hla : 0 ≤ la ∧ la < 4294967296) (htr : 0 ≤ tr ∧ tr < 18446744073709551616) (hl : 0 ≤ lev ∧ lev < 4294967296) (hn : 0 ≤ num ∧ num < 4294967296) :
    Calls Tryz.prog 67 #[(.agg (da.map (Value.int .u8)).toArray), (.agg (db.map (Value.int .u8)).toArray), (.agg (pub.map (Value.int .u8)).toArray), .int .u32 la, .int .u64 tr, .int .i64 lev, .int .i64 num] w fun e w' => e = .returned (.agg ((joinZ da db pub (setAd (treeZ la tr) lev num 0)).map (Value.int .u8)).toArray) ∧ Below w.heap.size w w' := by
  have HJ := hid (Dg.join da db pub (setAd (treeZ la tr) lev num 0))
  have HAd := hid (Aw.tree hla htr)
  have HA := hid (HAd.out.set (f := lev) (s := num) (p := 0) hl hn (by omega))
  have J1 := hid (fun (W : World) => refjoin_any da db pub (setAd (treeZ la tr) lev num 0) W hda hdb hpub HA.out)
  generalize (joinZ da db pub (setAd (treeZ la tr) lev num 0)) = J at *
  have b1 := (Below.refl w.heap.size w).alloc (Nat.le_refl _) (.cells (da.map (Value.int .u8)).toArray 25 (0, 0))
  have b2 := b1.alloc b1.size (.cells (db.map (Value.int .u8)).toArray 25 (0, 0))
  have b3 := b2.alloc b2.size (.cells (pub.map (Value.int .u8)).toArray 25 (0, 0))
  have b4 := b3.alloc b3.size (.cells (byteCells 32 []) 25 (0, 0))
  have Ka := hid ((((Blk.new (w := w) (n := w.heap.size) rfl (da.map (Value.int .u8)).toArray 25).old (.cells (db.map (Value.int .u8)).toArray 25 (0, 0))).old (.cells (pub.map (Value.int .u8)).toArray 25 (0, 0))).old (.cells (byteCells 32 []) 25 (0, 0)))
  have Kb := hid (((Blk.new (w := (w.alloc (.cells (da.map (Value.int .u8)).toArray 25 (0, 0)))) (n := w.heap.size + 1) (by simp only [World.size_alloc]) (db.map (Value.int .u8)).toArray 25).old (.cells (pub.map (Value.int .u8)).toArray 25 (0, 0))).old (.cells (byteCells 32 []) 25 (0, 0)))
  have Kp := hid ((Blk.new (w := ((w.alloc (.cells (da.map (Value.int .u8)).toArray 25 (0, 0))).alloc (.cells (db.map (Value.int .u8)).toArray 25 (0, 0)))) (n := w.heap.size + 1 + 1) (by simp only [World.size_alloc]) (pub.map (Value.int .u8)).toArray 25).old (.cells (byteCells 32 []) 25 (0, 0)))
  have Kr0 := hid (Blk.new (w := (((w.alloc (.cells (da.map (Value.int .u8)).toArray 25 (0, 0))).alloc (.cells (db.map (Value.int .u8)).toArray 25 (0, 0))).alloc (.cells (pub.map (Value.int .u8)).toArray 25 (0, 0)))) (n := w.heap.size + 1 + 1 + 1) (by simp only [World.size_alloc]) (byteCells 32 []) 25)
  have Hb := hid b4
  have HzA := hid zsize
  have hbz := b4.size
  have Hbs := hid (show w.heap.size + 1 + 1 + 1 + 1 = ((((w.alloc (.cells (da.map (Value.int .u8)).toArray 25 (0, 0))).alloc (.cells (db.map (Value.int .u8)).toArray 25 (0, 0))).alloc (.cells (pub.map (Value.int .u8)).toArray 25 (0, 0))).alloc (.cells (byteCells 32 []) 25 (0, 0))).heap.size by simp only [World.size_alloc])
  clear b1 b2 b3 b4
  go_enter Tryz.func67, Tryz.ntmps67
  go_wp2_with fail
  refine wp_region_flow 12 (List.range 12) [] [] (by kernel_rfl) (by kernel_rfl) ?_
  apply Exists.intro
  refine ⟨fun w0 hb0 hF0 => ?_, ?_⟩
  · skip
    have x0 : ∀ w', (∃ x : Ext w0, w' = x.at_) → ∃ T, Blk w' (w.heap.size) (da.map (Value.int .u8)).toArray T := fun w' ⟨x, hx⟩ => ⟨_, hx ▸ (Ka.out.below hb0).below x.same⟩
    have x1 : ∀ w', (∃ x : Ext w0, w' = x.at_) → ∃ T, Blk w' (w.heap.size + 1) (db.map (Value.int .u8)).toArray T := fun w' ⟨x, hx⟩ => ⟨_, hx ▸ (Kb.out.below hb0).below x.same⟩
    have x2 : ∀ w', (∃ x : Ext w0, w' = x.at_) → ∃ T, Blk w' (w.heap.size + 1 + 1) (pub.map (Value.int .u8)).toArray T := fun w' ⟨x, hx⟩ => ⟨_, hx ▸ (Kp.out.below hb0).below x.same⟩
    have c0 := fun e : Ext w0 => refbase_tree la tr e.at_ htr.1 htr.2
    have c1 := fun e : Ext w0 => refat_list (treeZ la tr) lev num 0 e.at_ HAd.out
    have c2 := fun e : Ext w0 => J1.out e.at_
    simp only [pick, List.range, List.range.loop, List.getElem?_toArray, List.getElem?_cons_succ, List.getElem?_cons_zero, Option.toList_some, List.cons_append, List.nil_append]
    repeat (first | (go_big_quiet_want; refine quiet_load_blk 25 _ rfl (w.heap.size) rfl _ x0 _ Tryz.underlying25 rfl 32 size_digest hda.size ?_; go_big_quiet_on; simp only [Act.put, List.setIfInBounds_toArray, List.set_cons_zero, List.set_cons_succ]) | (go_big_quiet_want; refine quiet_load_blk 25 _ rfl (w.heap.size + 1) rfl _ x1 _ Tryz.underlying25 rfl 32 size_digest hdb.size ?_; go_big_quiet_on; simp only [Act.put, List.setIfInBounds_toArray, List.set_cons_zero, List.set_cons_succ]) | (go_big_quiet_want; refine quiet_load_blk 25 _ rfl (w.heap.size + 1 + 1) rfl _ x2 _ Tryz.underlying25 rfl 32 size_digest hpub.size ?_; go_big_quiet_on; simp only [Act.put, List.setIfInBounds_toArray, List.set_cons_zero, List.set_cons_succ]) | go_big_quiet_step (first | (go_at_call 30; with_reducible exact Calls.ext (c0 _)) | (go_at_call 69; with_reducible exact Calls.ext (c1 _)) | (go_at_call 89; with_reducible exact Calls.ext (c2 _))))
    exact wpQuiet_nil rfl
  refine AlChk.nil ?_
  refine Walk.fin fun w1 hw1 _ _ => ?_
  simp only [List.drop_succ_cons, List.drop_zero]
  have HBw1 := hid (Below.on Hb.out hw1)
  have hsw1 := HBw1.out.size
  have Kaw1 := hid (Ka.out.below hw1)
  have Kbw1 := hid (Kb.out.below hw1)
  have Kpw1 := hid (Kp.out.below hw1)
  have Kr0w1 := hid (Kr0.out.below hw1)
  clear hw1
  go_wp2_with (
      refine wpList_store_blk rfl 25 _ _ rfl (w.heap.size + 1 + 1 + 1) (J.map (Value.int .u8)).toArray rfl rfl _ 25 Kr0w1.out 32 size_digest HzA.out HJ.out.size (ints_one _ _) ?_
      intro w9 hb9 hk9
      have HB9 := hid (hb9.below HBw1.out HBw1.out.size (by omega))
      have HK9 := hid hk9
      clear hb9 hk9)
  exact bodyPost_ret (v := (.agg (J.map (Value.int .u8)).toArray)) (results_blk Tryz.results67 _ (w.heap.size + 1 + 1 + 1) rfl _ 25 HK9.out _ Tryz.underlying25 rfl 32 size_digest HJ.out.size) rfl ⟨rfl, HB9.out⟩
end Go.Proofs.YtjkfbeillmeomaaGreatDoor
namespace Go.Proofs.YtjkfbeillmeomaaGreatDoor
set_option maxRecDepth 100000
open Go.ChangeShapes Go.WideShapes Go.ChangeAt Go.RowKit
section
variable {P : Program} {w : World}
theorem results_blk_tmp2 {fn : Func} {p u x : Tmp} {ty : TypeId} (h : fn.results = #[.cell p ty, .tmp u, .tmp x]) (tmps : Array Value) (b : Nat) (hp : tmps.getD p undef = .pointer (some ⟨b, 0, none⟩)) (v v2 : Value) (hv : tmps.getD u undef = v) (hv2 : tmps.getD x undef = v2) (cs : Array Value) (T : TypeId) (hk : Blk w b cs T)
    (d : TypeDesc) (hu : P.underlying ty = some d) (hd : d.isRow = true) (n : Nat) (hi : (P.info? ty).map (·.size) = some n) (hs : cs.size = n) : (results fn tmps).run P w = .ok (.tuple #[.agg cs, v, v2]) w := by
  have hp' : tmps[p]?.getD undef = .pointer (some ⟨b, 0, none⟩) := by simpa using hp
  have hv' : tmps[u]?.getD undef = v := by simpa using hv
  have hv2' : tmps[x]?.getD undef = v2 := by simpa using hv2
  have hl := run_loadVar_row (P := P) w b T ty cs (0, 0) d hk hu (by cases d <;> simp_all) (by rw [hi, hs])
  simp [results, h, hp', hv', hv2', asAddr, hl]
end
def d1 : List Int := 1 :: List.replicate 31 0
def d2 : List Int := 2 :: List.replicate 31 0
end Go.Proofs.YtjkfbeillmeomaaGreatDoor
namespace Go.Proofs.YtjkfbeillmeomaaGreatDoor
set_option maxRecDepth 100000
open Go.ChangeShapes Go.WideShapes Go.ChangeAt Go.RowKit
end Go.Proofs.YtjkfbeillmeomaaGreatDoor
