/-
  The statement AdrsApart: the walk of its text.
-/
import Derived.Test.YtkiaeepdpmcafaaAdrs
import Derived.Test.YtkiaeepdpmcafaaInts

namespace Go.Proofs.Ytkiaeepdpmcafaa
open Go.ChangeShapes Go.WideShapes Go.ChangeAt Go.RowKit

theorem eql49 (xs ys : List Int) (hx : xs.length = 8) (hy : ys.length = 8) (w : World) : (binOp .eql 49 (.agg (xs.map (Value.int .u32)).toArray) (.agg (ys.map (Value.int .u32)).toArray)).run Try.prog w = .ok (.bool (decide (xs = ys))) w :=
  run_eql_ints (P := Try.prog) (t := 49) (e := 46) Try.underlying49 Try.underlying46 rfl (by kernel_rfl) xs ys hx hy w
theorem neq49 (xs ys : List Int) (hx : xs.length = 8) (hy : ys.length = 8) (w : World) : (binOp .neq 49 (.agg (xs.map (Value.int .u32)).toArray) (.agg (ys.map (Value.int .u32)).toArray)).run Try.prog w = .ok (.bool (!decide (xs = ys))) w :=
  run_neq_ints (P := Try.prog) (t := 49) (e := 46) Try.underlying49 Try.underlying46 rfl (by kernel_rfl) xs ys hx hy w
theorem eql64 (xs ys : List Int) (hx : xs.length = 5) (hy : ys.length = 5) (w : World) : (binOp .eql 64 (.agg (xs.map (Value.int .u32)).toArray) (.agg (ys.map (Value.int .u32)).toArray)).run Try.prog w = .ok (.bool (decide (xs = ys))) w :=
  run_eql_ints (P := Try.prog) (t := 64) (e := 46) Try.underlying64 Try.underlying46 rfl (by kernel_rfl) xs ys hx hy w

theorem knows04 (w : World) : Calls Try.prog 34 #[] w fun e w' => e = .returned (.bool true) ∧ Below w.heap.size w w' := by
  have h1 := fun w => eql49 [1, 1, 5, 0, 7, 0, 0, 0] [1, 1, 5, 0, 7, 0, 0, 0] rfl rfl w
  have h2 := fun w => eql49 [2, 0, 3, 2, 0, 0, 0, 0] [2, 0, 3, 2, 0, 0, 0, 0] rfl rfl w
  simp only [List.map_cons, List.map_nil, decide_true] at h1 h2
  go_enter Try.func34, Try.ntmps34
  go_wp2
  go_ret
  exact ⟨rfl, by go_grown⟩

set_option maxHeartbeats 2000000 in
theorem apart_walk (tr ot a0 a1 a2 a3 a4 b0 b1 b2 b3 b4 : Int) (w : World) (ht0 : 0 ≤ tr) (ht1 : tr < 18446744073709551616) (ho0 : 0 ≤ ot) (ho1 : ot < 18446744073709551616) :
    Calls Try.prog 9 #[.int .u64 tr, .int .u64 ot, .agg #[.int .u32 a0, .int .u32 a1, .int .u32 a2, .int .u32 a3, .int .u32 a4], .agg #[.int .u32 b0, .int .u32 b1, .int .u32 b2, .int .u32 b3, .int .u32 b4]] w fun e w' => e = .returned (.bool true) ∧ Below w.heap.size w w' := by
  go_enter Try.func9, Try.ntmps9
  go_wp2_with fail
  have kA : Blk (w.alloc _) w.heap.size #[.int .u32 a0, .int .u32 a1, .int .u32 a2, .int .u32 a3, .int .u32 a4] 64 := Blk.new rfl _ _
  have kA := kA.old (Obj.cells #[.int .u32 b0, .int .u32 b1, .int .u32 b2, .int .u32 b3, .int .u32 b4] 64)
  have kB : Blk ((w.alloc (Obj.cells #[.int .u32 a0, .int .u32 a1, .int .u32 a2, .int .u32 a3, .int .u32 a4] 64)).alloc (Obj.cells #[.int .u32 b0, .int .u32 b1, .int .u32 b2, .int .u32 b3, .int .u32 b4] 64)) (w.heap.size + 1) #[.int .u32 b0, .int .u32 b1, .int .u32 b2, .int .u32 b3, .int .u32 b4] 64 := Blk.new (by simp) _ _
  have bel : Below w.heap.size w ((w.alloc (Obj.cells #[.int .u32 a0, .int .u32 a1, .int .u32 a2, .int .u32 a3, .int .u32 a4] 64)).alloc (Obj.cells #[.int .u32 b0, .int .u32 b1, .int .u32 b2, .int .u32 b3, .int .u32 b4] 64)) := by go_grown
  generalize (w.alloc (Obj.cells #[.int .u32 a0, .int .u32 a1, .int .u32 a2, .int .u32 a3, .int .u32 a4] 64)).alloc (Obj.cells #[.int .u32 b0, .int .u32 b1, .int .u32 b2, .int .u32 b3, .int .u32 b4] 64) = w0 at kA kB bel ⊢
  refine wp_region_hda (n := 14) _ 9 #[.int .u32 0, .int .u32 0, .int .u32 0, .int .u32 0, .int .u32 0, .int .u32 0, .int .u32 0, .int .u32 0] 49 (by kernel_rfl) (by kernel_rfl) rfl rfl rfl (fun a' w' => by go_simp) ?_
  apply Exists.intro
  refine ⟨fun v1 hv1 => ?_, fun v1 pX hv1 hp hblk => ?_⟩
  · have xA := (kA.below hv1).ext
    have xB := (kB.below hv1).ext
    simp only [List.take_succ_cons, List.take_zero]
    repeat (go_big_quiet_step (first | (go_at_call 25; exact Calls.ext (ots_any _ _ _ _ (by assumption) (by assumption))) | (go_at_call 29; exact Calls.ext (at_any _ _ _ _ _ _ _ _ _ _ _)) | (go_at_call 31; exact Calls.ext (for_any _ _ _ _ _ _ _ _ _ _))))
    exact wpQuiet_nil rfl
  have hblk : Blk v1 pX #[.int .u32 0, .int .u32 0, .int .u32 0, .int .u32 0, .int .u32 0, .int .u32 0, .int .u32 0, .int .u32 0] 49 := hblk
  simp only [List.drop_succ_cons, List.drop_zero, Act.put, List.setIfInBounds_toArray, List.set_cons_zero, List.set_cons_succ]
  have c2 := hblk.cell
  have f2 := hblk.free
  have hgeX : w.heap.size ≤ pX := Nat.le_trans bel.size hp
  go_wp2_with fail
  clear c2 f2
  have q := Nat.le_trans bel.size hv1.size
  change Code.wp _ _ _ _ (setAll v1 pX 0 [.int .u32 a0, .int .u32 (tr / 4294967296), .int .u32 (tr % 4294967296), .int .u32 0, .int .u32 a1, .int .u32 a2, .int .u32 a3, .int .u32 a4])
  have kA := Blk.setAll_other (kA.ne hp) [.int .u32 a0, .int .u32 (tr / 4294967296), .int .u32 (tr % 4294967296), .int .u32 0, .int .u32 a1, .int .u32 a2, .int .u32 a3, .int .u32 a4] 0 _ (kA.below hv1)
  have kB := Blk.setAll_other (kB.ne hp) [.int .u32 a0, .int .u32 (tr / 4294967296), .int .u32 (tr % 4294967296), .int .u32 0, .int .u32 a1, .int .u32 a2, .int .u32 a3, .int .u32 a4] 0 _ (kB.below hv1)
  have kX := hblk.setAll_self [.int .u32 a0, .int .u32 (tr / 4294967296), .int .u32 (tr % 4294967296), .int .u32 0, .int .u32 a1, .int .u32 a2, .int .u32 a3, .int .u32 a4] rfl
  have bel := Below.setAll hgeX [.int .u32 a0, .int .u32 (tr / 4294967296), .int .u32 (tr % 4294967296), .int .u32 0, .int .u32 a1, .int .u32 a2, .int .u32 a3, .int .u32 a4] 0 _ (bel.trans (hv1.mono bel.size))
  generalize setAll v1 pX 0 [.int .u32 a0, .int .u32 (tr / 4294967296), .int .u32 (tr % 4294967296), .int .u32 0, .int .u32 a1, .int .u32 a2, .int .u32 a3, .int .u32 a4] = w1 at kA kB kX bel ⊢
  clear hv1 hblk hp q
  refine wp_region_hda (n := 14) _ 10 #[.int .u32 0, .int .u32 0, .int .u32 0, .int .u32 0, .int .u32 0, .int .u32 0, .int .u32 0, .int .u32 0] 49 (by kernel_rfl) (by kernel_rfl) rfl rfl rfl (fun a' w' => by go_simp) ?_
  apply Exists.intro
  refine ⟨fun v1 hv1 => ?_, fun v1 pY hv1 hp hblk => ?_⟩
  · have xA := (kA.below hv1).ext
    have xB := (kB.below hv1).ext
    simp only [List.take_succ_cons, List.take_zero]
    repeat (go_big_quiet_step (first | (go_at_call 25; exact Calls.ext (ots_any _ _ _ _ (by assumption) (by assumption))) | (go_at_call 29; exact Calls.ext (at_any _ _ _ _ _ _ _ _ _ _ _)) | (go_at_call 31; exact Calls.ext (for_any _ _ _ _ _ _ _ _ _ _))))
    exact wpQuiet_nil rfl
  have hblk : Blk v1 pY #[.int .u32 0, .int .u32 0, .int .u32 0, .int .u32 0, .int .u32 0, .int .u32 0, .int .u32 0, .int .u32 0] 49 := hblk
  simp only [List.drop_succ_cons, List.drop_zero, Act.put, List.setIfInBounds_toArray, List.set_cons_zero, List.set_cons_succ]
  have c2 := hblk.cell
  have f2 := hblk.free
  have hgeY : w.heap.size ≤ pY := Nat.le_trans bel.size hp
  go_wp2_with fail
  clear c2 f2
  have q := Nat.le_trans bel.size hv1.size
  change Code.wp _ _ _ _ (setAll v1 pY 0 [.int .u32 b0, .int .u32 (ot / 4294967296), .int .u32 (ot % 4294967296), .int .u32 0, .int .u32 b1, .int .u32 b2, .int .u32 b3, .int .u32 b4])
  have kA := Blk.setAll_other (kA.ne hp) [.int .u32 b0, .int .u32 (ot / 4294967296), .int .u32 (ot % 4294967296), .int .u32 0, .int .u32 b1, .int .u32 b2, .int .u32 b3, .int .u32 b4] 0 _ (kA.below hv1)
  have kB := Blk.setAll_other (kB.ne hp) [.int .u32 b0, .int .u32 (ot / 4294967296), .int .u32 (ot % 4294967296), .int .u32 0, .int .u32 b1, .int .u32 b2, .int .u32 b3, .int .u32 b4] 0 _ (kB.below hv1)
  have kX := Blk.setAll_other (kX.ne hp) [.int .u32 b0, .int .u32 (ot / 4294967296), .int .u32 (ot % 4294967296), .int .u32 0, .int .u32 b1, .int .u32 b2, .int .u32 b3, .int .u32 b4] 0 _ (kX.below hv1)
  have kY := hblk.setAll_self [.int .u32 b0, .int .u32 (ot / 4294967296), .int .u32 (ot % 4294967296), .int .u32 0, .int .u32 b1, .int .u32 b2, .int .u32 b3, .int .u32 b4] rfl
  have bel := Below.setAll hgeY [.int .u32 b0, .int .u32 (ot / 4294967296), .int .u32 (ot % 4294967296), .int .u32 0, .int .u32 b1, .int .u32 b2, .int .u32 b3, .int .u32 b4] 0 _ (bel.trans (hv1.mono bel.size))
  generalize setAll v1 pY 0 [.int .u32 b0, .int .u32 (ot / 4294967296), .int .u32 (ot % 4294967296), .int .u32 0, .int .u32 b1, .int .u32 b2, .int .u32 b3, .int .u32 b4] = w2 at kA kB kX kY bel ⊢
  clear hv1 hblk hp q
  refine wp_region_hda (n := 14) _ 11 #[.int .u32 0, .int .u32 0, .int .u32 0, .int .u32 0, .int .u32 0, .int .u32 0, .int .u32 0, .int .u32 0] 49 (by kernel_rfl) (by kernel_rfl) rfl rfl rfl (fun a' w' => by go_simp) ?_
  apply Exists.intro
  refine ⟨fun v1 hv1 => ?_, fun v1 pZ hv1 hp hblk => ?_⟩
  · have xA := (kA.below hv1).ext
    have xB := (kB.below hv1).ext
    simp only [List.take_succ_cons, List.take_zero]
    repeat (go_big_quiet_step (first | (go_at_call 27; exact Calls.ext (ltree_any _ _ _ _ (by assumption) (by assumption))) | (go_at_call 29; exact Calls.ext (at_any _ _ _ _ _ _ _ _ _ _ _)) | (go_at_call 31; exact Calls.ext (for_any _ _ _ _ _ _ _ _ _ _))))
    exact wpQuiet_nil rfl
  have hblk : Blk v1 pZ #[.int .u32 0, .int .u32 0, .int .u32 0, .int .u32 0, .int .u32 0, .int .u32 0, .int .u32 0, .int .u32 0] 49 := hblk
  simp only [List.drop_succ_cons, List.drop_zero, Act.put, List.setIfInBounds_toArray, List.set_cons_zero, List.set_cons_succ]
  have c2 := hblk.cell
  have f2 := hblk.free
  have hgeZ : w.heap.size ≤ pZ := Nat.le_trans bel.size hp
  go_wp2_with fail
  clear c2 f2
  have q := Nat.le_trans bel.size hv1.size
  change Code.wp _ _ _ _ (setAll v1 pZ 0 [.int .u32 a0, .int .u32 (tr / 4294967296), .int .u32 (tr % 4294967296), .int .u32 1, .int .u32 a1, .int .u32 a2, .int .u32 a3, .int .u32 a4])
  have kA := Blk.setAll_other (kA.ne hp) [.int .u32 a0, .int .u32 (tr / 4294967296), .int .u32 (tr % 4294967296), .int .u32 1, .int .u32 a1, .int .u32 a2, .int .u32 a3, .int .u32 a4] 0 _ (kA.below hv1)
  have kB := Blk.setAll_other (kB.ne hp) [.int .u32 a0, .int .u32 (tr / 4294967296), .int .u32 (tr % 4294967296), .int .u32 1, .int .u32 a1, .int .u32 a2, .int .u32 a3, .int .u32 a4] 0 _ (kB.below hv1)
  have kX := Blk.setAll_other (kX.ne hp) [.int .u32 a0, .int .u32 (tr / 4294967296), .int .u32 (tr % 4294967296), .int .u32 1, .int .u32 a1, .int .u32 a2, .int .u32 a3, .int .u32 a4] 0 _ (kX.below hv1)
  have kY := Blk.setAll_other (kY.ne hp) [.int .u32 a0, .int .u32 (tr / 4294967296), .int .u32 (tr % 4294967296), .int .u32 1, .int .u32 a1, .int .u32 a2, .int .u32 a3, .int .u32 a4] 0 _ (kY.below hv1)
  have kZ := hblk.setAll_self [.int .u32 a0, .int .u32 (tr / 4294967296), .int .u32 (tr % 4294967296), .int .u32 1, .int .u32 a1, .int .u32 a2, .int .u32 a3, .int .u32 a4] rfl
  have bel := Below.setAll hgeZ [.int .u32 a0, .int .u32 (tr / 4294967296), .int .u32 (tr % 4294967296), .int .u32 1, .int .u32 a1, .int .u32 a2, .int .u32 a3, .int .u32 a4] 0 _ (bel.trans (hv1.mono bel.size))
  generalize setAll v1 pZ 0 [.int .u32 a0, .int .u32 (tr / 4294967296), .int .u32 (tr % 4294967296), .int .u32 1, .int .u32 a1, .int .u32 a2, .int .u32 a3, .int .u32 a4] = w3 at kA kB kX kY kZ bel ⊢
  clear hv1 hblk hp q
  refine wp_region_hda (n := 9) _ 12 #[.int .u32 0, .int .u32 0, .int .u32 0, .int .u32 0, .int .u32 0, .int .u32 0, .int .u32 0, .int .u32 0] 49 (by kernel_rfl) (by kernel_rfl) rfl rfl rfl (fun a' w' => by go_simp) ?_
  apply Exists.intro
  refine ⟨fun v1 hv1 => ?_, fun v1 pT hv1 hp hblk => ?_⟩
  · have xA := (kA.below hv1).ext
    have xB := (kB.below hv1).ext
    simp only [List.take_succ_cons, List.take_zero]
    repeat (go_big_quiet_step (first | (go_at_call 28; exact Calls.ext (tree_any _ _ _ (by assumption) (by assumption))) | (go_at_call 29; exact Calls.ext (at_any _ _ _ _ _ _ _ _ _ _ _))))
    exact wpQuiet_nil rfl
  have hblk : Blk v1 pT #[.int .u32 0, .int .u32 0, .int .u32 0, .int .u32 0, .int .u32 0, .int .u32 0, .int .u32 0, .int .u32 0] 49 := hblk
  simp only [List.drop_succ_cons, List.drop_zero, Act.put, List.setIfInBounds_toArray, List.set_cons_zero, List.set_cons_succ]
  have c2 := hblk.cell
  have f2 := hblk.free
  have hgeT : w.heap.size ≤ pT := Nat.le_trans bel.size hp
  go_wp2_with fail
  clear c2 f2
  have q := Nat.le_trans bel.size hv1.size
  change Code.wp _ _ _ _ (setAll v1 pT 0 [.int .u32 a0, .int .u32 (tr / 4294967296), .int .u32 (tr % 4294967296), .int .u32 2, .int .u32 0, .int .u32 a2, .int .u32 a3, .int .u32 0])
  have kA := Blk.setAll_other (kA.ne hp) [.int .u32 a0, .int .u32 (tr / 4294967296), .int .u32 (tr % 4294967296), .int .u32 2, .int .u32 0, .int .u32 a2, .int .u32 a3, .int .u32 0] 0 _ (kA.below hv1)
  have kB := Blk.setAll_other (kB.ne hp) [.int .u32 a0, .int .u32 (tr / 4294967296), .int .u32 (tr % 4294967296), .int .u32 2, .int .u32 0, .int .u32 a2, .int .u32 a3, .int .u32 0] 0 _ (kB.below hv1)
  have kX := Blk.setAll_other (kX.ne hp) [.int .u32 a0, .int .u32 (tr / 4294967296), .int .u32 (tr % 4294967296), .int .u32 2, .int .u32 0, .int .u32 a2, .int .u32 a3, .int .u32 0] 0 _ (kX.below hv1)
  have kY := Blk.setAll_other (kY.ne hp) [.int .u32 a0, .int .u32 (tr / 4294967296), .int .u32 (tr % 4294967296), .int .u32 2, .int .u32 0, .int .u32 a2, .int .u32 a3, .int .u32 0] 0 _ (kY.below hv1)
  have kZ := Blk.setAll_other (kZ.ne hp) [.int .u32 a0, .int .u32 (tr / 4294967296), .int .u32 (tr % 4294967296), .int .u32 2, .int .u32 0, .int .u32 a2, .int .u32 a3, .int .u32 0] 0 _ (kZ.below hv1)
  have kT := hblk.setAll_self [.int .u32 a0, .int .u32 (tr / 4294967296), .int .u32 (tr % 4294967296), .int .u32 2, .int .u32 0, .int .u32 a2, .int .u32 a3, .int .u32 0] rfl
  have bel := Below.setAll hgeT [.int .u32 a0, .int .u32 (tr / 4294967296), .int .u32 (tr % 4294967296), .int .u32 2, .int .u32 0, .int .u32 a2, .int .u32 a3, .int .u32 0] 0 _ (bel.trans (hv1.mono bel.size))
  generalize setAll v1 pT 0 [.int .u32 a0, .int .u32 (tr / 4294967296), .int .u32 (tr % 4294967296), .int .u32 2, .int .u32 0, .int .u32 a2, .int .u32 a3, .int .u32 0] = w4 at kA kB kX kY kZ kT bel ⊢
  clear hv1 hblk hp q
  have hxz := fun w => neq49 [a0, tr / 4294967296, tr % 4294967296, 0, a1, a2, a3, a4] [a0, tr / 4294967296, tr % 4294967296, 1, a1, a2, a3, a4] rfl rfl w
  have hzt := fun w => neq49 [a0, tr / 4294967296, tr % 4294967296, 1, a1, a2, a3, a4] [a0, tr / 4294967296, tr % 4294967296, 2, 0, a2, a3, 0] rfl rfl w
  have hxt := fun w => neq49 [a0, tr / 4294967296, tr % 4294967296, 0, a1, a2, a3, a4] [a0, tr / 4294967296, tr % 4294967296, 2, 0, a2, a3, 0] rfl rfl w
  have hxy := fun w => eql49 [a0, tr / 4294967296, tr % 4294967296, 0, a1, a2, a3, a4] [b0, ot / 4294967296, ot % 4294967296, 0, b1, b2, b3, b4] rfl rfl w
  have hab := fun w => eql64 [a0, a1, a2, a3, a4] [b0, b1, b2, b3, b4] rfl rfl w
  simp only [show decide ([a0, tr / 4294967296, tr % 4294967296, 0, a1, a2, a3, a4] = [a0, tr / 4294967296, tr % 4294967296, 1, a1, a2, a3, a4]) = false by simp] at hxz
  simp only [show decide ([a0, tr / 4294967296, tr % 4294967296, 1, a1, a2, a3, a4] = [a0, tr / 4294967296, tr % 4294967296, 2, 0, a2, a3, 0]) = false by simp] at hzt
  simp only [show decide ([a0, tr / 4294967296, tr % 4294967296, 0, a1, a2, a3, a4] = [a0, tr / 4294967296, tr % 4294967296, 2, 0, a2, a3, 0]) = false by simp] at hxt
  simp only [List.map_cons, List.map_nil, Bool.not_false] at hxz hzt hxt hxy hab
  have hthree : (tr = ot ∧ a0 = b0 ∧ a1 = b1 ∧ a2 = b2 ∧ a3 = b3 ∧ a4 = b4) ∨ (tr = ot ∧ ¬ (a0 = b0 ∧ a1 = b1 ∧ a2 = b2 ∧ a3 = b3 ∧ a4 = b4)) ∨ (tr == ot) = false := by
    by_cases h1 : tr = ot
    · by_cases h2 : a0 = b0 ∧ a1 = b1 ∧ a2 = b2 ∧ a3 = b3 ∧ a4 = b4
      · exact .inl ⟨h1, h2⟩
      · exact .inr (.inl ⟨h1, h2⟩)
    · exact .inr (.inr (by simpa using h1))
  refine wp_region_ext (by kernel_rfl) (by kernel_rfl) ?_
  have xA := kA.ext
  have xB := kB.ext
  have xX := kX.ext
  have xY := kY.ext
  have xZ := kZ.ext
  have xT := kT.ext
  rcases hthree with ⟨rfl, rfl, rfl, rfl, rfl, rfl⟩ | ⟨rfl, h2⟩ | h3
  case' inl =>
    simp only [decide_true] at hxy hab
    have h3 : (tr == tr) = true := by simp
  case' inr.inl =>
    simp only [show decide ([a0, tr / 4294967296, tr % 4294967296, 0, a1, a2, a3, a4] = [b0, tr / 4294967296, tr % 4294967296, 0, b1, b2, b3, b4]) = false by simp; omega] at hxy
    simp only [show decide ([a0, a1, a2, a3, a4] = [b0, b1, b2, b3, b4]) = false by simp; omega] at hab
    have h3 : (tr == tr) = true := by simp
    clear h2
  case' inr.inr =>
    have h4 : tr ≠ ot := by simpa using h3
    simp only [show decide ([a0, tr / 4294967296, tr % 4294967296, 0, a1, a2, a3, a4] = [b0, ot / 4294967296, ot % 4294967296, 0, b1, b2, b3, b4]) = false by simp; omega] at hxy
    clear h4
  all_goals
    repeat (go_big_quiet_step ((go_at_call 34; exact Calls.ext (knows04 _))))
    refine wpQuiet_nil ?_
    rintro _ ⟨y, rfl⟩
    go_wp2
    go_returns
    exact ⟨rfl, bel.trans (y.same.mono bel.size)⟩
end Go.Proofs.Ytkiaeepdpmcafaa
