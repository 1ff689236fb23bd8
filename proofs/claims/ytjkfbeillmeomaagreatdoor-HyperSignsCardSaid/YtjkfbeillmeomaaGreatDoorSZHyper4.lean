/-
  Layer 11: HyperKeys.
-/
import Derived.Test.YtjkfbeillmeomaaGreatDoorSZHyper3
namespace Go.Proofs.YtjkfbeillmeomaaGreatDoor
set_option maxRecDepth 100000
open Go.ChangeShapes Go.WideShapes Go.ChangeAt Go.RowKit
theorem many_22 (w : World) : Calls Tryz.prog 15 #[.agg (shC 2 2)] w fun e w' => e = .returned (.int .i64 16) ∧ Below w.heap.size w w' := many_any 2 2 w
set_option maxHeartbeats 4000000 in
theorem formed_bad (L V : Int) (gs : Array Value) (w : World) (hr : rightS L V = false) : Calls Tryz.prog 32 #[.agg (shC L V), .agg gs] w fun e w' => e = .returned (.bool false) ∧ Below w.heap.size w w' := by
  have b1 := (Below.refl w.heap.size w).alloc (Nat.le_refl _) (.cells (shC L V) 23 (0, 0))
  have b2 := b1.alloc b1.size (.cells gs 36 (0, 0))
  have Ksh := hid ((Blk.new (w := w) (n := w.heap.size) rfl (shC L V) 23).old (.cells gs 36 (0, 0)))
  have Hb := hid b2
  clear b1 b2
  go_enter Tryz.func32, Tryz.ntmps32
  go_wp2_with fail
  refine wp_region_flow 23 (List.range 23) [] [] (by kernel_rfl) (by kernel_rfl) ?_
  apply Exists.intro
  refine ⟨fun w0 hb0 hF0 => ?_, ?_⟩
  · skip
    have c0 := fun e : Ext w0 => hright_b L V false hr e.at_
    have xs : ∀ w', (∃ x : Ext w0, w' = x.at_) → ∃ T, Blk w' (w.heap.size) (shC L V) T := fun w' ⟨x, hx⟩ => ⟨_, hx ▸ (Ksh.out.below hb0).below x.same⟩
    simp only [pick, List.range, List.range.loop, List.getElem?_toArray, List.getElem?_cons_succ, List.getElem?_cons_zero, Option.toList_some, List.cons_append, List.nil_append]
    repeat (first | (go_big_quiet_want; refine quiet_load_blk 23 _ rfl (w.heap.size) rfl _ xs _ Tryz.underlying23 rfl 2 size_shape rfl ?_; go_big_quiet_on; simp only [Act.put, List.setIfInBounds_toArray, List.set_cons_zero, List.set_cons_succ]) | go_big_quiet_step (first | (go_at_call 17; with_reducible exact Calls.ext (c0 _))))
    exact wpQuiet_nil rfl
  refine AlChk.nil ?_
  refine Walk.fin fun w1 hw1 _ _ => ?_
  simp only [List.drop_succ_cons, List.drop_zero]
  have HBw1 := hid (Below.on Hb.out hw1)
  have hsw1 := HBw1.out.size
  have Kshw1 := hid (Ksh.out.below hw1)
  clear hw1
  go_wp2_with fail
  go_returns
  exact ⟨rfl, HBw1.out⟩
set_option maxHeartbeats 4000000 in
theorem verify_bad (L V : Int) (root pub : List Int) (gs : Array Value) (v : Value) (w : World) (hr : rightS L V = false) (hgs : gs.size = 34) : Calls Tryz.prog 16 #[.agg (pubC L V root pub).toArray, .agg gs, v] w fun e w' => e = .returned (.bool false) ∧ Below w.heap.size w w' := by
  have b1 := (Below.refl w.heap.size w).alloc (Nat.le_refl _) (.cells (pubC L V root pub).toArray 27 (0, 0))
  have b2 := b1.alloc b1.size (.cells gs 36 (0, 0))
  have Kp := hid ((Blk.new (w := w) (n := w.heap.size) rfl (pubC L V root pub).toArray 27).old (.cells gs 36 (0, 0)))
  have K2 := hid (Blk.new (w := w.alloc (.cells (pubC L V root pub).toArray 27 (0, 0))) (n := w.heap.size + 1) (by simp only [World.size_alloc]) gs 36)
  have Hb := hid b2
  have hbs := b2.size
  clear b1 b2
  go_enter Tryz.func16, Tryz.ntmps16
  go_wp2_with (first
     | (refine wpList_load_mid rfl 23 _ rfl (w.heap.size) 0 rfl _ _ (pubC_shape Kp.out) Tryz.underlying23 rfl (by exact size_shape) ?_)
     | (refine wpList_load_blk rfl 36 _ rfl (w.heap.size + 1) rfl _ 36 K2.out _ Tryz.underlying36 rfl 34 size_sig hgs ?_))
  refine (formed_bad L V gs _ hr).mono ?_
  rintro e w1 ⟨rfl, bw1⟩
  have HBw1 := hid (Below.on Hb.out bw1)
  have hsw1 := HBw1.out.size
  have Kpw1 := hid (Kp.out.below bw1)
  have K2w1 := hid (K2.out.below bw1)
  clear bw1
  go_wp2_with fail
  go_returns
  exact ⟨rfl, HBw1.out⟩
set_option maxHeartbeats 4000000 in
theorem sign_spent (L V i : Int) (root pub : List Int) (vs : Array Value) (v : Value) (w : World) (hr : rightS L V = true) (hi0 : 0 ≤ i) (hm : manyS L V ≤ i) : Calls Tryz.prog 7 #[.agg (pubC L V root pub).toArray, .agg vs, .int .i64 i, v] w fun e w' => e = .returned (.tuple #[.agg zSig.toArray, .int .i64 6]) ∧ Below w.heap.size w w' := by
  have b1 := (Below.refl w.heap.size w).alloc (Nat.le_refl _) (.cells (pubC L V root pub).toArray 27 (0, 0))
  have b2 := b1.alloc b1.size (.cells vs 29 (0, 0))
  have b3 := b2.alloc b2.size (.cells zSig.toArray 36 (0, 0))
  have Kr := hid (Blk.new (w := (w.alloc (.cells (pubC L V root pub).toArray 27 (0, 0))).alloc (.cells vs 29 (0, 0))) (n := w.heap.size + 1 + 1) (by simp only [World.size_alloc]) zSig.toArray 36)
  have Kp := hid (((Blk.new (w := w) (n := w.heap.size) rfl (pubC L V root pub).toArray 27).old (.cells vs 29 (0, 0))).old (.cells zSig.toArray 36 (0, 0)))
  have K2 := hid ((Blk.new (w := w.alloc (.cells (pubC L V root pub).toArray 27 (0, 0))) (n := w.heap.size + 1) (by simp only [World.size_alloc]) vs 29).old (.cells zSig.toArray 36 (0, 0)))
  have Hb := hid b3
  have hbs := b3.size
  clear b1 b2 b3
  have hi1 : ¬ (i < 0) := by omega
  go_enter Tryz.func7, Tryz.ntmps7
  go_wp2_with (refine wpList_load_mid rfl 23 _ rfl (w.heap.size) 0 rfl _ _ (pubC_shape Kp.out) Tryz.underlying23 rfl (by exact size_shape) ?_)
  refine (hright_b L V true hr _).mono ?_
  rintro e w1 ⟨rfl, bw1⟩
  have HBw1 := hid (Below.on Hb.out bw1)
  have hsw1 := HBw1.out.size
  have Kpw1 := hid (Kp.out.below bw1)
  have K2w1 := hid (K2.out.below bw1)
  have Krw1 := hid (Kr.out.below bw1)
  clear bw1
  go_wp2_with (refine wpList_load_mid rfl 23 _ rfl (w.heap.size) 0 rfl _ _ (pubC_shape Kpw1.out) Tryz.underlying23 rfl (by exact size_shape) ?_)
  refine (many_any L V _).mono ?_
  rintro e w2 ⟨rfl, bw2⟩
  have HBw2 := hid (Below.on HBw1.out bw2)
  have hsw2 := HBw2.out.size
  have Kpw2 := hid (Kpw1.out.below bw2)
  have K2w2 := hid (K2w1.out.below bw2)
  have Krw2 := hid (Krw1.out.below bw2)
  clear bw2
  go_wp2_with (
      refine wpList_store_blk rfl 36 _ _ rfl (w.heap.size + 1 + 1) zSig.toArray rfl rfl _ 36 Krw2.out 34 size_sig zSig_size zSig_size (sigC_ones _ _ _ rfl) ?_
      intro w9 hb9 hk9
      have HB9 := hid (hb9.below HBw2.out HBw2.out.size (by omega))
      have HK9 := hid hk9
      clear hb9 hk9)
  exact bodyPost_ret (v := .tuple #[.agg zSig.toArray, .int .i64 6]) (results_blk_tmp Tryz.results7 _ (w.heap.size + 1 + 1) rfl _ rfl _ 36 HK9.out _ Tryz.underlying36 rfl 34 size_sig zSig_size) rfl ⟨rfl, HB9.out⟩
set_option maxHeartbeats 4000000 in
theorem knows11 (w : World) : Calls Tryz.prog 6 #[] w fun e w' => e = .returned (.bool true) ∧ Below w.heap.size w w' := by
  have Hb := hid (Below.refl w.heap.size w)
  go_enter Tryz.func6, Tryz.ntmps6
  go_wp2_with fail
  refine (key_bad 0 0 _ _ (by decide)).mono ?_
  rintro e w1 ⟨rfl, bw1⟩
  have HBw1 := hid (Below.on Hb.out bw1)
  have hsw1 := HBw1.out.size
  clear bw1
  go_wp2_with (
        refine wpList_store_blk rfl 27 _ _ rfl (w1.heap.size) (pubC 0 0 zD zD).toArray rfl rfl _ 27 (Blk.new rfl zPub.toArray _) 66 size_public zPub_size zPub_size (pubC_ones _ _ _ _) ?_
        intro w40 hbw40 hkw40
        have hw40 := hbw40.below ((Below.refl w1.heap.size w1).alloc (Nat.le_refl _) _) (by simp only [World.size_alloc]; omega) (Nat.le_refl _)
        have HBw40 := hid (Below.on HBw1.out hw40)
        have Kxw40 := hid hkw40
        clear hbw40 hkw40 hw40)
  refine (sign_spent 1 1 2 zD zD _ _ _ (by decide) (by omega) (by decide)).mono ?_
  rintro e w2 ⟨rfl, bw2⟩
  have HBw2 := hid (Below.on HBw40.out bw2)
  have hsw2 := HBw2.out.size
  have Kxw2 := hid (Kxw40.out.below bw2)
  clear bw2
  go_wp2_with (
        refine wpList_store_blk rfl 36 _ _ rfl (w2.heap.size) zSig.toArray rfl rfl _ 36 (Blk.new rfl zSig.toArray _) 34 size_sig zSig_size zSig_size (sigC_ones _ _ _ rfl) ?_
        intro w41 hbw41 hkw41
        have hw41 := hbw41.below ((Below.refl w2.heap.size w2).alloc (Nat.le_refl _) _) (by simp only [World.size_alloc]; omega) (Nat.le_refl _)
        have HBw41 := hid (Below.on HBw2.out hw41)
        have Kyw41 := hid hkw41
        clear hbw41 hkw41 hw41)
  refine (many_22 _).mono ?_
  rintro e w3 ⟨rfl, bw3⟩
  have HBw3 := hid (Below.on HBw41.out bw3)
  have hsw3 := HBw3.out.size
  clear bw3
  go_wp2_with fail
  refine (verify_bad 0 0 zD zD _ _ _ (by decide) (by rfl)).mono ?_
  rintro e w4 ⟨rfl, bw4⟩
  have HBw4 := hid (Below.on HBw3.out bw4)
  have hsw4 := HBw4.out.size
  clear bw4
  go_wp2_with fail
  go_returns
  exact ⟨rfl, HBw4.out⟩
end Go.Proofs.YtjkfbeillmeomaaGreatDoor
