/-
  Layer 19: the document's rows.
-/
import Derived.Test.YthaicocfbmpnmaaDoorLLogE
namespace Go.Proofs.YthaicocfbmpnmaaDoor
open Go.ChangeShapes Go.WideShapes Go.ChangeAt Go.RowKit

theorem root3 (a b c : List Int) : rootL 3 [a, b, c] = nodeL (nodeL (leafL a) (leafL b)) (leafL c) := by
  rw [rootL_many 2 (by simp)]
  show nodeL (rootL 2 (List.take (halfN 3) [a, b, c])) (rootL 2 (List.drop (halfN 3) [a, b, c])) = _
  rw [show halfN 3 = 2 by decide]
  show nodeL (rootL 2 [a, b]) (rootL 2 [c]) = _
  rw [rootL_many 1 (by simp), rootL_one 1 rfl]
  show nodeL (nodeL (rootL 1 (List.take (halfN 2) [a, b])) (rootL 1 (List.drop (halfN 2) [a, b]))) _ = _
  rw [halfN_two]
  show nodeL (nodeL (rootL 1 [a]) (rootL 1 [b])) _ = _
  rw [rootL_one 0 rfl, rootL_one 0 rfl]
  rfl

set_option maxHeartbeats 4000000 in
set_option maxRecDepth 100000 in
theorem knows19 (w : World) (tab : ShaTab w) : Calls Tryd.prog 35 #[] w fun e w' => e = .returned (.bool true) ∧ Below w.heap.size w w' := by
  have CR := hid (fun (W : World) (g a b c : Nat) (h : Blk W g #[.slice (some ⟨a, 0, none⟩) 1 1, .slice (some ⟨b, 0, none⟩) 1 1, .slice (some ⟨c, 0, none⟩) 1 1] 67) (ka : TextAt W (some ⟨a, 0, none⟩) 1 1 [97]) (kb : TextAt W (some ⟨b, 0, none⟩) 1 1 [98]) (kc : TextAt W (some ⟨c, 0, none⟩) 1 1 [99]) (t : ShaTab W) => loRoot_good (some ⟨g, 0, none⟩) 3 3 [[97], [98], [99]] W (TextsAt.of_blk h rfl (Nat.le_refl _) (by omega) fun j hj => by
    match j, hj with
    | 0, _ => exact ⟨_, _, _, rfl, ka⟩
    | 1, _ => exact ⟨_, _, _, rfl, kb⟩
    | 2, _ => exact ⟨_, _, _, rfl, kc⟩) (by omega) (by simp [sumLen]) t)
  rw [root3] at CR
  have CLa := hid (fun (W : World) (k : TextAt W (some ⟨w.heap.size, 0, none⟩) 1 1 [97]) (t : ShaTab W) => loleaf_any (some ⟨w.heap.size, 0, none⟩) 1 1 [97] W k (by omega) t)
  have CLb := hid (fun (W : World) (k : TextAt W (some ⟨w.heap.size + 1, 0, none⟩) 1 1 [98]) (t : ShaTab W) => loleaf_any (some ⟨w.heap.size + 1, 0, none⟩) 1 1 [98] W k (by omega) t)
  have CLc := hid (fun (W : World) (k : TextAt W (some ⟨w.heap.size + 1 + 1, 0, none⟩) 1 1 [99]) (t : ShaTab W) => loleaf_any (some ⟨w.heap.size + 1 + 1, 0, none⟩) 1 1 [99] W k (by omega) t)
  have HLa := hid (Dg.leafL [97])
  have HLb := hid (Dg.leafL [98])
  have HLc := hid (Dg.leafL [99])
  generalize leafL [97] = LA at *
  generalize leafL [98] = LB at *
  generalize leafL [99] = LC at *
  have CN1 := hid (fun (W : World) (t : ShaTab W) => lonode_any LA LB W HLa.out HLb.out t)
  have HN1 := hid (Dg.nodeL LA LB)
  generalize nodeL LA LB = N1 at *
  have CN2 := hid (fun (W : World) (t : ShaTab W) => lonode_any N1 LC W HN1.out HLc.out t)
  have HX := hid (Dg.nodeL N1 LC)
  generalize nodeL N1 LC = X at *
  have Htab := hid tab
  have Hb := hid (Below.refl w.heap.size w)
  clear tab
  have hc1 := Go.Lib.run_convert_bytes_const (P := Tryd.prog) w 67 5 #[.int .u8 97] 1 1 Tryd.underlying67 Tryd.underlying5
  have tA := TextAt.made (w := w) (bs := [97]) (n := 1) (T := 5) (1, 2) rfl (by omega) (by simp)
  have hc2 := Go.Lib.run_convert_bytes_const (P := Tryd.prog) (w.alloc (Obj.cells #[.int .u8 97] 5 (1, 2))) 67 5 #[.int .u8 98] 1 1 Tryd.underlying67 Tryd.underlying5
  have tB := TextAt.made (w := (w.alloc (Obj.cells #[.int .u8 97] 5 (1, 2)))) (bs := [98]) (n := 1) (T := 5) (1, 2) rfl (by omega) (by simp)
  have hc3 := Go.Lib.run_convert_bytes_const (P := Tryd.prog) ((w.alloc (Obj.cells #[.int .u8 97] 5 (1, 2))).alloc (Obj.cells #[.int .u8 98] 5 (1, 2))) 67 5 #[.int .u8 99] 1 1 Tryd.underlying67 Tryd.underlying5
  have tC := TextAt.made (w := ((w.alloc (Obj.cells #[.int .u8 97] 5 (1, 2))).alloc (Obj.cells #[.int .u8 98] 5 (1, 2)))) (bs := [99]) (n := 1) (T := 5) (1, 2) rfl (by omega) (by simp)
  simp only [List.size_toArray, List.length_cons, List.length_nil, Nat.zero_add, World.size_alloc] at hc1 hc2 hc3
  simp only [List.map_cons, List.map_nil, World.size_alloc] at tA tB tC
  have b1 := (Below.refl w.heap.size w).alloc (Nat.le_refl _) (Obj.cells #[.int .u8 97] 5 (1, 2))
  have b2 := b1.alloc b1.size (Obj.cells #[.int .u8 98] 5 (1, 2))
  have b3 := b2.alloc b2.size (Obj.cells #[.int .u8 99] 5 (1, 2))
  have b4 := b3.alloc b3.size (Obj.cells #[.slice (some ⟨w.heap.size, 0, none⟩) 1 1, .slice (some ⟨w.heap.size + 1, 0, none⟩) 1 1, .slice (some ⟨w.heap.size + 1 + 1, 0, none⟩) 1 1] 67 (0, 0))
  have HtA := hid (((tA.below ((Below.refl _ _).alloc (Nat.le_refl _) (Obj.cells #[.int .u8 98] 5 (1, 2)))).below ((Below.refl _ _).alloc (Nat.le_refl _) (Obj.cells #[.int .u8 99] 5 (1, 2)))).below ((Below.refl _ _).alloc (Nat.le_refl _) (Obj.cells #[.slice (some ⟨w.heap.size, 0, none⟩) 1 1, .slice (some ⟨w.heap.size + 1, 0, none⟩) 1 1, .slice (some ⟨w.heap.size + 1 + 1, 0, none⟩) 1 1] 67 (0, 0))))
  have HtB := hid ((tB.below ((Below.refl _ _).alloc (Nat.le_refl _) (Obj.cells #[.int .u8 99] 5 (1, 2)))).below ((Below.refl _ _).alloc (Nat.le_refl _) (Obj.cells #[.slice (some ⟨w.heap.size, 0, none⟩) 1 1, .slice (some ⟨w.heap.size + 1, 0, none⟩) 1 1, .slice (some ⟨w.heap.size + 1 + 1, 0, none⟩) 1 1] 67 (0, 0))))
  have HtC := hid (tC.below ((Below.refl _ _).alloc (Nat.le_refl _) (Obj.cells #[.slice (some ⟨w.heap.size, 0, none⟩) 1 1, .slice (some ⟨w.heap.size + 1, 0, none⟩) 1 1, .slice (some ⟨w.heap.size + 1 + 1, 0, none⟩) 1 1] 67 (0, 0))))
  have HB0 := hid b4
  have kT : Blk ((((w.alloc (Obj.cells #[.int .u8 97] 5 (1, 2))).alloc (Obj.cells #[.int .u8 98] 5 (1, 2))).alloc (Obj.cells #[.int .u8 99] 5 (1, 2))).alloc (Obj.cells #[.slice (some ⟨w.heap.size, 0, none⟩) 1 1, .slice (some ⟨w.heap.size + 1, 0, none⟩) 1 1, .slice (some ⟨w.heap.size + 1 + 1, 0, none⟩) 1 1] 67 (0, 0))) (w.heap.size + 1 + 1 + 1) #[.slice (some ⟨w.heap.size, 0, none⟩) 1 1, .slice (some ⟨w.heap.size + 1, 0, none⟩) 1 1, .slice (some ⟨w.heap.size + 1 + 1, 0, none⟩) 1 1] 67 := Blk.new (w := (((w.alloc (Obj.cells #[.int .u8 97] 5 (1, 2))).alloc (Obj.cells #[.int .u8 98] 5 (1, 2))).alloc (Obj.cells #[.int .u8 99] 5 (1, 2)))) (n := w.heap.size + 1 + 1 + 1) (by simp only [World.size_alloc]) _ _
  have KT := hid kT
  clear b1 b2 b3 b4 tA tB tC kT
  go_enter Tryd.func35, Tryd.ntmps35
  go_wp2_with fail
  refine (CR.out _ _ _ _ _ KT.out HtA.out HtB.out HtC.out (Htab.out.below HB0.out)).mono ?_
  rintro e w5 ⟨rfl, b5⟩
  have HBw5 := hid (Below.on HB0.out b5)
  have hsw5 := HBw5.out.size
  have HtAw5 := hid (HtA.out.below b5)
  have HtBw5 := hid (HtB.out.below b5)
  have HtCw5 := hid (HtC.out.below b5)
  clear b5
  go_wp2_with (
        refine wpList_store_blk rfl 23 _ _ rfl (w5.heap.size) (X.map (Value.int .u8)).toArray rfl rfl _ 23 (Blk.new rfl (byteCells 32 []) _) 32 size_digest zsize HX.out.size (ints_one _ _) ?_
        intro w6 hbw6 hkw6
        have hw6 := hbw6.below ((Below.refl w5.heap.size w5).alloc (Nat.le_refl _) _) (by simp only [World.size_alloc]; omega) (Nat.le_refl _)
        have HBw6 := hid (Below.on HBw5.out hw6)
        have hsw6 := HBw6.out.size
        have Kxw6 := hid hkw6
        have hfw6 : w.heap.size ≤ w5.heap.size := HBw5.out.size
        have HtAw6 := hid (HtAw5.out.below hw6)
        have HtBw6 := hid (HtBw5.out.below hw6)
        have HtCw6 := hid (HtCw5.out.below hw6)
        clear hbw6 hkw6 hw6)
  refine (loRoot_good none 0 0 [] _ TextsAt.none_ (by omega) (by simp [sumLen]) (Htab.out.below HBw6.out)).mono ?_
  rintro e w7 ⟨rfl, bw7⟩
  have HBw7 := hid (Below.on HBw6.out bw7)
  have hsw7 := HBw7.out.size
  have Kxw7 := hid (Kxw6.out.below bw7)
  have HtAw7 := hid (HtAw6.out.below bw7)
  have HtBw7 := hid (HtBw6.out.below bw7)
  have HtCw7 := hid (HtCw6.out.below bw7)
  clear bw7
  go_wp2_with (
        refine wpList_store_blk rfl 23 _ _ rfl (w7.heap.size) (zD.map (Value.int .u8)).toArray rfl rfl _ 23 (Blk.new rfl (byteCells 32 []) _) 32 size_digest zsize Dg.zero.size (ints_one _ _) ?_
        intro w8 hbw8 hkw8
        have hw8 := hbw8.below ((Below.refl w7.heap.size w7).alloc (Nat.le_refl _) _) (by simp only [World.size_alloc]; omega) (Nat.le_refl _)
        have HBw8 := hid (Below.on HBw7.out hw8)
        have hsw8 := HBw8.out.size
        have Kxw8 := hid (Kxw7.out.below hw8)
        have hlxw8 := Kxw7.out.lt
        have Kyw8 := hid hkw8
        have hfw8 : w.heap.size ≤ w7.heap.size := HBw7.out.size
        have HtAw8 := hid (HtAw7.out.below hw8)
        have HtBw8 := hid (HtBw7.out.below hw8)
        have HtCw8 := hid (HtCw7.out.below hw8)
        clear hbw8 hkw8 hw8)
  have bal := (Below.refl w8.heap.size w8).alloc (Nat.le_refl _) (.cells #[.slice (some ⟨w.heap.size, 0, none⟩) 1 1] 67 (0, 0))
  refine (loFrom_bad _ 1 1 0 _ (by omega) (.inl (by omega))).mono ?_
  rintro e w9 ⟨rfl, bq⟩
  have bw9 := Below.trans bal (bq.mono (by simp only [World.size_alloc]; omega))
  have HBw9 := hid (Below.on HBw8.out bw9)
  have hsw9 := HBw9.out.size
  have Kxw9 := hid (Kxw8.out.below bw9)
  have Kyw9 := hid (Kyw8.out.below bw9)
  have HtAw9 := hid (HtAw8.out.below bw9)
  have HtBw9 := hid (HtBw8.out.below bw9)
  have HtCw9 := hid (HtCw8.out.below bw9)
  clear bw9 bal bq
  go_wp2_with fail
  refine wp_region_flow 27 (List.range 27) [] [] (by kernel_rfl) (by kernel_rfl) ?_
  apply Exists.intro
  refine ⟨fun w0 hb0 hF0 => ?_, ?_⟩
  · skip
    have x0 : ∀ w', (∃ x : Ext w0, w' = x.at_) → ∃ T, Blk w' (w5.heap.size) (X.map (Value.int .u8)).toArray T := fun w' ⟨x, hx⟩ => ⟨_, hx ▸ (Kxw9.out.below hb0).below x.same⟩
    have x1 : ∀ w', (∃ x : Ext w0, w' = x.at_) → ∃ T, Blk w' (w7.heap.size) (zD.map (Value.int .u8)).toArray T := fun w' ⟨x, hx⟩ => ⟨_, hx ▸ (Kyw9.out.below hb0).below x.same⟩
    have c0 := fun e : Ext w0 => CLa.out e.at_ ((HtAw9.out.below hb0).below e.same) ((Htab.out.below (Below.on HBw9.out hb0)).below e.same)
    have c1 := fun e : Ext w0 => CLb.out e.at_ ((HtBw9.out.below hb0).below e.same) ((Htab.out.below (Below.on HBw9.out hb0)).below e.same)
    have c2 := fun e : Ext w0 => CLc.out e.at_ ((HtCw9.out.below hb0).below e.same) ((Htab.out.below (Below.on HBw9.out hb0)).below e.same)
    have c3 := fun e : Ext w0 => CN1.out e.at_ ((Htab.out.below (Below.on HBw9.out hb0)).below e.same)
    have c4 := fun e : Ext w0 => CN2.out e.at_ ((Htab.out.below (Below.on HBw9.out hb0)).below e.same)
    have qx := fun W => eqD_self X HX.out.len W
    have qz := fun W => eqD_self zD Dg.zero.len W
    simp only [pick, List.range, List.range.loop, List.getElem?_toArray, List.getElem?_cons_succ, List.getElem?_cons_zero, Option.toList_some, List.cons_append, List.nil_append]
    repeat (first | (go_big_quiet_want; refine quiet_load_blk 23 _ rfl (w5.heap.size) rfl _ x0 _ Tryd.underlying23 rfl 32 size_digest HX.out.size ?_; go_big_quiet_on; simp only [Act.put, List.setIfInBounds_toArray, List.set_cons_zero, List.set_cons_succ]) | (go_big_quiet_want; refine quiet_load_blk 23 _ rfl (w7.heap.size) rfl _ x1 _ Tryd.underlying23 rfl 32 size_digest Dg.zero.size ?_; go_big_quiet_on; simp only [Act.put, List.setIfInBounds_toArray, List.set_cons_zero, List.set_cons_succ]) | (go_big_quiet_want; refine quiet_cmp _ _ rfl _ _ _ rfl rfl qx ?_; go_big_quiet_on; simp only [Act.put, List.setIfInBounds_toArray, List.set_cons_zero, List.set_cons_succ]) | (go_big_quiet_want; refine quiet_cmp _ _ rfl _ _ _ rfl rfl qz ?_; go_big_quiet_on; simp only [Act.put, List.setIfInBounds_toArray, List.set_cons_zero, List.set_cons_succ]) | go_big_quiet_step (first | (go_at_call 61; with_reducible exact Calls.ext (c0 _)) | (go_at_call 61; with_reducible exact Calls.ext (c1 _)) | (go_at_call 61; with_reducible exact Calls.ext (c2 _)) | (go_at_call 17; with_reducible exact Calls.ext (c3 _)) | (go_at_call 17; with_reducible exact Calls.ext (c4 _))))
    exact wpQuiet_nil rfl
  refine AlChk.nil ?_
  refine Walk.fin fun w10 hw10 _ _ => ?_
  simp only [List.drop_succ_cons, List.drop_zero]
  have HBw10 := hid (Below.on HBw9.out hw10)
  have hsw10 := HBw10.out.size
  have Kxw10 := hid (Kxw9.out.below hw10)
  have Kyw10 := hid (Kyw9.out.below hw10)
  clear hw10
  go_wp2_with fail
  go_returns
  exact ⟨rfl, HBw10.out⟩
end Go.Proofs.YthaicocfbmpnmaaDoor
