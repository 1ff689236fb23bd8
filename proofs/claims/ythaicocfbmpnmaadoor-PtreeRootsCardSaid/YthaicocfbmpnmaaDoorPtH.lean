/-
  Layer 17: PtreeNodes.
-/
import Derived.Test.YthaicocfbmpnmaaDoorPtG
namespace Go.Proofs.YthaicocfbmpnmaaDoor
open Go.ChangeShapes Go.WideShapes Go.ChangeAt Go.RowKit

theorem fill_part (place : Nat → Option (Nat × Nat)) (cells : Array Value) (i off : Nat) (v : Value) (rest : List (Nat × Value)) (hp : place i = some (off, v.cells.size)) (hs : off + v.cells.size ≤ cells.size) :
    Instr.fill place cells ((i, v) :: rest) = Instr.fill place (splice cells.toList off v.cells.toList).toArray rest := by
  rw [Instr.fill]
  simp only [hp]
  rw [if_neg (by simp only [ne_eq, not_true_eq_false, decide_false, Bool.false_or, decide_eq_true_eq]; omega)]
  congr 1
  have hf := fold_set v.cells.toList 0 off cells (by simpa using hs)
  apply Array.ext'
  rw [Nat.add_zero] at hf
  rw [← hf]
  have : v.cells.zipIdx = ((v.cells.toList.zipIdx 0)).toArray := by
    apply Array.ext'
    simp
  rw [this, List.foldl_toArray']
  all_goals first | rfl | simp

theorem entL_length {a b : List Int} (ha : Dg a) (hb : Dg b) : (entL a b).length = 64 := by simp [entL, ha.len, hb.len]
theorem ent_back {a b : List Int} (ha : Dg a) {w : World} {g : Nat} {T : TypeId} (h : Blk w g ((entL a b).map (Value.int .u8)).toArray T) : w.rangeAt g 32 (b.map (Value.int .u8)) := fun j v hv => by
  rw [h.cell, List.getElem?_toArray, entL, List.map_append, List.getElem?_append_right (by rw [List.length_map, ha.len]; omega), List.length_map, ha.len, show 32 + j - 32 = j by omega]
  exact hv
set_option maxRecDepth 100000 in
theorem build_ent {a b : List Int} (ha : Dg a) (hb : Dg b) (w : World) : (Instr.build 31 #[(0, .agg (a.map (Value.int .u8)).toArray), (1, .agg (b.map (Value.int .u8)).toArray)]).run Tryd.prog w = .ok (.agg ((entL a b).map (Value.int .u8)).toArray) w := by
  refine run_build w _ _ _ ?_
  obtain ⟨i0, hi, hz0⟩ := Option.map_eq_some_iff.1 (show (Tryd.prog.info? 31).map (·.zero) = some (some (.agg ((entL zD zD).map (Value.int .u8)).toArray)) by kernel_rfl)
  obtain ⟨fields, hu, hq⟩ : ∃ fields, Tryd.prog.underlying 31 = some (.struct fields) ∧ fields.toList.mapM (fun f => (Tryd.prog.info? f.type).map fun i => (f.offset, i.size)) = some [(0, 32), (32, 32)] := ⟨_, Tryd.underlying31, by kernel_rfl⟩
  have hz : (Value.agg ((entL zD zD).map (Value.int .u8)).toArray).cells = ((entL zD zD).map (Value.int .u8)).toArray := rfl
  unfold Program.built
  simp only [hi, hu, hz0, hq, hz]
  have hs0 : (Value.agg (a.map (Value.int .u8)).toArray).cells.size = 32 := ha.size
  have hs1 : (Value.agg (b.map (Value.int .u8)).toArray).cells.size = 32 := hb.size
  have t0 : splice (((entL zD zD).map (Value.int .u8)).toArray).toList 0 (Value.agg (a.map (Value.int .u8)).toArray).cells.toList = (entL a zD).map (Value.int .u8) := by
    show splice ((entL zD zD).map (Value.int .u8)) 0 (a.map (Value.int .u8)) = _
    unfold splice entL
    rw [List.take_zero, List.nil_append, List.length_map, ha.len, List.map_append, List.drop_append_of_le_length (by rw [List.length_map, Dg.zero.len]; omega), List.drop_eq_nil_of_le (by rw [List.length_map, Dg.zero.len]; omega), List.nil_append, List.map_append]
  have t1 : splice ((entL a zD).map (Value.int .u8)) 32 (Value.agg (b.map (Value.int .u8)).toArray).cells.toList = (entL a b).map (Value.int .u8) := by
    show splice ((entL a zD).map (Value.int .u8)) 32 (b.map (Value.int .u8)) = _
    unfold splice entL
    rw [List.map_append, List.take_append_of_le_length (by rw [List.length_map, ha.len]; omega), List.take_of_length_le (by rw [List.length_map, ha.len]; omega), List.length_map, hb.len, List.drop_eq_nil_of_le (by simp [ha.len, Dg.zero.len]), List.append_nil, List.map_append]
  rw [fill_part _ _ 0 0 _ _ (by rw [hs0]; rfl) (by rw [hs0, two_size Dg.zero Dg.zero]; omega), t0]
  rw [fill_part _ _ 1 32 _ _ (by rw [hs1]; rfl) (by rw [hs1, two_size ha Dg.zero]; omega), List.toList_toArray, t1, Instr.fill]
theorem quiet_build_two {op : Oper} {a : Act} {C : World → Prop} {K : Act → Prop} (x y : Operand) (u v r : Value) (ho : op.op = .build 31 #[(0, x), (1, y)]) (hx : a.eval x = u) (hy : a.eval y = v) (hr : ∀ w', (Instr.build 31 #[(0, u), (1, v)]).run Tryd.prog w' = .ok r w') (h : K (a.put op.dst r)) : op.quiet Tryd.prog a C K :=
  ⟨r, fun w' _ => by
    unfold Oper.quietAt execOp
    simp only [ho, List.map_toArray, List.map_cons, List.map_nil, hx, hy, Sem.run_bind, hr w', Result.andThen_ok, Sem.run_pure]
    simp [Oper.quietUpon], h⟩

set_option maxHeartbeats 4000000 in
set_option maxRecDepth 100000 in
theorem ptreeNodes_any (i c : List Int) (k : Int) (w : World) (hi_ : Dg i) (hc_ : Dg c) (tab : ShaTab w) :
    Calls Tryd.prog 3 #[.agg ((entL i c).map (Value.int .u8)).toArray, .int .i64 k] w fun e w' => e = .returned (.bool true) ∧ Below w.heap.size w w' := by
  have CE := hid (fun (W : World) (t : ShaTab W) => empty_any W t)
  have CRE := hid (fun (W : World) => refempty_any W)
  have Hds := hid (empN_each 257)
  have Hlen := hid (empN_length 257)
  generalize empN 257 = ds at *
  have CD := hid (fun (W : World) (g : Nat) (h : Blk W g (dcs ds) 23) => DigsAt.of_blk (n := 257) (cap := 257) h Hds.out Hlen.out (Nat.le_refl _) (by omega))
  have CL := hid (fun (W : World) (t : ShaTab W) => leaf_any i c W hi_ hc_ t)
  have CM := hid (fun (W : World) => refleafE_any i c W hi_ hc_)
  have CN := hid (fun (W : World) (t : ShaTab W) => lonode_any i c W hi_ hc_ t)
  have CO := hid (fun (W : World) => refnode_any i c W hi_ hc_)
  have HL := hid (Dg.leafE i c)
  have HM := hid (Dg.nodeL i c)
  have HBE := hid (fun W => build_ent hi_ hc_ W)
  generalize leafE i c = L at *
  generalize nodeL i c = M at *
  obtain ⟨b, hb1, hb2⟩ : ∃ b : Int, (∀ W : World, Calls Tryd.prog 19 #[.agg (i.map (Value.int .u8)).toArray, .int .i64 k] W fun e w' => e = .returned (.int .i64 b) ∧ Below W.heap.size W w') ∧ (∀ W : World, Calls Tryd.prog 20 #[.agg (i.map (Value.int .u8)).toArray, .int .i64 k] W fun e w' => e = .returned (.int .i64 b) ∧ Below W.heap.size W w') := by
    by_cases hk : k < 0 ∨ 255 < k
    · exact ⟨0, fun W => bit_out i k W hi_ hk, fun W => refbit_out i k W hi_ hk⟩
    · obtain ⟨n, rfl⟩ := Int.eq_ofNat_of_zero_le (show 0 ≤ k by omega)
      exact ⟨bitL i n, fun W => bit_in i n W hi_ (by omega), fun W => refbit_in i n W hi_ (by omega)⟩
  have CB := hid hb1
  have CC := hid hb2
  clear hb1 hb2
  have b1 := (Below.refl w.heap.size w).alloc (Nat.le_refl _) (.cells ((entL i c).map (Value.int .u8)).toArray 25 (0, 0))
  have Kx := hid (Blk.new (w := w) (n := w.heap.size) rfl ((entL i c).map (Value.int .u8)).toArray 25)
  have Hb := hid b1
  have hbz := b1.size
  have Hbs := hid (show w.heap.size + 1 = (w.alloc (.cells ((entL i c).map (Value.int .u8)).toArray 25 (0, 0))).heap.size by simp only [World.size_alloc])
  have Htab := hid tab
  clear b1 tab 
  go_enter Tryd.func3, Tryd.ntmps3
  go_wp2_with fail
  refine wp_region_flow 41 [] [] [(.c 0, [], []), (.c 1, [2, 3, 4, 5, 6, 7, 8, 9, 10, 11, 12, 13, 14, 15, 16, 17, 18, 19, 20, 21, 22, 23, 24, 25, 26, 27, 28, 29, 30, 31, 32, 33, 34, 35, 36, 37, 38, 39, 40], [])] (by kernel_rfl) (by kernel_rfl) ?_
  apply Exists.intro
  refine ⟨fun w0 hb0 hF0 => wpQuiet_nil rfl, ?_⟩
  refine AlChk.nil ?_
  refine Walk.call rfl 13 #[] (fun v w' => ∃ g, v = .slice (some ⟨g, 0, none⟩) 257 257 ∧ Blk w' g (dcs ds) 23) (fun v w' w'' h k => by obtain ⟨g, h1, h2⟩ := h; exact ⟨g, h1, h2.below k⟩) rfl (fun w1 hb1 hF1 => ⟨by go_simp, ?_⟩) ?_
  · refine (CE.out w1 (Htab.out.below (Below.on Hb.out hb1))).mono ?_
    rintro e w2 ⟨rfl, b2, k2⟩
    exact ⟨_, rfl, b2, _, rfl, k2⟩
  rintro v0 w1 hb1 hF1 ⟨g, rfl, _⟩
  apply Exists.intro
  refine ⟨fun w0 hb0 hF0 => wpQuiet_nil rfl, ?_⟩
  refine AlChk.nil ?_
  refine Walk.call rfl 14 #[] (fun v w' => ∃ a c, v = .slice a 257 c ∧ DigsAt w' a 257 c ds) (fun v w' w'' h k => by obtain ⟨a, c, h1, h2⟩ := h; exact ⟨a, c, h1, h2.below k⟩) rfl (fun w1 hb1 hF1 => ⟨by go_simp, ?_⟩) ?_
  · refine (CRE.out w1).mono ?_
    rintro e w2 ⟨v, rfl, b2, o2⟩
    obtain ⟨a, c', rfl, hd, _⟩ := OwnD.digs o2
    rw [Hlen.out] at hd ⊢
    exact ⟨_, rfl, b2, a, c', rfl, hd⟩
  rintro v1 w2 hb2 hF2 ⟨a2, c2, rfl, _⟩
  apply Exists.intro
  refine ⟨fun w0 hb0 hF0 => ?_, ?_⟩
  · skip
    obtain ⟨⟨_, g', hg', kg⟩, a3, c3, he3, hd3⟩ := hF0
    cases hg'
    cases he3
    have tx : ∀ w', (∃ x : Ext w0, w' = x.at_) → ∃ T, Blk w' (w.heap.size) ((entL i c).map (Value.int .u8)).toArray T := fun w' ⟨x, hx⟩ => ⟨_, hx ▸ (Kx.out.below hb0).below x.same⟩
    have t0_ : ∀ w', (∃ x : Ext w0, w' = x.at_) → w'.rangeAt (w.heap.size) 0 (i.map (Value.int .u8)) := fun w' ⟨x, hx⟩ => hx ▸ ent_front hi_ ((Kx.out.below hb0).below x.same)
    have t1_ : ∀ w', (∃ x : Ext w0, w' = x.at_) → w'.rangeAt (w.heap.size) 32 (c.map (Value.int .u8)) := fun w' ⟨x, hx⟩ => hx ▸ ent_back hi_ ((Kx.out.below hb0).below x.same)
    have s0 := fun e : Ext w0 => same_any (some ⟨g, 0, none⟩) a2 257 257 c2 ds e.at_ (CD.out _ _ (kg.below e.same)) (hd3.below e.same)
    have s1 := fun e : Ext w0 => CL.out e.at_ (Htab.out.below (Below.on (Below.on Hb.out hb0) e.same))
    have s2 := fun e : Ext w0 => CM.out e.at_
    have s3 := fun e : Ext w0 => CN.out e.at_ (Htab.out.below (Below.on (Below.on Hb.out hb0) e.same))
    have s4 := fun e : Ext w0 => CO.out e.at_
    have s5 := fun e : Ext w0 => CB.out e.at_
    have s6 := fun e : Ext w0 => CC.out e.at_
    have s7 := fun e : Ext w0 => knows17 e.at_ (Htab.out.below (Below.on (Below.on Hb.out hb0) e.same))
    have q1 := fun W => eqD_self L HL.out.len W
    have q2 := fun W => eqD_self M HM.out.len W
    clear kg hd3
    simp only [pick, List.getElem?_toArray, List.getElem?_cons_succ, List.getElem?_cons_zero, Option.toList_some, List.cons_append, List.nil_append, Act.put, List.setIfInBounds_toArray, List.set_cons_zero, List.set_cons_succ]
    repeat (first | (go_big_quiet_want; refine quiet_load_blk 25 _ rfl (w.heap.size) rfl _ tx _ Tryd.underlying25 rfl 64 size_entry (two_size hi_ hc_) ?_; go_big_quiet_on; simp only [Act.put, List.setIfInBounds_toArray, List.set_cons_zero, List.set_cons_succ]) | (go_big_quiet_want; refine quiet_load_mid 23 _ rfl (w.heap.size) 0 rfl _ t0_ _ Tryd.underlying23 rfl (by rw [List.length_map, hi_.len]; exact size_digest) ?_; go_big_quiet_on; simp only [Act.put, List.setIfInBounds_toArray, List.set_cons_zero, List.set_cons_succ]) | (go_big_quiet_want; refine quiet_load_mid 23 _ rfl (w.heap.size) 32 rfl _ t1_ _ Tryd.underlying23 rfl (by rw [List.length_map, hc_.len]; exact size_digest) ?_; go_big_quiet_on; simp only [Act.put, List.setIfInBounds_toArray, List.set_cons_zero, List.set_cons_succ]) | (go_big_quiet_want; refine quiet_cmp _ _ rfl _ _ _ rfl rfl q1 ?_; go_big_quiet_on; simp only [Act.put, List.setIfInBounds_toArray, List.set_cons_zero, List.set_cons_succ]) | (go_big_quiet_want; refine quiet_cmp _ _ rfl _ _ _ rfl rfl q2 ?_; go_big_quiet_on; simp only [Act.put, List.setIfInBounds_toArray, List.set_cons_zero, List.set_cons_succ]) | (go_big_quiet_want; refine quiet_build_two (.tmp 12) (.tmp 14) _ _ _ rfl rfl rfl HBE.out ?_; go_big_quiet_on; simp only [Act.put, List.setIfInBounds_toArray, List.set_cons_zero, List.set_cons_succ]) | go_big_quiet_step (first | (go_at_call 12; with_reducible exact Calls.ext (s0 _)) | (go_at_call 15; with_reducible exact Calls.ext (s1 _)) | (go_at_call 16; with_reducible exact Calls.ext (s2 _)) | (go_at_call 17; with_reducible exact Calls.ext (s3 _)) | (go_at_call 18; with_reducible exact Calls.ext (s4 _)) | (go_at_call 19; with_reducible exact Calls.ext (s5 _)) | (go_at_call 20; with_reducible exact Calls.ext (s6 _)) | (go_at_call 21; with_reducible exact Calls.ext (s7 _))))
    exact wpQuiet_nil rfl
  refine AlChk.nil ?_
  refine Walk.fin fun w9 h9 hF9 _ => ?_
  simp only [List.drop_succ_cons, List.drop_zero]
  have HB9 := hid (Below.on Hb.out h9)
  clear h9 hF9
  go_wp2_with fail
  go_returns
  exact ⟨by first | rfl | simp, HB9.out⟩
end Go.Proofs.YthaicocfbmpnmaaDoor
