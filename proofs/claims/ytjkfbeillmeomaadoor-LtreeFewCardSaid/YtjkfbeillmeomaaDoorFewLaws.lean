/-
  Layer 9: of few digests.
-/
import Derived.Test.YtjkfbeillmeomaaDoorLtreeLaws
import Derived.Test.YtjkfbeillmeomaaDoorNLate
namespace Go.Proofs.YtjkfbeillmeomaaDoor
open Go.ChangeShapes Go.WideShapes Go.ChangeAt Go.RowKit

theorem comp_two (da db pub ad : List Int) : compZ pub ad 2 0 [da, db] = (joinZ da db pub (setAd ad 0 0 0)) := by
  rw [compZ_more _ _ _ _ (by simp), compZ_one _ _ _ _ (by rw [aboveZ_length]; simp)]
  simp [aboveZ]
theorem comp_three (da db dc pub ad : List Int) : compZ pub ad 3 0 [da, db, dc] = (joinZ (joinZ da db pub (setAd ad 0 0 0)) dc pub (setAd ad 1 0 0)) := by
  rw [compZ_more _ _ _ _ (by simp), show aboveZ pub ad ((0 : Nat) : Int) [da, db, dc] = [(joinZ da db pub (setAd ad 0 0 0)), dc] by simp [aboveZ], compZ_more _ _ _ _ (by simp), compZ_one _ _ _ _ (by rw [aboveZ_length]; simp)]
  simp [aboveZ]
theorem compress_few1 (g : Nat) (da pub ad : List Int) (hpub : Dg pub) (had : Aw ad) (W : World) (t : ShaTab W) (h : DigsAt W (some ⟨g, 0, none⟩) 1 3 [da]) :
    Calls Tryd.prog 28 #[.slice (some ⟨g, 0, none⟩) 1 3, (.agg (pub.map (Value.int .u8)).toArray), (.agg (ad.map (Value.int .u32)).toArray)] W fun x w' => x = .returned (.tuple #[(.agg (da.map (Value.int .u8)).toArray), .int .i64 0]) ∧ Below W.heap.size W w' := by
  have := compress_good (some ⟨g, 0, none⟩) 1 3 [da] pub ad W h (by omega) hpub had t
  rw [compZ_one _ _ _ _ (Nat.le_refl _)] at this
  exact this
theorem compress_few2 (g : Nat) (da db pub ad : List Int) (hpub : Dg pub) (had : Aw ad) (W : World) (t : ShaTab W) (h : DigsAt W (some ⟨g, 0, none⟩) 2 3 [da, db]) :
    Calls Tryd.prog 28 #[.slice (some ⟨g, 0, none⟩) 2 3, (.agg (pub.map (Value.int .u8)).toArray), (.agg (ad.map (Value.int .u32)).toArray)] W fun x w' => x = .returned (.tuple #[(.agg ((joinZ da db pub (setAd ad 0 0 0)).map (Value.int .u8)).toArray), .int .i64 0]) ∧ Below W.heap.size W w' := by
  have := compress_good (some ⟨g, 0, none⟩) 2 3 [da, db] pub ad W h (by omega) hpub had t
  rw [comp_two] at this
  exact this
theorem compress_few3 (g : Nat) (da db dc pub ad : List Int) (hpub : Dg pub) (had : Aw ad) (W : World) (t : ShaTab W) (h : DigsAt W (some ⟨g, 0, none⟩) 3 3 [da, db, dc]) :
    Calls Tryd.prog 28 #[.slice (some ⟨g, 0, none⟩) 3 3, (.agg (pub.map (Value.int .u8)).toArray), (.agg (ad.map (Value.int .u32)).toArray)] W fun x w' => x = .returned (.tuple #[(.agg ((joinZ (joinZ da db pub (setAd ad 0 0 0)) dc pub (setAd ad 1 0 0)).map (Value.int .u8)).toArray), .int .i64 0]) ∧ Below W.heap.size W w' := by
  have := compress_good (some ⟨g, 0, none⟩) 3 3 [da, db, dc] pub ad W h (by omega) hpub had t
  rw [comp_three] at this
  exact this

set_option maxRecDepth 100000 in
theorem quiet_cut_h {op : Oper} {a : Act} {C : World → Prop} {K : Act → Prop} (x y : Operand) (ho : op.op = .slice 28 x none (some y) none) (g len cap n : Nat) (hx : a.eval x = .slice (some ⟨g, 0, none⟩) len cap) (hy : a.eval y = .int .i64 n) (hn : n ≤ cap)
    (h : K (a.put op.dst (.slice (some ⟨g, 0, none⟩) n cap))) : op.quiet Tryd.prog a C K :=
  ⟨.slice (some ⟨g, 0, none⟩) n cap, fun w' _ => by
    have hr := run_cutd_h (P := Tryd.prog) Tryd.underlying28 size_digest (some ⟨g, 0, none⟩) len cap (n : Int) w' (by omega) (by omega)
    rw [Int.toNat_natCast] at hr
    have he : Tryd.prog.elem 28 = 23 := by simp [Program.elem, Tryd.underlying28]
    have hs := run_sliceAt_slice (P := Tryd.prog) (w := w') 28 (.slice (some ⟨g, 0, none⟩) len cap) none (some (.int .i64 n)) none (by rw [he]; exact Tryd.underlying28)
    rw [hr] at hs
    unfold Oper.quietAt execOp
    simp only [ho, hx, hy, Option.map_none, Option.map_some, Sem.run_bind, Sem.run_pure, Result.andThen_ok, hs]
    simp [Oper.quietUpon], h⟩
set_option maxRecDepth 100000 in
theorem wpList_build_three {ops : Array Oper} {rest : List Oper} {o : Oper} {A : Act} {w : World} {Q : Exit → Act → World → Prop} (hgd : o.guard = none) (e1 e2 e3 : Operand) (ho : o.op = .buildSlice 28 3 #[(0, e1), (1, e2), (2, e3)]) {x y z : List Int} (h1 : A.eval e1 = (.agg (x.map (Value.int .u8)).toArray)) (h2 : A.eval e2 = (.agg (y.map (Value.int .u8)).toArray)) (h3 : A.eval e3 = (.agg (z.map (Value.int .u8)).toArray)) (hx : Dg x) (hy : Dg y) (hz : Dg z)
    (h : ∀ g w', w.heap.size ≤ g → Below w.heap.size w w' → Blk w' g (dcs [x, y, z]) 23 → wpList Tryd.prog ops Q rest (A.put o.dst (.slice (some ⟨g, 0, none⟩) 3 3)) w') : wpList Tryd.prog ops Q (o :: rest) A w :=
  wpList_plain hgd fun K hK => by
    unfold Oper.wp execOp
    simp only [ho, List.map_toArray, List.map_cons, List.map_nil, h1, h2, h3, Sem.run_bind, run_build_three hx hy hz, Result.andThen_ok, Sem.run_pure, Oper.upon_value]
    exact hK _ _ (h w.heap.size _ (Nat.le_refl _) ((Below.refl _ _).alloc (Nat.le_refl _) _) (Blk.new rfl _ _))

set_option maxHeartbeats 4000000 in
set_option maxRecDepth 100000 in
theorem ltreeFew_any (da db dc pub ad : List Int) (w : World) (tab : ShaTab w) (hda : Dg da) (hdb : Dg db) (hdc : Dg dc) (hpub : Dg pub) (had : Aw ad) :
    Calls Tryd.prog 8 #[(.agg (da.map (Value.int .u8)).toArray), (.agg (db.map (Value.int .u8)).toArray), (.agg (dc.map (Value.int .u8)).toArray), (.agg (pub.map (Value.int .u8)).toArray), (.agg (ad.map (Value.int .u32)).toArray)] w fun e w' => e = .returned (.bool true) ∧ Below w.heap.size w w' := by
  have HT := hid (Dg.join da db pub (setAd ad 0 0 0))
  have HU := hid (Dg.join (joinZ da db pub (setAd ad 0 0 0)) dc pub (setAd ad 1 0 0))
  have HA0 := hid (had.set (f := 0) (s := 0) (p := 0) (by omega) (by omega) (by omega))
  have HA1 := hid (had.set (f := 1) (s := 0) (p := 0) (by omega) (by omega) (by omega))
  have C2 := hid (fun (g : Nat) (W : World) (t : ShaTab W) (h : DigsAt W (some ⟨g, 0, none⟩) 2 3 [da, db]) => compress_few2 g da db pub ad hpub had W t h)
  have C3 := hid (fun (g : Nat) (W : World) (t : ShaTab W) (h : DigsAt W (some ⟨g, 0, none⟩) 3 3 [da, db, dc]) => compress_few3 g da db dc pub ad hpub had W t h)
  have J1 := hid (fun (W : World) (t : ShaTab W) => ljoin_any da db pub (setAd ad 0 0 0) W hda hdb hpub HA0.out t)
  have J2 := hid (fun (W : World) (t : ShaTab W) => ljoin_any (joinZ da db pub (setAd ad 0 0 0)) dc pub (setAd ad 1 0 0) W HT.out hdc hpub HA1.out t)
  generalize (joinZ (joinZ da db pub (setAd ad 0 0 0)) dc pub (setAd ad 1 0 0)) = UU at *
  generalize (joinZ da db pub (setAd ad 0 0 0)) = TT at *
  have hds : ∀ d ∈ [da, db, dc], Dg d := by simp [hda, hdb, hdc]
  have b1 := (Below.refl w.heap.size w).alloc (Nat.le_refl _) (.cells (da.map (Value.int .u8)).toArray 23 (0, 0))
  have b2 := b1.alloc b1.size (.cells (db.map (Value.int .u8)).toArray 23 (0, 0))
  have b3 := b2.alloc b2.size (.cells (dc.map (Value.int .u8)).toArray 23 (0, 0))
  have b4 := b3.alloc b3.size (.cells (pub.map (Value.int .u8)).toArray 23 (0, 0))
  have b5 := b4.alloc b4.size (.cells (ad.map (Value.int .u32)).toArray 26 (0, 0))
  have Ka := hid (((((Blk.new (w := w) (n := w.heap.size) rfl (da.map (Value.int .u8)).toArray 23).old (.cells (db.map (Value.int .u8)).toArray 23 (0, 0))).old (.cells (dc.map (Value.int .u8)).toArray 23 (0, 0))).old (.cells (pub.map (Value.int .u8)).toArray 23 (0, 0))).old (.cells (ad.map (Value.int .u32)).toArray 26 (0, 0)))
  have Kb := hid ((((Blk.new (w := (w.alloc (.cells (da.map (Value.int .u8)).toArray 23 (0, 0)))) (n := w.heap.size + 1) (by simp only [World.size_alloc]) (db.map (Value.int .u8)).toArray 23).old (.cells (dc.map (Value.int .u8)).toArray 23 (0, 0))).old (.cells (pub.map (Value.int .u8)).toArray 23 (0, 0))).old (.cells (ad.map (Value.int .u32)).toArray 26 (0, 0)))
  have Kc := hid (((Blk.new (w := ((w.alloc (.cells (da.map (Value.int .u8)).toArray 23 (0, 0))).alloc (.cells (db.map (Value.int .u8)).toArray 23 (0, 0)))) (n := w.heap.size + 1 + 1) (by simp only [World.size_alloc]) (dc.map (Value.int .u8)).toArray 23).old (.cells (pub.map (Value.int .u8)).toArray 23 (0, 0))).old (.cells (ad.map (Value.int .u32)).toArray 26 (0, 0)))
  have Kp := hid ((Blk.new (w := (((w.alloc (.cells (da.map (Value.int .u8)).toArray 23 (0, 0))).alloc (.cells (db.map (Value.int .u8)).toArray 23 (0, 0))).alloc (.cells (dc.map (Value.int .u8)).toArray 23 (0, 0)))) (n := w.heap.size + 1 + 1 + 1) (by simp only [World.size_alloc]) (pub.map (Value.int .u8)).toArray 23).old (.cells (ad.map (Value.int .u32)).toArray 26 (0, 0)))
  have Kad := hid (Blk.new (w := ((((w.alloc (.cells (da.map (Value.int .u8)).toArray 23 (0, 0))).alloc (.cells (db.map (Value.int .u8)).toArray 23 (0, 0))).alloc (.cells (dc.map (Value.int .u8)).toArray 23 (0, 0))).alloc (.cells (pub.map (Value.int .u8)).toArray 23 (0, 0)))) (n := w.heap.size + 1 + 1 + 1 + 1) (by simp only [World.size_alloc]) (ad.map (Value.int .u32)).toArray 26)
  have Hb := hid b5
  have HzA := hid zsize
  have hbz := b5.size
  have Hbs := hid (show w.heap.size + 1 + 1 + 1 + 1 + 1 = (((((w.alloc (.cells (da.map (Value.int .u8)).toArray 23 (0, 0))).alloc (.cells (db.map (Value.int .u8)).toArray 23 (0, 0))).alloc (.cells (dc.map (Value.int .u8)).toArray 23 (0, 0))).alloc (.cells (pub.map (Value.int .u8)).toArray 23 (0, 0))).alloc (.cells (ad.map (Value.int .u32)).toArray 26 (0, 0))).heap.size by simp only [World.size_alloc])
  have Htab := hid tab
  clear b1 b2 b3 b4 b5 tab
  go_enter Tryd.func8, Tryd.ntmps8
  go_wp2_with (first
     | (refine wpList_load_blk rfl 23 _ rfl (w.heap.size) rfl _ 23 Ka.out _ Tryd.underlying23 rfl 32 size_digest hda.size ?_)
     | (refine wpList_load_blk rfl 23 _ rfl (w.heap.size + 1) rfl _ 23 Kb.out _ Tryd.underlying23 rfl 32 size_digest hdb.size ?_)
     | (refine wpList_load_blk rfl 23 _ rfl (w.heap.size + 1 + 1) rfl _ 23 Kc.out _ Tryd.underlying23 rfl 32 size_digest hdc.size ?_)
     | (
        refine wpList_build_three rfl _ _ _ rfl (x := da) (y := db) (z := dc) rfl rfl rfl hda hdb hdc ?_
        intro g w1 hg hbw1 kl
        have hgl : w.heap.size + 1 + 1 + 1 + 1 + 1 ≤ g := by rw [Hbs.out]; exact hg
        have HBw1 := hid (Below.on Hb.out hbw1)
        have hsw1 := HBw1.out.size
        have Klw1 := hid kl
        have Kaw1 := hid (Ka.out.below hbw1)
        have Kbw1 := hid (Kb.out.below hbw1)
        have Kcw1 := hid (Kc.out.below hbw1)
        have Kpw1 := hid (Kp.out.below hbw1)
        have Kadw1 := hid (Kad.out.below hbw1)
        clear hbw1 kl hg))
  refine wp_region_late 9 7 9 [0, 1, 2, 3, 4, 5, 6, 7] [8] [(.b 8, [], [])] (by kernel_rfl) (by kernel_rfl) rfl (by kernel_rfl) (fun _ _ d _ _ h => by cases d <;> exact h) ?_
  simp only [late]
  apply Exists.intro
  refine ⟨fun w0 hb0 hF0 => ?_, ?_⟩
  · skip
    have x0 : ∀ w', (∃ x : Ext w0, w' = x.at_) → ∃ T, Blk w' (w.heap.size + 1 + 1 + 1) (pub.map (Value.int .u8)).toArray T := fun w' ⟨x, hx⟩ => ⟨_, hx ▸ (Kpw1.out.below hb0).below x.same⟩
    have x1 : ∀ w', (∃ x : Ext w0, w' = x.at_) → ∃ T, Blk w' (w.heap.size + 1 + 1 + 1 + 1) (ad.map (Value.int .u32)).toArray T := fun w' ⟨x, hx⟩ => ⟨_, hx ▸ (Kadw1.out.below hb0).below x.same⟩
    have c0 := fun e : Ext w0 => compress_few1 g da pub ad hpub had e.at_ ((Htab.out.below (Below.on HBw1.out hb0)).below e.same) ((DigsAt.of_blk (n := 3) (cap := 3) ((Klw1.out.below hb0).below e.same) hds rfl (by omega) (by omega)).head 1 (by omega))
    simp only [pick, List.getElem?_toArray, List.getElem?_cons_succ, List.getElem?_cons_zero, Option.toList_some, List.cons_append, List.nil_append]
    repeat (first | (go_big_quiet_want; refine quiet_load_blk 23 _ rfl (w.heap.size + 1 + 1 + 1) rfl _ x0 _ Tryd.underlying23 rfl 32 size_digest hpub.size ?_; go_big_quiet_on; simp only [Act.put, List.setIfInBounds_toArray, List.set_cons_zero, List.set_cons_succ]) | (go_big_quiet_want; refine quiet_load_blk 26 _ rfl (w.heap.size + 1 + 1 + 1 + 1) rfl _ x1 _ Tryd.underlying26 rfl 8 sizeAdrs had.size ?_; go_big_quiet_on; simp only [Act.put, List.setIfInBounds_toArray, List.set_cons_zero, List.set_cons_succ]) | (go_big_quiet_want; refine quiet_cut_h _ _ rfl g 3 3 1 rfl rfl (by omega) ?_; go_big_quiet_on; simp only [Act.put, List.setIfInBounds_toArray, List.set_cons_zero, List.set_cons_succ]) | go_big_quiet_step (first | (go_at_call 28; with_reducible exact Calls.ext (c0 _))))
    exact wpQuiet_nil rfl
  refine AlChk.one rfl (fun b => .pointer (some ⟨b, 0, none⟩)) (.cells (byteCells 32 []) 23 (0, 0)) rfl (fun w3 hb3 hF3 => by go_simp; rfl) ?_
  refine AlChk.nil ?_
  refine Walk.blk rfl (fun b => .pointer (some ⟨b, 0, none⟩)) (.cells (byteCells 32 []) 23 (0, 0)) (by simp) ?_
  intro bw2 wz hbz_ hFz hgew2 _
  apply Exists.intro
  refine ⟨fun w4 hb4 hF4 => wpQuiet_nil rfl, ?_⟩
  refine AlChk.nil ?_
  refine Walk.fin fun w2 hw2 hFw2 _ => ?_
  simp only [List.drop_succ_cons, List.drop_zero]
  have kbw2 : Blk w2 bw2 (byteCells 32 []) 23 := hFw2.2
  have Kzw2 := hid kbw2
  have hgww2 : w.heap.size ≤ bw2 := Nat.le_trans HBw1.out.size hgew2
  clear hbz_ hFz hFw2 kbw2
  have hnaw2 : w.heap.size ≠ bw2 := by have := Kaw1.out.lt; omega
  have hnbw2 : w.heap.size + 1 ≠ bw2 := by have := Kbw1.out.lt; omega
  have hncw2 : w.heap.size + 1 + 1 ≠ bw2 := by have := Kcw1.out.lt; omega
  have hnpw2 : w.heap.size + 1 + 1 + 1 ≠ bw2 := by have := Kpw1.out.lt; omega
  have hnadw2 : w.heap.size + 1 + 1 + 1 + 1 ≠ bw2 := by have := Kadw1.out.lt; omega
  have hnlw2 : g ≠ bw2 := by have := Klw1.out.lt; omega
  have HBw2 := hid (Below.on HBw1.out hw2)
  have hsw2 := HBw2.out.size
  have Kaw2 := hid (Kaw1.out.below hw2)
  have Kbw2 := hid (Kbw1.out.below hw2)
  have Kcw2 := hid (Kcw1.out.below hw2)
  have Kpw2 := hid (Kpw1.out.below hw2)
  have Kadw2 := hid (Kadw1.out.below hw2)
  have Klw2 := hid (Klw1.out.below hw2)
  clear hw2
  go_wp2_with (
        refine wpList_store_blk rfl 23 _ _ rfl bw2 (da.map (Value.int .u8)).toArray rfl rfl _ 23 Kzw2.out 32 size_digest HzA.out hda.size (ints_one _ _) ?_
        intro w3 hbw3 hkw3
        have HBw3 := hid (hbw3.below HBw2.out HBw2.out.size hgww2)
        have hsw3 := HBw3.out.size
        have Kxw3 := hid hkw3
        have Kaw3 := hid (hbw3.blk Kaw2.out hnaw2)
        have Kbw3 := hid (hbw3.blk Kbw2.out hnbw2)
        have Kcw3 := hid (hbw3.blk Kcw2.out hncw2)
        have Kpw3 := hid (hbw3.blk Kpw2.out hnpw2)
        have Kadw3 := hid (hbw3.blk Kadw2.out hnadw2)
        have Klw3 := hid (hbw3.blk Klw2.out hnlw2)
        clear hbw3 hkw3)
  refine wp_region_late 9 7 9 [0, 1, 2, 3, 4, 5, 6, 7] [8] [(.b 8, [], [])] (by kernel_rfl) (by kernel_rfl) rfl (by kernel_rfl) (fun _ _ d _ _ h => by cases d <;> exact h) ?_
  simp only [late]
  apply Exists.intro
  refine ⟨fun w0 hb0 hF0 => ?_, ?_⟩
  · skip
    have x0 : ∀ w', (∃ x : Ext w0, w' = x.at_) → ∃ T, Blk w' (w.heap.size + 1 + 1 + 1) (pub.map (Value.int .u8)).toArray T := fun w' ⟨x, hx⟩ => ⟨_, hx ▸ (Kpw3.out.below hb0).below x.same⟩
    have x1 : ∀ w', (∃ x : Ext w0, w' = x.at_) → ∃ T, Blk w' (w.heap.size + 1 + 1 + 1 + 1) (ad.map (Value.int .u32)).toArray T := fun w' ⟨x, hx⟩ => ⟨_, hx ▸ (Kadw3.out.below hb0).below x.same⟩
    have c0 := fun e : Ext w0 => C2.out g e.at_ ((Htab.out.below (Below.on HBw3.out hb0)).below e.same) ((DigsAt.of_blk (n := 3) (cap := 3) ((Klw3.out.below hb0).below e.same) hds rfl (by omega) (by omega)).head 2 (by omega))
    simp only [pick, List.getElem?_toArray, List.getElem?_cons_succ, List.getElem?_cons_zero, Option.toList_some, List.cons_append, List.nil_append]
    repeat (first | (go_big_quiet_want; refine quiet_load_blk 23 _ rfl (w.heap.size + 1 + 1 + 1) rfl _ x0 _ Tryd.underlying23 rfl 32 size_digest hpub.size ?_; go_big_quiet_on; simp only [Act.put, List.setIfInBounds_toArray, List.set_cons_zero, List.set_cons_succ]) | (go_big_quiet_want; refine quiet_load_blk 26 _ rfl (w.heap.size + 1 + 1 + 1 + 1) rfl _ x1 _ Tryd.underlying26 rfl 8 sizeAdrs had.size ?_; go_big_quiet_on; simp only [Act.put, List.setIfInBounds_toArray, List.set_cons_zero, List.set_cons_succ]) | (go_big_quiet_want; refine quiet_cut_h _ _ rfl g 3 3 2 rfl rfl (by omega) ?_; go_big_quiet_on; simp only [Act.put, List.setIfInBounds_toArray, List.set_cons_zero, List.set_cons_succ]) | go_big_quiet_step (first | (go_at_call 28; with_reducible exact Calls.ext (c0 _))))
    exact wpQuiet_nil rfl
  refine AlChk.one rfl (fun b => .pointer (some ⟨b, 0, none⟩)) (.cells (byteCells 32 []) 23 (0, 0)) rfl (fun w3 hb3 hF3 => by go_simp; rfl) ?_
  refine AlChk.nil ?_
  refine Walk.blk rfl (fun b => .pointer (some ⟨b, 0, none⟩)) (.cells (byteCells 32 []) 23 (0, 0)) (by simp) ?_
  intro bw4 wz hbz_ hFz hgew4 _
  apply Exists.intro
  refine ⟨fun w4 hb4 hF4 => wpQuiet_nil rfl, ?_⟩
  refine AlChk.nil ?_
  refine Walk.fin fun w4 hw4 hFw4 _ => ?_
  simp only [List.drop_succ_cons, List.drop_zero]
  have kbw4 : Blk w4 bw4 (byteCells 32 []) 23 := hFw4.2
  have Kzw4 := hid kbw4
  have hgww4 : w.heap.size ≤ bw4 := Nat.le_trans HBw3.out.size hgew4
  clear hbz_ hFz hFw4 kbw4
  have hnaw4 : w.heap.size ≠ bw4 := by have := Kaw3.out.lt; omega
  have hnbw4 : w.heap.size + 1 ≠ bw4 := by have := Kbw3.out.lt; omega
  have hncw4 : w.heap.size + 1 + 1 ≠ bw4 := by have := Kcw3.out.lt; omega
  have hnpw4 : w.heap.size + 1 + 1 + 1 ≠ bw4 := by have := Kpw3.out.lt; omega
  have hnadw4 : w.heap.size + 1 + 1 + 1 + 1 ≠ bw4 := by have := Kadw3.out.lt; omega
  have hnlw4 : g ≠ bw4 := by have := Klw3.out.lt; omega
  have hnxw4 : bw2 ≠ bw4 := by have := Kxw3.out.lt; omega
  have HBw4 := hid (Below.on HBw3.out hw4)
  have hsw4 := HBw4.out.size
  have Kaw4 := hid (Kaw3.out.below hw4)
  have Kbw4 := hid (Kbw3.out.below hw4)
  have Kcw4 := hid (Kcw3.out.below hw4)
  have Kpw4 := hid (Kpw3.out.below hw4)
  have Kadw4 := hid (Kadw3.out.below hw4)
  have Klw4 := hid (Klw3.out.below hw4)
  have Kxw4 := hid (Kxw3.out.below hw4)
  clear hw4
  go_wp2_with (first
     | (
        refine wpList_store_blk rfl 23 _ _ rfl bw4 (TT.map (Value.int .u8)).toArray rfl rfl _ 23 Kzw4.out 32 size_digest HzA.out HT.out.size (ints_one _ _) ?_
        intro w5 hbw5 hkw5
        have HBw5 := hid (hbw5.below HBw4.out HBw4.out.size hgww4)
        have hsw5 := HBw5.out.size
        have Kyw5 := hid hkw5
        have Kaw5 := hid (hbw5.blk Kaw4.out hnaw4)
        have Kbw5 := hid (hbw5.blk Kbw4.out hnbw4)
        have Kcw5 := hid (hbw5.blk Kcw4.out hncw4)
        have Kpw5 := hid (hbw5.blk Kpw4.out hnpw4)
        have Kadw5 := hid (hbw5.blk Kadw4.out hnadw4)
        have Klw5 := hid (hbw5.blk Klw4.out hnlw4)
        have Kxw5 := hid (hbw5.blk Kxw4.out hnxw4)
        clear hbw5 hkw5)
     | (refine wpList_load_blk rfl 23 _ rfl (w.heap.size + 1 + 1 + 1) rfl _ 23 Kpw5.out _ Tryd.underlying23 rfl 32 size_digest hpub.size ?_)
     | (refine wpList_load_blk rfl 26 _ rfl (w.heap.size + 1 + 1 + 1 + 1) rfl _ 26 Kadw5.out _ Tryd.underlying26 rfl 8 sizeAdrs had.size ?_))
  refine (C3.out g _ (Htab.out.below HBw5.out) (DigsAt.of_blk (n := 3) (cap := 3) Klw5.out hds rfl (by omega) (by omega))).mono ?_
  rintro e w6 ⟨rfl, bw6⟩
  have HBw6 := hid (Below.on HBw5.out bw6)
  have hsw6 := HBw6.out.size
  have Kaw6 := hid (Kaw5.out.below bw6)
  have Kbw6 := hid (Kbw5.out.below bw6)
  have Kcw6 := hid (Kcw5.out.below bw6)
  have Kpw6 := hid (Kpw5.out.below bw6)
  have Kadw6 := hid (Kadw5.out.below bw6)
  have Klw6 := hid (Klw5.out.below bw6)
  have Kxw6 := hid (Kxw5.out.below bw6)
  have Kyw6 := hid (Kyw5.out.below bw6)
  clear bw6
  go_wp2_with (
        refine wpList_store_blk rfl 23 _ _ rfl (w6.heap.size) (UU.map (Value.int .u8)).toArray rfl rfl _ 23 (Blk.new rfl (byteCells 32 []) _) 32 size_digest HzA.out HU.out.size (ints_one _ _) ?_
        intro w7 hbw7 hkw7
        have HBw7 := hid (hbw7.below (HBw6.out.alloc HBw6.out.size _) (by simp only [World.size_alloc]; omega) (by have := HBw6.out.size; omega))
        have hsw7 := HBw7.out.size
        have Kvw7 := hid hkw7
        have Kaw7 := hid (hbw7.blk (Kaw6.out.old _) (by have := Kaw6.out.lt; omega))
        have Kbw7 := hid (hbw7.blk (Kbw6.out.old _) (by have := Kbw6.out.lt; omega))
        have Kcw7 := hid (hbw7.blk (Kcw6.out.old _) (by have := Kcw6.out.lt; omega))
        have Kpw7 := hid (hbw7.blk (Kpw6.out.old _) (by have := Kpw6.out.lt; omega))
        have Kadw7 := hid (hbw7.blk (Kadw6.out.old _) (by have := Kadw6.out.lt; omega))
        have Klw7 := hid (hbw7.blk (Klw6.out.old _) (by have := Klw6.out.lt; omega))
        have Kxw7 := hid (hbw7.blk (Kxw6.out.old _) (by have := Kxw6.out.lt; omega))
        have Kyw7 := hid (hbw7.blk (Kyw6.out.old _) (by have := Kyw6.out.lt; omega))
        clear hbw7 hkw7)
  refine wp_region_flow 7 [0, 1, 2, 3, 4, 5] [6] [(.b 6, [], [])] (by kernel_rfl) (by kernel_rfl) ?_
  apply Exists.intro
  refine ⟨fun w0 hb0 hF0 => ?_, ?_⟩
  · skip
    have x0 : ∀ w', (∃ x : Ext w0, w' = x.at_) → ∃ T, Blk w' (w.heap.size) (da.map (Value.int .u8)).toArray T := fun w' ⟨x, hx⟩ => ⟨_, hx ▸ (Kaw7.out.below hb0).below x.same⟩
    have x1 : ∀ w', (∃ x : Ext w0, w' = x.at_) → ∃ T, Blk w' (w.heap.size + 1) (db.map (Value.int .u8)).toArray T := fun w' ⟨x, hx⟩ => ⟨_, hx ▸ (Kbw7.out.below hb0).below x.same⟩
    have x2 : ∀ w', (∃ x : Ext w0, w' = x.at_) → ∃ T, Blk w' (w.heap.size + 1 + 1 + 1) (pub.map (Value.int .u8)).toArray T := fun w' ⟨x, hx⟩ => ⟨_, hx ▸ (Kpw7.out.below hb0).below x.same⟩
    have x3 : ∀ w', (∃ x : Ext w0, w' = x.at_) → ∃ T, Blk w' (w.heap.size + 1 + 1 + 1 + 1) (ad.map (Value.int .u32)).toArray T := fun w' ⟨x, hx⟩ => ⟨_, hx ▸ (Kadw7.out.below hb0).below x.same⟩
    have c0 := fun e : Ext w0 => at_list ad 0 0 e.at_ had
    have c1 := fun e : Ext w0 => J1.out e.at_ ((Htab.out.below (Below.on HBw7.out hb0)).below e.same)
    simp only [pick, List.getElem?_toArray, List.getElem?_cons_succ, List.getElem?_cons_zero, Option.toList_some, List.cons_append, List.nil_append]
    repeat (first | (go_big_quiet_want; refine quiet_load_blk 23 _ rfl (w.heap.size) rfl _ x0 _ Tryd.underlying23 rfl 32 size_digest hda.size ?_; go_big_quiet_on; simp only [Act.put, List.setIfInBounds_toArray, List.set_cons_zero, List.set_cons_succ]) | (go_big_quiet_want; refine quiet_load_blk 23 _ rfl (w.heap.size + 1) rfl _ x1 _ Tryd.underlying23 rfl 32 size_digest hdb.size ?_; go_big_quiet_on; simp only [Act.put, List.setIfInBounds_toArray, List.set_cons_zero, List.set_cons_succ]) | (go_big_quiet_want; refine quiet_load_blk 23 _ rfl (w.heap.size + 1 + 1 + 1) rfl _ x2 _ Tryd.underlying23 rfl 32 size_digest hpub.size ?_; go_big_quiet_on; simp only [Act.put, List.setIfInBounds_toArray, List.set_cons_zero, List.set_cons_succ]) | (go_big_quiet_want; refine quiet_load_blk 26 _ rfl (w.heap.size + 1 + 1 + 1 + 1) rfl _ x3 _ Tryd.underlying26 rfl 8 sizeAdrs had.size ?_; go_big_quiet_on; simp only [Act.put, List.setIfInBounds_toArray, List.set_cons_zero, List.set_cons_succ]) | go_big_quiet_step (first | (go_at_call 32; with_reducible exact Calls.ext (c0 _)) | (go_at_call 29; with_reducible exact Calls.ext (c1 _))))
    exact wpQuiet_nil rfl
  refine AlChk.one rfl (fun b => .pointer (some ⟨b, 0, none⟩)) (.cells (byteCells 32 []) 23 (0, 0)) rfl (fun w3 hb3 hF3 => by go_simp; rfl) ?_
  refine AlChk.nil ?_
  refine Walk.blk rfl (fun b => .pointer (some ⟨b, 0, none⟩)) (.cells (byteCells 32 []) 23 (0, 0)) (by simp) ?_
  intro bw8 wz hbz_ hFz hgew8 _
  apply Exists.intro
  refine ⟨fun w4 hb4 hF4 => wpQuiet_nil rfl, ?_⟩
  refine AlChk.nil ?_
  refine Walk.fin fun w8 hw8 hFw8 _ => ?_
  simp only [List.drop_succ_cons, List.drop_zero]
  have kbw8 : Blk w8 bw8 (byteCells 32 []) 23 := hFw8.2
  have Kzw8 := hid kbw8
  have hgww8 : w.heap.size ≤ bw8 := Nat.le_trans HBw7.out.size hgew8
  clear hbz_ hFz hFw8 kbw8
  have hnaw8 : w.heap.size ≠ bw8 := by have := Kaw7.out.lt; omega
  have hnbw8 : w.heap.size + 1 ≠ bw8 := by have := Kbw7.out.lt; omega
  have hncw8 : w.heap.size + 1 + 1 ≠ bw8 := by have := Kcw7.out.lt; omega
  have hnpw8 : w.heap.size + 1 + 1 + 1 ≠ bw8 := by have := Kpw7.out.lt; omega
  have hnadw8 : w.heap.size + 1 + 1 + 1 + 1 ≠ bw8 := by have := Kadw7.out.lt; omega
  have hnlw8 : g ≠ bw8 := by have := Klw7.out.lt; omega
  have hnxw8 : bw2 ≠ bw8 := by have := Kxw7.out.lt; omega
  have hnyw8 : bw4 ≠ bw8 := by have := Kyw7.out.lt; omega
  have hnvw8 : w6.heap.size ≠ bw8 := by have := Kvw7.out.lt; omega
  have HBw8 := hid (Below.on HBw7.out hw8)
  have hsw8 := HBw8.out.size
  have Kaw8 := hid (Kaw7.out.below hw8)
  have Kbw8 := hid (Kbw7.out.below hw8)
  have Kcw8 := hid (Kcw7.out.below hw8)
  have Kpw8 := hid (Kpw7.out.below hw8)
  have Kadw8 := hid (Kadw7.out.below hw8)
  have Klw8 := hid (Klw7.out.below hw8)
  have Kxw8 := hid (Kxw7.out.below hw8)
  have Kyw8 := hid (Kyw7.out.below hw8)
  have Kvw8 := hid (Kvw7.out.below hw8)
  clear hw8
  go_wp2_with (
        refine wpList_store_blk rfl 23 _ _ rfl bw8 (TT.map (Value.int .u8)).toArray rfl rfl _ 23 Kzw8.out 32 size_digest HzA.out HT.out.size (ints_one _ _) ?_
        intro w9 hbw9 hkw9
        have HBw9 := hid (hbw9.below HBw8.out HBw8.out.size hgww8)
        have hsw9 := HBw9.out.size
        have Ktw9 := hid hkw9
        have Kaw9 := hid (hbw9.blk Kaw8.out hnaw8)
        have Kbw9 := hid (hbw9.blk Kbw8.out hnbw8)
        have Kcw9 := hid (hbw9.blk Kcw8.out hncw8)
        have Kpw9 := hid (hbw9.blk Kpw8.out hnpw8)
        have Kadw9 := hid (hbw9.blk Kadw8.out hnadw8)
        have Klw9 := hid (hbw9.blk Klw8.out hnlw8)
        have Kxw9 := hid (hbw9.blk Kxw8.out hnxw8)
        have Kyw9 := hid (hbw9.blk Kyw8.out hnyw8)
        have Kvw9 := hid (hbw9.blk Kvw8.out hnvw8)
        clear hbw9 hkw9)
  try simp only [Act.put, List.setIfInBounds_toArray, List.set_cons_zero, List.set_cons_succ]
  have q1 := fun W => eqD_self da hda.len W
  have q2 := fun W => eqD_self TT HT.out.len W
  have q3 := fun W => eqD_self UU HU.out.len W
  have q4 := fun W => eqD_self db hdb.len W
  refine wp_region_flow 47 (List.range 47) [] [] (by kernel_rfl) (by kernel_rfl) ?_
  apply Exists.intro
  refine ⟨fun w0 hb0 hF0 => ?_, ?_⟩
  · skip
    have x0 : ∀ w', (∃ x : Ext w0, w' = x.at_) → ∃ T, Blk w' (bw2) (da.map (Value.int .u8)).toArray T := fun w' ⟨x, hx⟩ => ⟨_, hx ▸ (Kxw9.out.below hb0).below x.same⟩
    have x1 : ∀ w', (∃ x : Ext w0, w' = x.at_) → ∃ T, Blk w' (w.heap.size) (da.map (Value.int .u8)).toArray T := fun w' ⟨x, hx⟩ => ⟨_, hx ▸ (Kaw9.out.below hb0).below x.same⟩
    have x2 : ∀ w', (∃ x : Ext w0, w' = x.at_) → ∃ T, Blk w' (bw4) (TT.map (Value.int .u8)).toArray T := fun w' ⟨x, hx⟩ => ⟨_, hx ▸ (Kyw9.out.below hb0).below x.same⟩
    have x3 : ∀ w', (∃ x : Ext w0, w' = x.at_) → ∃ T, Blk w' (bw8) (TT.map (Value.int .u8)).toArray T := fun w' ⟨x, hx⟩ => ⟨_, hx ▸ (Ktw9.out.below hb0).below x.same⟩
    have x4 : ∀ w', (∃ x : Ext w0, w' = x.at_) → ∃ T, Blk w' (w6.heap.size) (UU.map (Value.int .u8)).toArray T := fun w' ⟨x, hx⟩ => ⟨_, hx ▸ (Kvw9.out.below hb0).below x.same⟩
    have x5 : ∀ w', (∃ x : Ext w0, w' = x.at_) → ∃ T, Blk w' (w.heap.size + 1 + 1) (dc.map (Value.int .u8)).toArray T := fun w' ⟨x, hx⟩ => ⟨_, hx ▸ (Kcw9.out.below hb0).below x.same⟩
    have x6 : ∀ w', (∃ x : Ext w0, w' = x.at_) → ∃ T, Blk w' (w.heap.size + 1 + 1 + 1) (pub.map (Value.int .u8)).toArray T := fun w' ⟨x, hx⟩ => ⟨_, hx ▸ (Kpw9.out.below hb0).below x.same⟩
    have x7 : ∀ w', (∃ x : Ext w0, w' = x.at_) → ∃ T, Blk w' (w.heap.size + 1 + 1 + 1 + 1) (ad.map (Value.int .u32)).toArray T := fun w' ⟨x, hx⟩ => ⟨_, hx ▸ (Kadw9.out.below hb0).below x.same⟩
    have x8 : ∀ w', (∃ x : Ext w0, w' = x.at_) → ∃ T, Blk w' (w.heap.size + 1) (db.map (Value.int .u8)).toArray T := fun w' ⟨x, hx⟩ => ⟨_, hx ▸ (Kbw9.out.below hb0).below x.same⟩
    have c0 := fun e : Ext w0 => at_list ad 1 0 e.at_ had
    have c1 := fun e : Ext w0 => J2.out e.at_ ((Htab.out.below (Below.on HBw9.out hb0)).below e.same)
    have c2 := fun e : Ext w0 => knows09 e.at_ ((Htab.out.below (Below.on HBw9.out hb0)).below e.same)
    have y0 : ∀ w', (∃ x : Ext w0, w' = x.at_) → w'.rangeAt g (0 + 0 * 32) (da.map (Value.int .u8)) := fun w' ⟨x, hx⟩ => by subst hx; exact Blk.digs ((Klw9.out.below hb0).below x.same) hds 0 (by simp)
    have y1 : ∀ w', (∃ x : Ext w0, w' = x.at_) → w'.rangeAt g (0 + 1 * 32) (db.map (Value.int .u8)) := fun w' ⟨x, hx⟩ => by subst hx; exact Blk.digs ((Klw9.out.below hb0).below x.same) hds 1 (by simp)
    simp only [pick, List.range, List.range.loop, List.getElem?_toArray, List.getElem?_cons_succ, List.getElem?_cons_zero, Option.toList_some, List.cons_append, List.nil_append]
    repeat (first | (go_big_quiet_want; refine quiet_load_blk 23 _ rfl (bw2) rfl _ x0 _ Tryd.underlying23 rfl 32 size_digest hda.size ?_; go_big_quiet_on; simp only [Act.put, List.setIfInBounds_toArray, List.set_cons_zero, List.set_cons_succ]) | (go_big_quiet_want; refine quiet_load_blk 23 _ rfl (w.heap.size) rfl _ x1 _ Tryd.underlying23 rfl 32 size_digest hda.size ?_; go_big_quiet_on; simp only [Act.put, List.setIfInBounds_toArray, List.set_cons_zero, List.set_cons_succ]) | (go_big_quiet_want; refine quiet_load_blk 23 _ rfl (bw4) rfl _ x2 _ Tryd.underlying23 rfl 32 size_digest HT.out.size ?_; go_big_quiet_on; simp only [Act.put, List.setIfInBounds_toArray, List.set_cons_zero, List.set_cons_succ]) | (go_big_quiet_want; refine quiet_load_blk 23 _ rfl (bw8) rfl _ x3 _ Tryd.underlying23 rfl 32 size_digest HT.out.size ?_; go_big_quiet_on; simp only [Act.put, List.setIfInBounds_toArray, List.set_cons_zero, List.set_cons_succ]) | (go_big_quiet_want; refine quiet_load_blk 23 _ rfl (w6.heap.size) rfl _ x4 _ Tryd.underlying23 rfl 32 size_digest HU.out.size ?_; go_big_quiet_on; simp only [Act.put, List.setIfInBounds_toArray, List.set_cons_zero, List.set_cons_succ]) | (go_big_quiet_want; refine quiet_load_blk 23 _ rfl (w.heap.size + 1 + 1) rfl _ x5 _ Tryd.underlying23 rfl 32 size_digest hdc.size ?_; go_big_quiet_on; simp only [Act.put, List.setIfInBounds_toArray, List.set_cons_zero, List.set_cons_succ]) | (go_big_quiet_want; refine quiet_load_blk 23 _ rfl (w.heap.size + 1 + 1 + 1) rfl _ x6 _ Tryd.underlying23 rfl 32 size_digest hpub.size ?_; go_big_quiet_on; simp only [Act.put, List.setIfInBounds_toArray, List.set_cons_zero, List.set_cons_succ]) | (go_big_quiet_want; refine quiet_load_blk 26 _ rfl (w.heap.size + 1 + 1 + 1 + 1) rfl _ x7 _ Tryd.underlying26 rfl 8 sizeAdrs had.size ?_; go_big_quiet_on; simp only [Act.put, List.setIfInBounds_toArray, List.set_cons_zero, List.set_cons_succ]) | (go_big_quiet_want; refine quiet_load_blk 23 _ rfl (w.heap.size + 1) rfl _ x8 _ Tryd.underlying23 rfl 32 size_digest hdb.size ?_; go_big_quiet_on; simp only [Act.put, List.setIfInBounds_toArray, List.set_cons_zero, List.set_cons_succ]) | (go_big_quiet_want; refine quiet_cmp _ _ rfl _ _ _ rfl rfl q1 ?_; go_big_quiet_on; simp only [Act.put, List.setIfInBounds_toArray, List.set_cons_zero, List.set_cons_succ]) | (go_big_quiet_want; refine quiet_cmp _ _ rfl _ _ _ rfl rfl q2 ?_; go_big_quiet_on; simp only [Act.put, List.setIfInBounds_toArray, List.set_cons_zero, List.set_cons_succ]) | (go_big_quiet_want; refine quiet_cmp _ _ rfl _ _ _ rfl rfl q3 ?_; go_big_quiet_on; simp only [Act.put, List.setIfInBounds_toArray, List.set_cons_zero, List.set_cons_succ]) | (go_big_quiet_want; refine quiet_cmp _ _ rfl _ _ _ rfl rfl q4 ?_; go_big_quiet_on; simp only [Act.put, List.setIfInBounds_toArray, List.set_cons_zero, List.set_cons_succ]) | (go_big_quiet_want; refine quiet_index_digs 28 _ _ rfl Tryd.underlying28 size_digest g 0 3 3 rfl _ _ rfl 0 (by omega) (by omega) ?_; go_big_quiet_on; simp only [Act.put, List.setIfInBounds_toArray, List.set_cons_zero, List.set_cons_succ]) | (go_big_quiet_want; refine quiet_index_digs 28 _ _ rfl Tryd.underlying28 size_digest g 0 3 3 rfl _ _ rfl 1 (by omega) (by omega) ?_; go_big_quiet_on; simp only [Act.put, List.setIfInBounds_toArray, List.set_cons_zero, List.set_cons_succ]) | (go_big_quiet_want; refine quiet_load_mid 23 _ rfl g (0 + 0 * 32) rfl _ y0 _ Tryd.underlying23 rfl (by rw [List.length_map, hda.len]; exact size_digest) ?_; go_big_quiet_on; simp only [Act.put, List.setIfInBounds_toArray, List.set_cons_zero, List.set_cons_succ]) | (go_big_quiet_want; refine quiet_load_mid 23 _ rfl g (0 + 1 * 32) rfl _ y1 _ Tryd.underlying23 rfl (by rw [List.length_map, hdb.len]; exact size_digest) ?_; go_big_quiet_on; simp only [Act.put, List.setIfInBounds_toArray, List.set_cons_zero, List.set_cons_succ]) | go_big_quiet_step (first | (go_at_call 32; with_reducible exact Calls.ext (c0 _)) | (go_at_call 29; with_reducible exact Calls.ext (c1 _)) | (go_at_call 27; with_reducible exact Calls.ext (c2 _))))
    exact wpQuiet_nil rfl
  refine AlChk.nil ?_
  refine Walk.fin fun w10 hw10 _ _ => ?_
  simp only [List.drop_succ_cons, List.drop_zero]
  have HBw10 := hid (Below.on HBw9.out hw10)
  have hsw10 := HBw10.out.size
  have Kaw10 := hid (Kaw9.out.below hw10)
  have Kbw10 := hid (Kbw9.out.below hw10)
  have Kcw10 := hid (Kcw9.out.below hw10)
  have Kpw10 := hid (Kpw9.out.below hw10)
  have Kadw10 := hid (Kadw9.out.below hw10)
  have Klw10 := hid (Klw9.out.below hw10)
  have Kxw10 := hid (Kxw9.out.below hw10)
  have Kyw10 := hid (Kyw9.out.below hw10)
  have Kvw10 := hid (Kvw9.out.below hw10)
  have Ktw10 := hid (Ktw9.out.below hw10)
  clear hw10
  go_wp2_with fail
  go_returns
  exact ⟨rfl, HBw10.out⟩
end Go.Proofs.YtjkfbeillmeomaaDoor
