/-
  Layer 8: the statements.
-/
import Derived.Test.YtjkfbeillmeomaaDoorWotsK
import Derived.Test.YtjkfbeillmeomaaDoorNLate
namespace Go.Proofs.YtjkfbeillmeomaaDoor
open Go.ChangeShapes Go.WideShapes Go.ChangeAt Go.RowKit

theorem meets_row {m seed pub ad : List Int} (hm : Dg m) : rowW (fromP (rowW (sigP m seed pub ad)) m pub ad) = rowW (pubP seed pub ad) := by
  unfold rowW
  apply List.map_congr_left
  intro i hi
  have hi := List.mem_range.1 hi
  have h1 := dgN_le hm i
  unfold fromP
  rw [getZ (by rw [List.length_map, List.length_range]; exact hi)]
  rw [show (List.map (sigP m seed pub ad) (List.range 67)).getD i [] = sigP m seed pub ad i from rowW_get _ hi]
  unfold sigP pubP
  have h2 := runZ_add pub (setAd ad i 0 0) (partZ seed ad i) 0 (dgN m i) (15 - dgN m i)
  rw [Nat.zero_add, show dgN m i + (15 - dgN m i) = 15 by omega] at h2
  exact h2


set_option maxHeartbeats 4000000 in
set_option maxRecDepth 100000 in
theorem wotsKeys_any (seed pub ad : List Int) (w : World) (hseed : Dg seed) (hpub : Dg pub) (had : Aw ad) (tab : ShaTab w) :
    Calls Tryd.prog 3 #[(.agg (seed.map (Value.int .u8)).toArray), (.agg (pub.map (Value.int .u8)).toArray), (.agg (ad.map (Value.int .u32)).toArray)] w fun e w' => e = .returned (.bool true) ∧ Below w.heap.size w w' := by
  have b1 := (Below.refl w.heap.size w).alloc (Nat.le_refl _) (.cells (seed.map (Value.int .u8)).toArray 23 (0, 0))
  have b2 := b1.alloc b1.size (.cells (pub.map (Value.int .u8)).toArray 23 (0, 0))
  have b3 := b2.alloc b2.size (.cells (ad.map (Value.int .u32)).toArray 26 (0, 0))
  have Ks := hid (((Blk.new (w := w) (n := w.heap.size) rfl (seed.map (Value.int .u8)).toArray 23).old (.cells (pub.map (Value.int .u8)).toArray 23 (0, 0))).old (.cells (ad.map (Value.int .u32)).toArray 26 (0, 0)))
  have Kp := hid ((Blk.new (w := (w.alloc (.cells (seed.map (Value.int .u8)).toArray 23 (0, 0)))) (n := w.heap.size + 1) (by simp only [World.size_alloc]) (pub.map (Value.int .u8)).toArray 23).old (.cells (ad.map (Value.int .u32)).toArray 26 (0, 0)))
  have Kad := hid (Blk.new (w := ((w.alloc (.cells (seed.map (Value.int .u8)).toArray 23 (0, 0))).alloc (.cells (pub.map (Value.int .u8)).toArray 23 (0, 0)))) (n := w.heap.size + 1 + 1) (by simp only [World.size_alloc]) (ad.map (Value.int .u32)).toArray 26)
  have Hb := hid b3
  have HzA := hid zsize
  have hbz := b3.size
  have Hbs := hid (show w.heap.size + 1 + 1 + 1 = (((w.alloc (.cells (seed.map (Value.int .u8)).toArray 23 (0, 0))).alloc (.cells (pub.map (Value.int .u8)).toArray 23 (0, 0))).alloc (.cells (ad.map (Value.int .u32)).toArray 26 (0, 0))).heap.size by simp only [World.size_alloc])
  have Htab := hid tab
  clear b1 b2 b3 tab
  go_enter Tryd.func3, Tryd.ntmps3
  go_wp2_with fail
  refine wp_region_flow 21 [0, 1, 3, 4] [] [(.c 2, [], []), (.c 5, [6, 7, 8, 9, 10, 12, 13, 14], []), (.c 11, [], []), (.c 15, [16, 17, 18, 19, 20], [])] (by kernel_rfl) (by kernel_rfl) ?_
  apply Exists.intro
  refine ⟨fun w0 hb0 hF0 => ?_, ?_⟩
  · skip
    have x0 : ∀ w', (∃ x : Ext w0, w' = x.at_) → ∃ T, Blk w' (w.heap.size) (seed.map (Value.int .u8)).toArray T := fun w' ⟨x, hx⟩ => ⟨_, hx ▸ (Ks.out.below hb0).below x.same⟩
    have x1 : ∀ w', (∃ x : Ext w0, w' = x.at_) → ∃ T, Blk w' (w.heap.size + 1 + 1) (ad.map (Value.int .u32)).toArray T := fun w' ⟨x, hx⟩ => ⟨_, hx ▸ (Kad.out.below hb0).below x.same⟩
    simp only [pick, List.getElem?_toArray, List.getElem?_cons_succ, List.getElem?_cons_zero, Option.toList_some, List.cons_append, List.nil_append]
    repeat (first | (go_big_quiet_want; refine quiet_load_blk 23 _ rfl (w.heap.size) rfl _ x0 _ Tryd.underlying23 rfl 32 size_digest hseed.size ?_; go_big_quiet_on; simp only [Act.put, List.setIfInBounds_toArray, List.set_cons_zero, List.set_cons_succ]) | (go_big_quiet_want; refine quiet_load_blk 26 _ rfl (w.heap.size + 1 + 1) rfl _ x1 _ Tryd.underlying26 rfl 8 sizeAdrs had.size ?_; go_big_quiet_on; simp only [Act.put, List.setIfInBounds_toArray, List.set_cons_zero, List.set_cons_succ]) | go_big_quiet_step (fail))
    exact wpQuiet_nil rfl
  refine AlChk.nil ?_
  refine Walk.call rfl 18 #[(.agg (seed.map (Value.int .u8)).toArray), (.agg (ad.map (Value.int .u32)).toArray)] (RowV 67 (rowW (partZ seed ad))) (fun v w' w'' h k => h.below k) rfl (fun w1 hb1 hF1 => ⟨by go_simp, ?_⟩) ?_
  · skip
    exact secret_v seed ad hseed had w1 ((Htab.out.below Hb.out).below hb1)
  rintro v0 w1 hb1 hF1 ⟨pa, pc, rfl, _⟩
  apply Exists.intro
  refine ⟨fun w0 hb0 hF0 => ?_, ?_⟩
  · skip
    exact wpQuiet_nil rfl
  refine AlChk.nil ?_
  refine Walk.call rfl 19 #[(.agg (seed.map (Value.int .u8)).toArray), (.agg (ad.map (Value.int .u32)).toArray)] (RowV 67 (rowW (partZ seed ad))) (fun v w' w'' h k => h.below k) rfl (fun w1 hb1 hF1 => ⟨by go_simp, ?_⟩) ?_
  · skip
    exact refsecret_v seed ad hseed had w1
  rintro v1 w1 hb1 hF1 ⟨qa, qc, rfl, _⟩
  apply Exists.intro
  refine ⟨fun w0 hb0 hF0 => ?_, ?_⟩
  · skip
    have x0 : ∀ w', (∃ x : Ext w0, w' = x.at_) → ∃ T, Blk w' (w.heap.size) (seed.map (Value.int .u8)).toArray T := fun w' ⟨x, hx⟩ => ⟨_, hx ▸ (Ks.out.below hb0).below x.same⟩
    have x1 : ∀ w', (∃ x : Ext w0, w' = x.at_) → ∃ T, Blk w' (w.heap.size + 1) (pub.map (Value.int .u8)).toArray T := fun w' ⟨x, hx⟩ => ⟨_, hx ▸ (Kp.out.below hb0).below x.same⟩
    have x2 : ∀ w', (∃ x : Ext w0, w' = x.at_) → ∃ T, Blk w' (w.heap.size + 1 + 1) (ad.map (Value.int .u32)).toArray T := fun w' ⟨x, hx⟩ => ⟨_, hx ▸ (Kad.out.below hb0).below x.same⟩
    have c0 := fun e : Ext w0 => same_any pa qa 67 pc qc _ e.at_ ((show RowV 67 (rowW (partZ seed ad)) _ w0 from hF0.1.2).below e.same).digs.2 ((show RowV 67 (rowW (partZ seed ad)) _ w0 from hF0.2).below e.same).digs.2
    simp only [pick, List.getElem?_toArray, List.getElem?_cons_succ, List.getElem?_cons_zero, Option.toList_some, List.cons_append, List.nil_append, Act.put, List.setIfInBounds_toArray, List.set_cons_zero, List.set_cons_succ]
    repeat (first | (go_big_quiet_want; refine quiet_load_blk 23 _ rfl (w.heap.size) rfl _ x0 _ Tryd.underlying23 rfl 32 size_digest hseed.size ?_; go_big_quiet_on; simp only [Act.put, List.setIfInBounds_toArray, List.set_cons_zero, List.set_cons_succ]) | (go_big_quiet_want; refine quiet_load_blk 23 _ rfl (w.heap.size + 1) rfl _ x1 _ Tryd.underlying23 rfl 32 size_digest hpub.size ?_; go_big_quiet_on; simp only [Act.put, List.setIfInBounds_toArray, List.set_cons_zero, List.set_cons_succ]) | (go_big_quiet_want; refine quiet_load_blk 26 _ rfl (w.heap.size + 1 + 1) rfl _ x2 _ Tryd.underlying26 rfl 8 sizeAdrs had.size ?_; go_big_quiet_on; simp only [Act.put, List.setIfInBounds_toArray, List.set_cons_zero, List.set_cons_succ]) | go_big_quiet_step (first | (go_at_call 17; with_reducible exact Calls.ext (c0 _))))
    exact wpQuiet_nil rfl
  refine AlChk.nil ?_
  refine Walk.call rfl 20 #[(.agg (seed.map (Value.int .u8)).toArray), (.agg (pub.map (Value.int .u8)).toArray), (.agg (ad.map (Value.int .u32)).toArray)] (RowV 67 (rowW (pubP seed pub ad))) (fun v w' w'' h k => h.below k) rfl (fun w1 hb1 hF1 => ⟨by go_simp, ?_⟩) ?_
  · skip
    exact public_v seed pub ad hseed hpub had w1 ((Htab.out.below Hb.out).below hb1)
  rintro v2 w1 hb1 hF1 ⟨ra, rc, rfl, _⟩
  apply Exists.intro
  refine ⟨fun w0 hb0 hF0 => ?_, ?_⟩
  · skip
    exact wpQuiet_nil rfl
  refine AlChk.nil ?_
  refine Walk.call rfl 21 #[(.agg (seed.map (Value.int .u8)).toArray), (.agg (pub.map (Value.int .u8)).toArray), (.agg (ad.map (Value.int .u32)).toArray)] (RowV 67 (rowW (pubP seed pub ad))) (fun v w' w'' h k => h.below k) rfl (fun w1 hb1 hF1 => ⟨by go_simp, ?_⟩) ?_
  · skip
    exact refpublic_any seed pub ad w1 hseed hpub had
  rintro v3 w1 hb1 hF1 ⟨ta, tc, rfl, _⟩
  apply Exists.intro
  refine ⟨fun w0 hb0 hF0 => ?_, ?_⟩
  · skip
    have c0 := fun e : Ext w0 => same_any ra ta 67 rc tc _ e.at_ ((show RowV 67 (rowW (pubP seed pub ad)) _ w0 from hF0.1.2).below e.same).digs.2 ((show RowV 67 (rowW (pubP seed pub ad)) _ w0 from hF0.2).below e.same).digs.2
    have c1 := fun e : Ext w0 => knows08 e.at_ ((Htab.out.below (Below.on Hb.out hb0)).below e.same)
    simp only [pick, List.getElem?_toArray, List.getElem?_cons_succ, List.getElem?_cons_zero, Option.toList_some, List.cons_append, List.nil_append, Act.put, List.setIfInBounds_toArray, List.set_cons_zero, List.set_cons_succ]
    repeat (first | go_big_quiet_step (first | (go_at_call 17; with_reducible exact Calls.ext (c0 _)) | (go_at_call 22; with_reducible exact Calls.ext (c1 _))))
    exact wpQuiet_nil rfl
  refine AlChk.nil ?_
  refine Walk.fin fun w1 hw1 hFw1 _ => ?_
  simp only [List.drop_succ_cons, List.drop_zero]
  have HFw1 := hid hFw1
  have HBw1 := hid (Below.on Hb.out hw1)
  have hsw1 := HBw1.out.size
  have Ksw1 := hid (Ks.out.below hw1)
  have Kpw1 := hid (Kp.out.below hw1)
  have Kadw1 := hid (Kad.out.below hw1)
  clear hw1 hFw1
  go_wp2_with fail
  go_returns
  exact ⟨rfl, HBw1.out⟩

set_option maxHeartbeats 4000000 in
set_option maxRecDepth 100000 in
theorem wotsSigns_any (m seed pub ad : List Int) (w : World) (hm : Dg m) (hseed : Dg seed) (hpub : Dg pub) (had : Aw ad) (tab : ShaTab w) :
    Calls Tryd.prog 4 #[(.agg (m.map (Value.int .u8)).toArray), (.agg (seed.map (Value.int .u8)).toArray), (.agg (pub.map (Value.int .u8)).toArray), (.agg (ad.map (Value.int .u32)).toArray)] w fun e w' => e = .returned (.bool true) ∧ Below w.heap.size w w' := by
  have b1 := (Below.refl w.heap.size w).alloc (Nat.le_refl _) (.cells (m.map (Value.int .u8)).toArray 23 (0, 0))
  have b2 := b1.alloc b1.size (.cells (seed.map (Value.int .u8)).toArray 23 (0, 0))
  have b3 := b2.alloc b2.size (.cells (pub.map (Value.int .u8)).toArray 23 (0, 0))
  have b4 := b3.alloc b3.size (.cells (ad.map (Value.int .u32)).toArray 26 (0, 0))
  have Km := hid ((((Blk.new (w := w) (n := w.heap.size) rfl (m.map (Value.int .u8)).toArray 23).old (.cells (seed.map (Value.int .u8)).toArray 23 (0, 0))).old (.cells (pub.map (Value.int .u8)).toArray 23 (0, 0))).old (.cells (ad.map (Value.int .u32)).toArray 26 (0, 0)))
  have Ks := hid (((Blk.new (w := (w.alloc (.cells (m.map (Value.int .u8)).toArray 23 (0, 0)))) (n := w.heap.size + 1) (by simp only [World.size_alloc]) (seed.map (Value.int .u8)).toArray 23).old (.cells (pub.map (Value.int .u8)).toArray 23 (0, 0))).old (.cells (ad.map (Value.int .u32)).toArray 26 (0, 0)))
  have Kp := hid ((Blk.new (w := ((w.alloc (.cells (m.map (Value.int .u8)).toArray 23 (0, 0))).alloc (.cells (seed.map (Value.int .u8)).toArray 23 (0, 0)))) (n := w.heap.size + 1 + 1) (by simp only [World.size_alloc]) (pub.map (Value.int .u8)).toArray 23).old (.cells (ad.map (Value.int .u32)).toArray 26 (0, 0)))
  have Kad := hid (Blk.new (w := (((w.alloc (.cells (m.map (Value.int .u8)).toArray 23 (0, 0))).alloc (.cells (seed.map (Value.int .u8)).toArray 23 (0, 0))).alloc (.cells (pub.map (Value.int .u8)).toArray 23 (0, 0)))) (n := w.heap.size + 1 + 1 + 1) (by simp only [World.size_alloc]) (ad.map (Value.int .u32)).toArray 26)
  have Hb := hid b4
  have HzA := hid zsize
  have hbz := b4.size
  have Hbs := hid (show w.heap.size + 1 + 1 + 1 + 1 = ((((w.alloc (.cells (m.map (Value.int .u8)).toArray 23 (0, 0))).alloc (.cells (seed.map (Value.int .u8)).toArray 23 (0, 0))).alloc (.cells (pub.map (Value.int .u8)).toArray 23 (0, 0))).alloc (.cells (ad.map (Value.int .u32)).toArray 26 (0, 0))).heap.size by simp only [World.size_alloc])
  have Htab := hid tab
  clear b1 b2 b3 b4 tab
  go_enter Tryd.func4, Tryd.ntmps4
  go_wp2_with fail
  refine wp_region_flow 14 [0, 1, 2, 3, 5, 6, 7, 8] [] [(.c 4, [], []), (.c 9, [10, 11, 12, 13], [])] (by kernel_rfl) (by kernel_rfl) ?_
  apply Exists.intro
  refine ⟨fun w0 hb0 hF0 => ?_, ?_⟩
  · skip
    have x0 : ∀ w', (∃ x : Ext w0, w' = x.at_) → ∃ T, Blk w' (w.heap.size) (m.map (Value.int .u8)).toArray T := fun w' ⟨x, hx⟩ => ⟨_, hx ▸ (Km.out.below hb0).below x.same⟩
    have x1 : ∀ w', (∃ x : Ext w0, w' = x.at_) → ∃ T, Blk w' (w.heap.size + 1) (seed.map (Value.int .u8)).toArray T := fun w' ⟨x, hx⟩ => ⟨_, hx ▸ (Ks.out.below hb0).below x.same⟩
    have x2 : ∀ w', (∃ x : Ext w0, w' = x.at_) → ∃ T, Blk w' (w.heap.size + 1 + 1) (pub.map (Value.int .u8)).toArray T := fun w' ⟨x, hx⟩ => ⟨_, hx ▸ (Kp.out.below hb0).below x.same⟩
    have x3 : ∀ w', (∃ x : Ext w0, w' = x.at_) → ∃ T, Blk w' (w.heap.size + 1 + 1 + 1) (ad.map (Value.int .u32)).toArray T := fun w' ⟨x, hx⟩ => ⟨_, hx ▸ (Kad.out.below hb0).below x.same⟩
    simp only [pick, List.getElem?_toArray, List.getElem?_cons_succ, List.getElem?_cons_zero, Option.toList_some, List.cons_append, List.nil_append]
    repeat (first | (go_big_quiet_want; refine quiet_load_blk 23 _ rfl (w.heap.size) rfl _ x0 _ Tryd.underlying23 rfl 32 size_digest hm.size ?_; go_big_quiet_on; simp only [Act.put, List.setIfInBounds_toArray, List.set_cons_zero, List.set_cons_succ]) | (go_big_quiet_want; refine quiet_load_blk 23 _ rfl (w.heap.size + 1) rfl _ x1 _ Tryd.underlying23 rfl 32 size_digest hseed.size ?_; go_big_quiet_on; simp only [Act.put, List.setIfInBounds_toArray, List.set_cons_zero, List.set_cons_succ]) | (go_big_quiet_want; refine quiet_load_blk 23 _ rfl (w.heap.size + 1 + 1) rfl _ x2 _ Tryd.underlying23 rfl 32 size_digest hpub.size ?_; go_big_quiet_on; simp only [Act.put, List.setIfInBounds_toArray, List.set_cons_zero, List.set_cons_succ]) | (go_big_quiet_want; refine quiet_load_blk 26 _ rfl (w.heap.size + 1 + 1 + 1) rfl _ x3 _ Tryd.underlying26 rfl 8 sizeAdrs had.size ?_; go_big_quiet_on; simp only [Act.put, List.setIfInBounds_toArray, List.set_cons_zero, List.set_cons_succ]) | go_big_quiet_step (fail))
    exact wpQuiet_nil rfl
  refine AlChk.nil ?_
  refine Walk.call rfl 23 #[(.agg (m.map (Value.int .u8)).toArray), (.agg (seed.map (Value.int .u8)).toArray), (.agg (pub.map (Value.int .u8)).toArray), (.agg (ad.map (Value.int .u32)).toArray)] (RowV 67 (rowW (sigP m seed pub ad))) (fun v w' w'' h k => h.below k) rfl (fun w1 hb1 hF1 => ⟨by go_simp, ?_⟩) ?_
  · skip
    exact sign_v m seed pub ad hm hseed hpub had w1 ((Htab.out.below Hb.out).below hb1)
  rintro v0 w1 hb1 hF1 ⟨pa, pc, rfl, _⟩
  apply Exists.intro
  refine ⟨fun w0 hb0 hF0 => ?_, ?_⟩
  · skip
    exact wpQuiet_nil rfl
  refine AlChk.nil ?_
  refine Walk.call rfl 24 #[(.agg (m.map (Value.int .u8)).toArray), (.agg (seed.map (Value.int .u8)).toArray), (.agg (pub.map (Value.int .u8)).toArray), (.agg (ad.map (Value.int .u32)).toArray)] (RowV 67 (rowW (sigP m seed pub ad))) (fun v w' w'' h k => h.below k) rfl (fun w1 hb1 hF1 => ⟨by go_simp, ?_⟩) ?_
  · skip
    exact refsign_any m seed pub ad w1 hm hseed hpub had
  rintro v1 w1 hb1 hF1 ⟨qa, qc, rfl, _⟩
  apply Exists.intro
  refine ⟨fun w0 hb0 hF0 => ?_, ?_⟩
  · skip
    have c0 := fun e : Ext w0 => same_any pa qa 67 pc qc _ e.at_ ((show RowV 67 (rowW (sigP m seed pub ad)) _ w0 from hF0.1.2).below e.same).digs.2 ((show RowV 67 (rowW (sigP m seed pub ad)) _ w0 from hF0.2).below e.same).digs.2
    have c1 := fun e : Ext w0 => knows08 e.at_ ((Htab.out.below (Below.on Hb.out hb0)).below e.same)
    simp only [pick, List.getElem?_toArray, List.getElem?_cons_succ, List.getElem?_cons_zero, Option.toList_some, List.cons_append, List.nil_append, Act.put, List.setIfInBounds_toArray, List.set_cons_zero, List.set_cons_succ]
    repeat (first | go_big_quiet_step (first | (go_at_call 17; with_reducible exact Calls.ext (c0 _)) | (go_at_call 22; with_reducible exact Calls.ext (c1 _))))
    exact wpQuiet_nil rfl
  refine AlChk.nil ?_
  refine Walk.fin fun w1 hw1 hFw1 _ => ?_
  simp only [List.drop_succ_cons, List.drop_zero]
  have HFw1 := hid hFw1
  have HBw1 := hid (Below.on Hb.out hw1)
  have hsw1 := HBw1.out.size
  have Kmw1 := hid (Km.out.below hw1)
  have Ksw1 := hid (Ks.out.below hw1)
  have Kpw1 := hid (Kp.out.below hw1)
  have Kadw1 := hid (Kad.out.below hw1)
  clear hw1 hFw1
  go_wp2_with fail
  go_returns
  exact ⟨rfl, HBw1.out⟩

set_option maxHeartbeats 4000000 in
set_option maxRecDepth 100000 in
theorem wotsMeets_any (m seed pub ad : List Int) (w : World) (hm : Dg m) (hseed : Dg seed) (hpub : Dg pub) (had : Aw ad) (tab : ShaTab w) :
    Calls Tryd.prog 6 #[(.agg (m.map (Value.int .u8)).toArray), (.agg (seed.map (Value.int .u8)).toArray), (.agg (pub.map (Value.int .u8)).toArray), (.agg (ad.map (Value.int .u32)).toArray)] w fun e w' => e = .returned (.bool true) ∧ Below w.heap.size w w' := by
  have b1 := (Below.refl w.heap.size w).alloc (Nat.le_refl _) (.cells (m.map (Value.int .u8)).toArray 23 (0, 0))
  have b2 := b1.alloc b1.size (.cells (seed.map (Value.int .u8)).toArray 23 (0, 0))
  have b3 := b2.alloc b2.size (.cells (pub.map (Value.int .u8)).toArray 23 (0, 0))
  have b4 := b3.alloc b3.size (.cells (ad.map (Value.int .u32)).toArray 26 (0, 0))
  have Km := hid ((((Blk.new (w := w) (n := w.heap.size) rfl (m.map (Value.int .u8)).toArray 23).old (.cells (seed.map (Value.int .u8)).toArray 23 (0, 0))).old (.cells (pub.map (Value.int .u8)).toArray 23 (0, 0))).old (.cells (ad.map (Value.int .u32)).toArray 26 (0, 0)))
  have Ks := hid (((Blk.new (w := (w.alloc (.cells (m.map (Value.int .u8)).toArray 23 (0, 0)))) (n := w.heap.size + 1) (by simp only [World.size_alloc]) (seed.map (Value.int .u8)).toArray 23).old (.cells (pub.map (Value.int .u8)).toArray 23 (0, 0))).old (.cells (ad.map (Value.int .u32)).toArray 26 (0, 0)))
  have Kp := hid ((Blk.new (w := ((w.alloc (.cells (m.map (Value.int .u8)).toArray 23 (0, 0))).alloc (.cells (seed.map (Value.int .u8)).toArray 23 (0, 0)))) (n := w.heap.size + 1 + 1) (by simp only [World.size_alloc]) (pub.map (Value.int .u8)).toArray 23).old (.cells (ad.map (Value.int .u32)).toArray 26 (0, 0)))
  have Kad := hid (Blk.new (w := (((w.alloc (.cells (m.map (Value.int .u8)).toArray 23 (0, 0))).alloc (.cells (seed.map (Value.int .u8)).toArray 23 (0, 0))).alloc (.cells (pub.map (Value.int .u8)).toArray 23 (0, 0)))) (n := w.heap.size + 1 + 1 + 1) (by simp only [World.size_alloc]) (ad.map (Value.int .u32)).toArray 26)
  have Hb := hid b4
  have HzA := hid zsize
  have hbz := b4.size
  have Hbs := hid (show w.heap.size + 1 + 1 + 1 + 1 = ((((w.alloc (.cells (m.map (Value.int .u8)).toArray 23 (0, 0))).alloc (.cells (seed.map (Value.int .u8)).toArray 23 (0, 0))).alloc (.cells (pub.map (Value.int .u8)).toArray 23 (0, 0))).alloc (.cells (ad.map (Value.int .u32)).toArray 26 (0, 0))).heap.size by simp only [World.size_alloc])
  have Htab := hid tab
  clear b1 b2 b3 b4 tab
  go_enter Tryd.func6, Tryd.ntmps6
  go_wp2_with fail
  refine wp_region_late 12 11 12 [0, 1, 2, 3, 5, 6, 7] [] [(.c 4, [], []), (.c 8, [9, 10, 11], [])] (by kernel_rfl) (by kernel_rfl) rfl (by kernel_rfl) (fun _ _ d _ _ h => by cases d <;> exact h) ?_
  simp only [late]
  apply Exists.intro
  refine ⟨fun w0 hb0 hF0 => ?_, ?_⟩
  · skip
    have x0 : ∀ w', (∃ x : Ext w0, w' = x.at_) → ∃ T, Blk w' (w.heap.size) (m.map (Value.int .u8)).toArray T := fun w' ⟨x, hx⟩ => ⟨_, hx ▸ (Km.out.below hb0).below x.same⟩
    have x1 : ∀ w', (∃ x : Ext w0, w' = x.at_) → ∃ T, Blk w' (w.heap.size + 1) (seed.map (Value.int .u8)).toArray T := fun w' ⟨x, hx⟩ => ⟨_, hx ▸ (Ks.out.below hb0).below x.same⟩
    have x2 : ∀ w', (∃ x : Ext w0, w' = x.at_) → ∃ T, Blk w' (w.heap.size + 1 + 1) (pub.map (Value.int .u8)).toArray T := fun w' ⟨x, hx⟩ => ⟨_, hx ▸ (Kp.out.below hb0).below x.same⟩
    have x3 : ∀ w', (∃ x : Ext w0, w' = x.at_) → ∃ T, Blk w' (w.heap.size + 1 + 1 + 1) (ad.map (Value.int .u32)).toArray T := fun w' ⟨x, hx⟩ => ⟨_, hx ▸ (Kad.out.below hb0).below x.same⟩
    simp only [pick, List.getElem?_toArray, List.getElem?_cons_succ, List.getElem?_cons_zero, Option.toList_some, List.cons_append, List.nil_append]
    repeat (first | (go_big_quiet_want; refine quiet_load_blk 23 _ rfl (w.heap.size) rfl _ x0 _ Tryd.underlying23 rfl 32 size_digest hm.size ?_; go_big_quiet_on; simp only [Act.put, List.setIfInBounds_toArray, List.set_cons_zero, List.set_cons_succ]) | (go_big_quiet_want; refine quiet_load_blk 23 _ rfl (w.heap.size + 1) rfl _ x1 _ Tryd.underlying23 rfl 32 size_digest hseed.size ?_; go_big_quiet_on; simp only [Act.put, List.setIfInBounds_toArray, List.set_cons_zero, List.set_cons_succ]) | (go_big_quiet_want; refine quiet_load_blk 23 _ rfl (w.heap.size + 1 + 1) rfl _ x2 _ Tryd.underlying23 rfl 32 size_digest hpub.size ?_; go_big_quiet_on; simp only [Act.put, List.setIfInBounds_toArray, List.set_cons_zero, List.set_cons_succ]) | (go_big_quiet_want; refine quiet_load_blk 26 _ rfl (w.heap.size + 1 + 1 + 1) rfl _ x3 _ Tryd.underlying26 rfl 8 sizeAdrs had.size ?_; go_big_quiet_on; simp only [Act.put, List.setIfInBounds_toArray, List.set_cons_zero, List.set_cons_succ]) | go_big_quiet_step (fail))
    exact wpQuiet_nil rfl
  refine AlChk.nil ?_
  refine Walk.call rfl 23 #[(.agg (m.map (Value.int .u8)).toArray), (.agg (seed.map (Value.int .u8)).toArray), (.agg (pub.map (Value.int .u8)).toArray), (.agg (ad.map (Value.int .u32)).toArray)] (RowV 67 (rowW (sigP m seed pub ad))) (fun v w' w'' h k => h.below k) rfl (fun w1 hb1 hF1 => ⟨by go_simp, ?_⟩) ?_
  · skip
    exact sign_v m seed pub ad hm hseed hpub had w1 ((Htab.out.below Hb.out).below hb1)
  rintro v0 w1 hb1 hF1 ⟨pa, pc, rfl, _⟩
  apply Exists.intro
  refine ⟨fun w0 hb0 hF0 => ?_, ?_⟩
  · skip
    exact wpQuiet_nil rfl
  refine AlChk.nil ?_
  refine Walk.call rfl 25 #[.slice pa 67 pc, (.agg (m.map (Value.int .u8)).toArray), (.agg (pub.map (Value.int .u8)).toArray), (.agg (ad.map (Value.int .u32)).toArray)] (TupV 67 (rowW (pubP seed pub ad))) (fun v w' w'' h k => h.below k) rfl (fun w1 hb1 hF1 => ⟨by go_simp, ?_⟩) ?_
  · skip
    have := from_v (rowW (sigP m seed pub ad)) pa pc m pub ad w1 (show RowV 67 (rowW (sigP m seed pub ad)) _ w1 from hF1.2).digs.2 hm hpub had ((Htab.out.below Hb.out).below hb1)
    rw [meets_row hm] at this
    exact this
  rintro v1 w1 hb1 hF1 ⟨qa, qc, rfl, _⟩
  apply Exists.intro
  refine ⟨fun w0 hb0 hF0 => ?_, ?_⟩
  · skip
    simp only [pick, List.getElem?_toArray, List.getElem?_cons_succ, List.getElem?_cons_zero, Option.toList_some, List.cons_append, List.nil_append, Act.put, List.setIfInBounds_toArray, List.set_cons_zero, List.set_cons_succ]
    repeat (first | go_big_quiet_step (fail))
    exact wpQuiet_nil rfl
  refine AlChk.nil ?_
  refine Walk.fin fun w1 hw1 hFw1 _ => ?_
  simp only [List.drop_succ_cons, List.drop_zero]
  have HFw1 := hid hFw1
  have HBw1 := hid (Below.on Hb.out hw1)
  have hsw1 := HBw1.out.size
  have Kmw1 := hid (Km.out.below hw1)
  have Ksw1 := hid (Ks.out.below hw1)
  have Kpw1 := hid (Kp.out.below hw1)
  have Kadw1 := hid (Kad.out.below hw1)
  clear hw1 hFw1
  have Hq := hid (show TupV 67 (rowW (pubP seed pub ad)) (.tuple #[.slice qa 67 qc, .int .i64 0]) w1 from HFw1.out.2).digs
  go_wp2_with (first
     | (refine wpList_load_blk rfl 23 _ rfl (w.heap.size + 1) rfl _ 23 Ksw1.out _ Tryd.underlying23 rfl 32 size_digest hseed.size ?_)
     | (refine wpList_load_blk rfl 23 _ rfl (w.heap.size + 1 + 1) rfl _ 23 Kpw1.out _ Tryd.underlying23 rfl 32 size_digest hpub.size ?_)
     | (refine wpList_load_blk rfl 26 _ rfl (w.heap.size + 1 + 1 + 1) rfl _ 26 Kadw1.out _ Tryd.underlying26 rfl 8 sizeAdrs had.size ?_))
  refine (public_v seed pub ad hseed hpub had _ (Htab.out.below HBw1.out)).mono ?_
  rintro e w50 ⟨_, rfl, bw50, ⟨ra, rc, rfl, hr⟩⟩
  have HBw50 := hid (Below.on HBw1.out bw50)
  have hsw50 := HBw50.out.size
  have Kmw50 := hid (Kmw1.out.below bw50)
  have Ksw50 := hid (Ksw1.out.below bw50)
  have Kpw50 := hid (Kpw1.out.below bw50)
  have Kadw50 := hid (Kadw1.out.below bw50)
  have Hr := hid hr
  have Hq2 := hid (Hq.out.below bw50)
  clear bw50 hr
  go_wp2_with fail
  refine (same_any qa ra 67 qc rc _ _ Hq2.out Hr.out).mono ?_
  rintro e w2 ⟨rfl, bw2⟩
  have HBw2 := hid (Below.on HBw50.out bw2)
  have hsw2 := HBw2.out.size
  have Kmw2 := hid (Kmw50.out.below bw2)
  have Ksw2 := hid (Ksw50.out.below bw2)
  have Kpw2 := hid (Kpw50.out.below bw2)
  have Kadw2 := hid (Kadw50.out.below bw2)
  clear bw2
  go_wp2_with fail
  refine (knows08 _ (Htab.out.below HBw2.out)).mono ?_
  rintro e w3 ⟨rfl, bw3⟩
  have HBw3 := hid (Below.on HBw2.out bw3)
  have hsw3 := HBw3.out.size
  have Kmw3 := hid (Kmw2.out.below bw3)
  have Ksw3 := hid (Ksw2.out.below bw3)
  have Kpw3 := hid (Kpw2.out.below bw3)
  have Kadw3 := hid (Kadw2.out.below bw3)
  clear bw3
  go_wp2_with fail
  go_returns
  exact ⟨rfl, HBw3.out⟩

set_option maxHeartbeats 4000000 in
set_option maxRecDepth 100000 in
theorem wotsLeads_long (na : Option Addr) (n nc : Nat) (ls : List (List Int)) (m pub ad : List Int) (w : World) (hN : DigsAt w na n nc ls) (hn : 100 < n) (tab : ShaTab w) :
    Calls Tryd.prog 5 #[.slice na n nc, (.agg (m.map (Value.int .u8)).toArray), (.agg (pub.map (Value.int .u8)).toArray), (.agg (ad.map (Value.int .u32)).toArray)] w fun e w' => e = .returned (.bool true) ∧ Below w.heap.size w w' := by
  have HN := hid hN
  have hle := hN.le
  have hmx := hN.max
  have hn1 : (100 : Int) < n := by omega
  have b1 := (Below.refl w.heap.size w).alloc (Nat.le_refl _) (.cells (m.map (Value.int .u8)).toArray 23 (0, 0))
  have b2 := b1.alloc b1.size (.cells (pub.map (Value.int .u8)).toArray 23 (0, 0))
  have b3 := b2.alloc b2.size (.cells (ad.map (Value.int .u32)).toArray 26 (0, 0))
  have Km := hid (((Blk.new (w := w) (n := w.heap.size) rfl (m.map (Value.int .u8)).toArray 23).old (.cells (pub.map (Value.int .u8)).toArray 23 (0, 0))).old (.cells (ad.map (Value.int .u32)).toArray 26 (0, 0)))
  have Kp := hid ((Blk.new (w := (w.alloc (.cells (m.map (Value.int .u8)).toArray 23 (0, 0)))) (n := w.heap.size + 1) (by simp only [World.size_alloc]) (pub.map (Value.int .u8)).toArray 23).old (.cells (ad.map (Value.int .u32)).toArray 26 (0, 0)))
  have Kad := hid (Blk.new (w := ((w.alloc (.cells (m.map (Value.int .u8)).toArray 23 (0, 0))).alloc (.cells (pub.map (Value.int .u8)).toArray 23 (0, 0)))) (n := w.heap.size + 1 + 1) (by simp only [World.size_alloc]) (ad.map (Value.int .u32)).toArray 26)
  have Hb := hid b3
  have HzA := hid zsize
  have hbz := b3.size
  have Hbs := hid (show w.heap.size + 1 + 1 + 1 = (((w.alloc (.cells (m.map (Value.int .u8)).toArray 23 (0, 0))).alloc (.cells (pub.map (Value.int .u8)).toArray 23 (0, 0))).alloc (.cells (ad.map (Value.int .u32)).toArray 26 (0, 0))).heap.size by simp only [World.size_alloc])
  have Htab := hid tab
  clear b1 b2 b3 tab
  go_enter Tryd.func5, Tryd.ntmps5
  go_wp2_with fail
  refine (knows08 _ (Htab.out.below Hb.out)).mono ?_
  rintro e w1 ⟨rfl, bw1⟩
  have HBw1 := hid (Below.on Hb.out bw1)
  have hsw1 := HBw1.out.size
  have Kmw1 := hid (Km.out.below bw1)
  have Kpw1 := hid (Kp.out.below bw1)
  have Kadw1 := hid (Kad.out.below bw1)
  clear bw1
  go_wp2_with fail
  go_returns
  exact ⟨rfl, HBw1.out⟩

set_option maxHeartbeats 4000000 in
set_option maxRecDepth 100000 in
theorem wotsLeads_bad (na : Option Addr) (n nc : Nat) (ls : List (List Int)) (m pub ad : List Int) (w : World) (hN : DigsAt w na n nc ls) (hm : Dg m) (hpub : Dg pub) (had : Aw ad) (hn : n ≤ 100) (hb : n ≠ 67) (tab : ShaTab w) :
    Calls Tryd.prog 5 #[.slice na n nc, (.agg (m.map (Value.int .u8)).toArray), (.agg (pub.map (Value.int .u8)).toArray), (.agg (ad.map (Value.int .u32)).toArray)] w fun e w' => e = .returned (.bool true) ∧ Below w.heap.size w w' := by
  have HN := hid hN
  have hle := hN.le
  have hmx := hN.max
  have hn1 : ¬ ((100 : Int) < n) := by omega
  have hn2 : ¬ ((n : Int) = 67) := by omega
  have b1 := (Below.refl w.heap.size w).alloc (Nat.le_refl _) (.cells (m.map (Value.int .u8)).toArray 23 (0, 0))
  have b2 := b1.alloc b1.size (.cells (pub.map (Value.int .u8)).toArray 23 (0, 0))
  have b3 := b2.alloc b2.size (.cells (ad.map (Value.int .u32)).toArray 26 (0, 0))
  have Km := hid (((Blk.new (w := w) (n := w.heap.size) rfl (m.map (Value.int .u8)).toArray 23).old (.cells (pub.map (Value.int .u8)).toArray 23 (0, 0))).old (.cells (ad.map (Value.int .u32)).toArray 26 (0, 0)))
  have Kp := hid ((Blk.new (w := (w.alloc (.cells (m.map (Value.int .u8)).toArray 23 (0, 0)))) (n := w.heap.size + 1) (by simp only [World.size_alloc]) (pub.map (Value.int .u8)).toArray 23).old (.cells (ad.map (Value.int .u32)).toArray 26 (0, 0)))
  have Kad := hid (Blk.new (w := ((w.alloc (.cells (m.map (Value.int .u8)).toArray 23 (0, 0))).alloc (.cells (pub.map (Value.int .u8)).toArray 23 (0, 0)))) (n := w.heap.size + 1 + 1) (by simp only [World.size_alloc]) (ad.map (Value.int .u32)).toArray 26)
  have Hb := hid b3
  have HzA := hid zsize
  have hbz := b3.size
  have Hbs := hid (show w.heap.size + 1 + 1 + 1 = (((w.alloc (.cells (m.map (Value.int .u8)).toArray 23 (0, 0))).alloc (.cells (pub.map (Value.int .u8)).toArray 23 (0, 0))).alloc (.cells (ad.map (Value.int .u32)).toArray 26 (0, 0))).heap.size by simp only [World.size_alloc])
  have Htab := hid tab
  clear b1 b2 b3 tab
  go_enter Tryd.func5, Tryd.ntmps5
  go_wp2_with (first
     | (refine wpList_load_blk rfl 23 _ rfl (w.heap.size) rfl _ 23 Km.out _ Tryd.underlying23 rfl 32 size_digest hm.size ?_)
     | (refine wpList_load_blk rfl 23 _ rfl (w.heap.size + 1) rfl _ 23 Kp.out _ Tryd.underlying23 rfl 32 size_digest hpub.size ?_)
     | (refine wpList_load_blk rfl 26 _ rfl (w.heap.size + 1 + 1) rfl _ 26 Kad.out _ Tryd.underlying26 rfl 8 sizeAdrs had.size ?_))
  refine (from_bad na n nc m pub ad _ (by omega)).mono ?_
  rintro e w1 ⟨rfl, bw1⟩
  have HBw1 := hid (Below.on Hb.out bw1)
  have hsw1 := HBw1.out.size
  have Kmw1 := hid (Km.out.below bw1)
  have Kpw1 := hid (Kp.out.below bw1)
  have Kadw1 := hid (Kad.out.below bw1)
  clear bw1
  go_wp2_with fail
  refine (knows08 _ (Htab.out.below HBw1.out)).mono ?_
  rintro e w2 ⟨rfl, bw2⟩
  have HBw2 := hid (Below.on HBw1.out bw2)
  have hsw2 := HBw2.out.size
  have Kmw2 := hid (Kmw1.out.below bw2)
  have Kpw2 := hid (Kpw1.out.below bw2)
  have Kadw2 := hid (Kadw1.out.below bw2)
  clear bw2
  go_wp2_with fail
  go_returns
  exact ⟨rfl, HBw2.out⟩

set_option maxHeartbeats 4000000 in
set_option maxRecDepth 100000 in
theorem wotsLeads_good (na : Option Addr) (nc : Nat) (ls : List (List Int)) (m pub ad : List Int) (w : World) (hN : DigsAt w na 67 nc ls) (hm : Dg m) (hpub : Dg pub) (had : Aw ad)  (tab : ShaTab w) :
    Calls Tryd.prog 5 #[.slice na 67 nc, (.agg (m.map (Value.int .u8)).toArray), (.agg (pub.map (Value.int .u8)).toArray), (.agg (ad.map (Value.int .u32)).toArray)] w fun e w' => e = .returned (.bool true) ∧ Below w.heap.size w w' := by
  have HN := hid hN
  have hle := hN.le
  have hmx := hN.max
  have b1 := (Below.refl w.heap.size w).alloc (Nat.le_refl _) (.cells (m.map (Value.int .u8)).toArray 23 (0, 0))
  have b2 := b1.alloc b1.size (.cells (pub.map (Value.int .u8)).toArray 23 (0, 0))
  have b3 := b2.alloc b2.size (.cells (ad.map (Value.int .u32)).toArray 26 (0, 0))
  have Km := hid (((Blk.new (w := w) (n := w.heap.size) rfl (m.map (Value.int .u8)).toArray 23).old (.cells (pub.map (Value.int .u8)).toArray 23 (0, 0))).old (.cells (ad.map (Value.int .u32)).toArray 26 (0, 0)))
  have Kp := hid ((Blk.new (w := (w.alloc (.cells (m.map (Value.int .u8)).toArray 23 (0, 0)))) (n := w.heap.size + 1) (by simp only [World.size_alloc]) (pub.map (Value.int .u8)).toArray 23).old (.cells (ad.map (Value.int .u32)).toArray 26 (0, 0)))
  have Kad := hid (Blk.new (w := ((w.alloc (.cells (m.map (Value.int .u8)).toArray 23 (0, 0))).alloc (.cells (pub.map (Value.int .u8)).toArray 23 (0, 0)))) (n := w.heap.size + 1 + 1) (by simp only [World.size_alloc]) (ad.map (Value.int .u32)).toArray 26)
  have Hb := hid b3
  have HzA := hid zsize
  have hbz := b3.size
  have Hbs := hid (show w.heap.size + 1 + 1 + 1 = (((w.alloc (.cells (m.map (Value.int .u8)).toArray 23 (0, 0))).alloc (.cells (pub.map (Value.int .u8)).toArray 23 (0, 0))).alloc (.cells (ad.map (Value.int .u32)).toArray 26 (0, 0))).heap.size by simp only [World.size_alloc])
  have Htab := hid tab
  clear b1 b2 b3 tab
  go_enter Tryd.func5, Tryd.ntmps5
  go_wp2_with (first
     | (refine wpList_load_blk rfl 23 _ rfl (w.heap.size) rfl _ 23 Km.out _ Tryd.underlying23 rfl 32 size_digest hm.size ?_)
     | (refine wpList_load_blk rfl 23 _ rfl (w.heap.size + 1) rfl _ 23 Kp.out _ Tryd.underlying23 rfl 32 size_digest hpub.size ?_)
     | (refine wpList_load_blk rfl 26 _ rfl (w.heap.size + 1 + 1) rfl _ 26 Kad.out _ Tryd.underlying26 rfl 8 sizeAdrs had.size ?_))
  refine (from_v ls na nc m pub ad _ (HN.out.below Hb.out) hm hpub had (Htab.out.below Hb.out)).mono ?_
  rintro e w50 ⟨_, rfl, bw50, ⟨ra, rc, rfl, hr⟩⟩
  have HBw50 := hid (Below.on Hb.out bw50)
  have hsw50 := HBw50.out.size
  have Kmw50 := hid (Km.out.below bw50)
  have Kpw50 := hid (Kp.out.below bw50)
  have Kadw50 := hid (Kad.out.below bw50)
  have Hr := hid hr
  clear bw50 hr
  go_wp2_with (first
     | (refine wpList_load_blk rfl 23 _ rfl (w.heap.size) rfl _ 23 Kmw50.out _ Tryd.underlying23 rfl 32 size_digest hm.size ?_)
     | (refine wpList_load_blk rfl 23 _ rfl (w.heap.size + 1) rfl _ 23 Kpw50.out _ Tryd.underlying23 rfl 32 size_digest hpub.size ?_)
     | (refine wpList_load_blk rfl 26 _ rfl (w.heap.size + 1 + 1) rfl _ 26 Kadw50.out _ Tryd.underlying26 rfl 8 sizeAdrs had.size ?_))
  refine (reffrom_any ls na nc m pub ad _ (HN.out.below HBw50.out) hm hpub had).mono ?_
  rintro e w51 ⟨_, rfl, bw51, ⟨ta, tc, rfl, ht⟩⟩
  have HBw51 := hid (Below.on HBw50.out bw51)
  have hsw51 := HBw51.out.size
  have Kmw51 := hid (Kmw50.out.below bw51)
  have Kpw51 := hid (Kpw50.out.below bw51)
  have Kadw51 := hid (Kadw50.out.below bw51)
  have Ht := hid ht
  have Hr2 := hid (Hr.out.below bw51)
  clear bw51 ht
  go_wp2_with fail
  refine (same_any ra ta 67 rc tc _ _ Hr2.out Ht.out).mono ?_
  rintro e w1 ⟨rfl, bw1⟩
  have HBw1 := hid (Below.on HBw51.out bw1)
  have hsw1 := HBw1.out.size
  have Kmw1 := hid (Kmw51.out.below bw1)
  have Kpw1 := hid (Kpw51.out.below bw1)
  have Kadw1 := hid (Kadw51.out.below bw1)
  clear bw1
  go_wp2_with fail
  refine (knows08 _ (Htab.out.below HBw1.out)).mono ?_
  rintro e w2 ⟨rfl, bw2⟩
  have HBw2 := hid (Below.on HBw1.out bw2)
  have hsw2 := HBw2.out.size
  have Kmw2 := hid (Kmw1.out.below bw2)
  have Kpw2 := hid (Kpw1.out.below bw2)
  have Kadw2 := hid (Kadw1.out.below bw2)
  clear bw2
  go_wp2_with fail
  go_returns
  exact ⟨rfl, HBw2.out⟩
end Go.Proofs.YtjkfbeillmeomaaDoor
