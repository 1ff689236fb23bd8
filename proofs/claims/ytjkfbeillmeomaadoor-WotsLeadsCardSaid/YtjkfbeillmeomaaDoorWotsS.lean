/-
  Layer 8: one-time keys, as the reference makes them; rows compared.
-/
import Derived.Test.YtjkfbeillmeomaaDoorWotsR
namespace Go.Proofs.YtjkfbeillmeomaaDoor
open Go.ChangeShapes Go.WideShapes Go.ChangeAt Go.RowKit

theorem refrun_at (pub ad x : List Int) (F T : Nat) (hpub : Dg pub) (had : Aw ad) (hx : Dg x) (hf : F ≤ T ∧ T ≤ 15) (w : World) :
    Calls Tryd.prog 122 #[.agg (x.map (Value.int .u8)).toArray, .int .i64 (F : Int), .int .i64 ((T : Int) - (F : Int)), .agg (pub.map (Value.int .u8)).toArray, .agg (ad.map (Value.int .u32)).toArray] w fun e w' => e = .returned (.agg ((runZ pub ad x F (T - F)).map (Value.int .u8)).toArray) ∧ Below w.heap.size w w' := by
  have := refrun_any pub ad F hpub had (T - F) x w hx (by omega)
  rw [show ((T - F : Nat) : Int) = (T : Int) - (F : Int) by omega] at this
  exact this
theorem refall_v (k : Nat) (w : World) : Calls Tryd.prog 75 #[.int .i64 (k : Int)] w fun e w' => ∃ v, e = .returned v ∧ Below w.heap.size w w' ∧ IntV (fun _ => k) v w' :=
  (refall_any (k : Int) w).mono fun _ _ ⟨g, c, h1, h2, h3⟩ => ⟨_, h1, h2, IntV.of_own h3 fun i hi => by rw [List.getElem?_replicate, if_pos hi]⟩
theorem refof_v (m : List Int) (hm : Dg m) (w : World) : Calls Tryd.prog 78 #[.agg (m.map (Value.int .u8)).toArray] w fun e w' => ∃ v, e = .returned v ∧ Below w.heap.size w w' ∧ IntV (dgN m) v w' :=
  (refdigits_any m hm.len hm.small w).mono fun _ _ ⟨g, c, h1, h2, h3⟩ => ⟨_, h1, h2, IntV.of_own h3 fun i hi => by
    have h4 := dgN_eq hm hi
    have hl := digits_length m hm.len
    rw [List.getD_eq_getElem?_getD, List.getElem?_eq_getElem (by omega), Option.getD_some] at h4
    rw [List.getElem?_map, List.getElem?_eq_getElem (by omega), Option.map_some, h4]⟩
theorem refsecret_v (seed ad : List Int) (hseed : Dg seed) (had : Aw ad) (w : World) : Calls Tryd.prog 19 #[.agg (seed.map (Value.int .u8)).toArray, .agg (ad.map (Value.int .u32)).toArray] w fun e w' => ∃ v, e = .returned v ∧ Below w.heap.size w w' ∧ RowV 67 (rowW (partZ seed ad)) v w' :=
  (refsecret_any seed ad w hseed had).mono fun _ _ ⟨v, h1, h2, h3⟩ => ⟨v, h1, h2, RowV.of_own h3 (rowW_length _)⟩

set_option maxHeartbeats 4000000 in
set_option maxRecDepth 100000 in
theorem refpublic_any (seed pub ad : List Int) (w : World) (hseed : Dg seed) (hpub : Dg pub) (had : Aw ad) :
    Calls Tryd.prog 21 #[(.agg (seed.map (Value.int .u8)).toArray), (.agg (pub.map (Value.int .u8)).toArray), (.agg (ad.map (Value.int .u32)).toArray)] w fun e w' => ∃ v, e = .returned v ∧ Below w.heap.size w w' ∧ RowV 67 (rowW (pubP seed pub ad)) v w' := by
  have b1 := (Below.refl w.heap.size w).alloc (Nat.le_refl _) (.cells (seed.map (Value.int .u8)).toArray 23 (0, 0))
  have b2 := b1.alloc b1.size (.cells (pub.map (Value.int .u8)).toArray 23 (0, 0))
  have b3 := b2.alloc b2.size (.cells (ad.map (Value.int .u32)).toArray 26 (0, 0))
  have Ks := hid (((Blk.new (w := w) (n := w.heap.size) rfl (seed.map (Value.int .u8)).toArray 23).old (.cells (pub.map (Value.int .u8)).toArray 23 (0, 0))).old (.cells (ad.map (Value.int .u32)).toArray 26 (0, 0)))
  have Kp := hid ((Blk.new (w := (w.alloc (.cells (seed.map (Value.int .u8)).toArray 23 (0, 0)))) (n := w.heap.size + 1) (by simp only [World.size_alloc]) (pub.map (Value.int .u8)).toArray 23).old (.cells (ad.map (Value.int .u32)).toArray 26 (0, 0)))
  have Kad := hid (Blk.new (w := ((w.alloc (.cells (seed.map (Value.int .u8)).toArray 23 (0, 0))).alloc (.cells (pub.map (Value.int .u8)).toArray 23 (0, 0)))) (n := w.heap.size + 1 + 1) (by simp only [World.size_alloc]) (ad.map (Value.int .u32)).toArray 26)
  have Hb := hid b3
  have HzA := hid zsize
  have hbz := b3.size
  have Hbs := hid (show w.heap.size + 1 + 1 + 1 = (((w.alloc (.cells (seed.map (Value.int .u8)).toArray 23 (0, 0))).alloc (.cells (pub.map (Value.int .u8)).toArray 23 (0, 0))).alloc (.cells (ad.map (Value.int .u32)).toArray 26 (0, 0))).heap.size by simp only [World.size_alloc])
  clear b1 b2 b3
  go_enter Tryd.func21, Tryd.ntmps21
  go_wp2_with fail
  refine wp_region_flow 8 [0, 1, 5, 6] [] [(.c 2, [], []), (.c 3, [], []), (.c 4, [], []), (.c 7, [], [])] (by kernel_rfl) (by kernel_rfl) ?_
  apply Exists.intro
  refine ⟨fun w0 hb0 hF0 => ?_, ?_⟩
  · skip
    have x0 : ∀ w', (∃ x : Ext w0, w' = x.at_) → ∃ T, Blk w' (w.heap.size) (seed.map (Value.int .u8)).toArray T := fun w' ⟨x, hx⟩ => ⟨_, hx ▸ (Ks.out.below hb0).below x.same⟩
    have x1 : ∀ w', (∃ x : Ext w0, w' = x.at_) → ∃ T, Blk w' (w.heap.size + 1) (pub.map (Value.int .u8)).toArray T := fun w' ⟨x, hx⟩ => ⟨_, hx ▸ (Kp.out.below hb0).below x.same⟩
    have x2 : ∀ w', (∃ x : Ext w0, w' = x.at_) → ∃ T, Blk w' (w.heap.size + 1 + 1) (ad.map (Value.int .u32)).toArray T := fun w' ⟨x, hx⟩ => ⟨_, hx ▸ (Kad.out.below hb0).below x.same⟩
    simp only [pick, List.getElem?_toArray, List.getElem?_cons_succ, List.getElem?_cons_zero, Option.toList_some, List.cons_append, List.nil_append]
    repeat (first | (go_big_quiet_want; refine quiet_load_blk 23 _ rfl (w.heap.size) rfl _ x0 _ Tryd.underlying23 rfl 32 size_digest hseed.size ?_; go_big_quiet_on; simp only [Act.put, List.setIfInBounds_toArray, List.set_cons_zero, List.set_cons_succ]) | (go_big_quiet_want; refine quiet_load_blk 23 _ rfl (w.heap.size + 1) rfl _ x1 _ Tryd.underlying23 rfl 32 size_digest hpub.size ?_; go_big_quiet_on; simp only [Act.put, List.setIfInBounds_toArray, List.set_cons_zero, List.set_cons_succ]) | (go_big_quiet_want; refine quiet_load_blk 26 _ rfl (w.heap.size + 1 + 1) rfl _ x2 _ Tryd.underlying26 rfl 8 sizeAdrs had.size ?_; go_big_quiet_on; simp only [Act.put, List.setIfInBounds_toArray, List.set_cons_zero, List.set_cons_succ]) | go_big_quiet_step (fail))
    exact wpQuiet_nil rfl
  refine AlChk.nil ?_
  refine Walk.call rfl 19 #[(.agg (seed.map (Value.int .u8)).toArray), (.agg (ad.map (Value.int .u32)).toArray)] (RowV 67 (rowW (partZ seed ad))) (fun v w' w'' h k => h.below k) rfl (fun w1 hb1 hF1 => ⟨by go_simp, ?_⟩) ?_
  · exact refsecret_v seed ad hseed had w1
  rintro v w1 hb1 hF1 ⟨a1, c1, rfl, _⟩
  apply Exists.intro
  refine ⟨fun w2 hb2 hF2 => wpQuiet_nil rfl, ?_⟩
  refine AlChk.nil ?_
  refine Walk.call rfl 75 #[.int .i64 0] (IntV (fun _ => 0)) (fun v w' w'' h k => h.below k) rfl (fun w1 hb1 hF1 => ⟨by go_simp, ?_⟩) ?_
  · exact refall_v 0 w1
  rintro v w1 hb1 hF1 ⟨g2, c2, rfl, _⟩
  apply Exists.intro
  refine ⟨fun w2 hb2 hF2 => wpQuiet_nil rfl, ?_⟩
  refine AlChk.nil ?_
  refine Walk.call rfl 75 #[.int .i64 15] (IntV (fun _ => 15)) (fun v w' w'' h k => h.below k) rfl (fun w1 hb1 hF1 => ⟨by go_simp, ?_⟩) ?_
  · exact refall_v 15 w1
  rintro v w1 hb1 hF1 ⟨g3, c3, rfl, _⟩
  apply Exists.intro
  refine ⟨fun w2 hb2 hF2 => wpQuiet_nil rfl, ?_⟩
  refine AlChk.nil ?_
  refine Walk.call rfl 74 #[.slice a1 67 c1, .slice (some ⟨g2, 0, none⟩) 67 c2, .slice (some ⟨g3, 0, none⟩) 67 c3, (.agg (pub.map (Value.int .u8)).toArray), (.agg (ad.map (Value.int .u32)).toArray)] (RowV 67 (rowW (pubP seed pub ad))) (fun v w' w'' h k => h.below k) rfl (fun w1 hb1 hF1 => ⟨by go_simp, ?_⟩) ?_
  · refine (refruns_any (pubP seed pub ad) (fun _ => 0) (fun _ => 15) (rowW (partZ seed ad)) a1 c1 g2 c2 g3 c3 pub ad w1 (fun i => Dg.pubP seed pub ad i) hF1.1.1.2.digs.2 hpub had hF1.1.2.ints.1 hF1.1.2.ints.2 hF1.2.ints.1 hF1.2.ints.2 (fun _ => ⟨by omega, by omega⟩) (fun i hi W => ?_)).mono ?_
    · rw [rowW_get _ hi]; exact refrun_at pub (setAd ad i 0 0) (partZ seed ad i) 0 15 hpub (had.set (by omega) (by omega) (by omega)) (Dg.part _ _ _) (by omega) W
    · rintro e w2 ⟨v, rfl, b2, o2⟩
      exact ⟨v, rfl, b2, RowV.of_own o2 (rowW_length _)⟩
  rintro v w1 hb1 hF1 _
  apply Exists.intro
  refine ⟨fun w2 hb2 hF2 => wpQuiet_nil rfl, ?_⟩
  refine AlChk.nil ?_
  refine Walk.fin fun w4 h4 hF4 _ => ?_
  simp only [List.drop_succ_cons, List.drop_zero]
  have HB4 := hid (Below.on Hb.out h4)
  have HF4 := hid hF4.2
  clear h4 hF4
  go_wp2_with fail
  go_ret
  exact ⟨_, rfl, HB4.out, HF4.out⟩

set_option maxHeartbeats 4000000 in
set_option maxRecDepth 100000 in
theorem refsign_any (m seed pub ad : List Int) (w : World) (hm : Dg m) (hseed : Dg seed) (hpub : Dg pub) (had : Aw ad) :
    Calls Tryd.prog 24 #[(.agg (m.map (Value.int .u8)).toArray), (.agg (seed.map (Value.int .u8)).toArray), (.agg (pub.map (Value.int .u8)).toArray), (.agg (ad.map (Value.int .u32)).toArray)] w fun e w' => ∃ v, e = .returned v ∧ Below w.heap.size w w' ∧ RowV 67 (rowW (sigP m seed pub ad)) v w' := by
  have b1 := (Below.refl w.heap.size w).alloc (Nat.le_refl _) (.cells (m.map (Value.int .u8)).toArray 23 (0, 0))
  have b2 := b1.alloc b1.size (.cells (seed.map (Value.int .u8)).toArray 23 (0, 0))
  have b3 := b2.alloc b2.size (.cells (pub.map (Value.int .u8)).toArray 23 (0, 0))
  have b4 := b3.alloc b3.size (.cells (ad.map (Value.int .u32)).toArray 26 (0, 0))
  have Km := hid ((((Blk.new (w := w) (n := w.heap.size) rfl (m.map (Value.int .u8)).toArray 23).old (.cells (seed.map (Value.int .u8)).toArray 23 (0, 0))).old (.cells (pub.map (Value.int .u8)).toArray 23 (0, 0))).old (.cells (ad.map (Value.int .u32)).toArray 26 (0, 0)))
  have Ks := hid (((Blk.new (w := (w.alloc (.cells (m.map (Value.int .u8)).toArray 23 (0, 0)))) (n := w.heap.size + 1) (by simp only [World.size_alloc]) (seed.map (Value.int .u8)).toArray 23).old (.cells (pub.map (Value.int .u8)).toArray 23 (0, 0))).old (.cells (ad.map (Value.int .u32)).toArray 26 (0, 0)))
  have Kp := hid ((Blk.new (w := ((w.alloc (.cells (m.map (Value.int .u8)).toArray 23 (0, 0))).alloc (.cells (seed.map (Value.int .u8)).toArray 23 (0, 0)))) (n := w.heap.size + 1 + 1) (by simp only [World.size_alloc]) (pub.map (Value.int .u8)).toArray 23).old (.cells (ad.map (Value.int .u32)).toArray 26 (0, 0)))
  have Kad := hid (Blk.new (w := (((w.alloc (.cells (m.map (Value.int .u8)).toArray 23 (0, 0))).alloc (.cells (seed.map (Value.int .u8)).toArray 23 (0, 0))).alloc (.cells (pub.map (Value.int .u8)).toArray 23 (0, 0)))) (n := w.heap.size + 1 + 1 + 1) (by simp only [World.size_alloc]) (ad.map (Value.int .u32)).toArray 26)
  have Hb := hid b4
  have HzA := hid zsize
  have hbz := b4.size
  have Hbs := hid (show w.heap.size + 1 + 1 + 1 + 1 = ((((w.alloc (.cells (m.map (Value.int .u8)).toArray 23 (0, 0))).alloc (.cells (seed.map (Value.int .u8)).toArray 23 (0, 0))).alloc (.cells (pub.map (Value.int .u8)).toArray 23 (0, 0))).alloc (.cells (ad.map (Value.int .u32)).toArray 26 (0, 0))).heap.size by simp only [World.size_alloc])
  clear b1 b2 b3 b4
  go_enter Tryd.func24, Tryd.ntmps24
  go_wp2_with fail
  refine wp_region_flow 9 [0, 1, 4, 6, 7] [] [(.c 2, [], []), (.c 3, [], []), (.c 5, [], []), (.c 8, [], [])] (by kernel_rfl) (by kernel_rfl) ?_
  apply Exists.intro
  refine ⟨fun w0 hb0 hF0 => ?_, ?_⟩
  · skip
    have x0 : ∀ w', (∃ x : Ext w0, w' = x.at_) → ∃ T, Blk w' (w.heap.size + 1) (seed.map (Value.int .u8)).toArray T := fun w' ⟨x, hx⟩ => ⟨_, hx ▸ (Ks.out.below hb0).below x.same⟩
    have x1 : ∀ w', (∃ x : Ext w0, w' = x.at_) → ∃ T, Blk w' (w.heap.size + 1 + 1) (pub.map (Value.int .u8)).toArray T := fun w' ⟨x, hx⟩ => ⟨_, hx ▸ (Kp.out.below hb0).below x.same⟩
    have x2 : ∀ w', (∃ x : Ext w0, w' = x.at_) → ∃ T, Blk w' (w.heap.size + 1 + 1 + 1) (ad.map (Value.int .u32)).toArray T := fun w' ⟨x, hx⟩ => ⟨_, hx ▸ (Kad.out.below hb0).below x.same⟩
    have x3 : ∀ w', (∃ x : Ext w0, w' = x.at_) → ∃ T, Blk w' (w.heap.size) (m.map (Value.int .u8)).toArray T := fun w' ⟨x, hx⟩ => ⟨_, hx ▸ (Km.out.below hb0).below x.same⟩
    simp only [pick, List.getElem?_toArray, List.getElem?_cons_succ, List.getElem?_cons_zero, Option.toList_some, List.cons_append, List.nil_append]
    repeat (first | (go_big_quiet_want; refine quiet_load_blk 23 _ rfl (w.heap.size + 1) rfl _ x0 _ Tryd.underlying23 rfl 32 size_digest hseed.size ?_; go_big_quiet_on; simp only [Act.put, List.setIfInBounds_toArray, List.set_cons_zero, List.set_cons_succ]) | (go_big_quiet_want; refine quiet_load_blk 23 _ rfl (w.heap.size + 1 + 1) rfl _ x1 _ Tryd.underlying23 rfl 32 size_digest hpub.size ?_; go_big_quiet_on; simp only [Act.put, List.setIfInBounds_toArray, List.set_cons_zero, List.set_cons_succ]) | (go_big_quiet_want; refine quiet_load_blk 26 _ rfl (w.heap.size + 1 + 1 + 1) rfl _ x2 _ Tryd.underlying26 rfl 8 sizeAdrs had.size ?_; go_big_quiet_on; simp only [Act.put, List.setIfInBounds_toArray, List.set_cons_zero, List.set_cons_succ]) | (go_big_quiet_want; refine quiet_load_blk 23 _ rfl (w.heap.size) rfl _ x3 _ Tryd.underlying23 rfl 32 size_digest hm.size ?_; go_big_quiet_on; simp only [Act.put, List.setIfInBounds_toArray, List.set_cons_zero, List.set_cons_succ]) | go_big_quiet_step (fail))
    exact wpQuiet_nil rfl
  refine AlChk.nil ?_
  refine Walk.call rfl 19 #[(.agg (seed.map (Value.int .u8)).toArray), (.agg (ad.map (Value.int .u32)).toArray)] (RowV 67 (rowW (partZ seed ad))) (fun v w' w'' h k => h.below k) rfl (fun w1 hb1 hF1 => ⟨by go_simp, ?_⟩) ?_
  · exact refsecret_v seed ad hseed had w1
  rintro v w1 hb1 hF1 ⟨a1, c1, rfl, _⟩
  apply Exists.intro
  refine ⟨fun w2 hb2 hF2 => wpQuiet_nil rfl, ?_⟩
  refine AlChk.nil ?_
  refine Walk.call rfl 75 #[.int .i64 0] (IntV (fun _ => 0)) (fun v w' w'' h k => h.below k) rfl (fun w1 hb1 hF1 => ⟨by go_simp, ?_⟩) ?_
  · exact refall_v 0 w1
  rintro v w1 hb1 hF1 ⟨g2, c2, rfl, _⟩
  apply Exists.intro
  refine ⟨fun w2 hb2 hF2 => wpQuiet_nil rfl, ?_⟩
  refine AlChk.nil ?_
  refine Walk.call rfl 78 #[(.agg (m.map (Value.int .u8)).toArray)] (IntV (dgN m)) (fun v w' w'' h k => h.below k) rfl (fun w1 hb1 hF1 => ⟨by go_simp, ?_⟩) ?_
  · exact refof_v m hm w1
  rintro v w1 hb1 hF1 ⟨g3, c3, rfl, _⟩
  apply Exists.intro
  refine ⟨fun w2 hb2 hF2 => wpQuiet_nil rfl, ?_⟩
  refine AlChk.nil ?_
  refine Walk.call rfl 74 #[.slice a1 67 c1, .slice (some ⟨g2, 0, none⟩) 67 c2, .slice (some ⟨g3, 0, none⟩) 67 c3, (.agg (pub.map (Value.int .u8)).toArray), (.agg (ad.map (Value.int .u32)).toArray)] (RowV 67 (rowW (sigP m seed pub ad))) (fun v w' w'' h k => h.below k) rfl (fun w1 hb1 hF1 => ⟨by go_simp, ?_⟩) ?_
  · refine (refruns_any (sigP m seed pub ad) (fun _ => 0) (dgN m) (rowW (partZ seed ad)) a1 c1 g2 c2 g3 c3 pub ad w1 (fun i => Dg.sigP m seed pub ad i) hF1.1.1.2.digs.2 hpub had hF1.1.2.ints.1 hF1.1.2.ints.2 hF1.2.ints.1 hF1.2.ints.2 (fun i => ⟨by omega, dgN_le hm i⟩) (fun i hi W => ?_)).mono ?_
    · rw [rowW_get _ hi]; exact refrun_at pub (setAd ad i 0 0) (partZ seed ad i) 0 (dgN m i) hpub (had.set (by omega) (by omega) (by omega)) (Dg.part _ _ _) ⟨by omega, dgN_le hm i⟩ W
    · rintro e w2 ⟨v, rfl, b2, o2⟩
      exact ⟨v, rfl, b2, RowV.of_own o2 (rowW_length _)⟩
  rintro v w1 hb1 hF1 _
  apply Exists.intro
  refine ⟨fun w2 hb2 hF2 => wpQuiet_nil rfl, ?_⟩
  refine AlChk.nil ?_
  refine Walk.fin fun w4 h4 hF4 _ => ?_
  simp only [List.drop_succ_cons, List.drop_zero]
  have HB4 := hid (Below.on Hb.out h4)
  have HF4 := hid hF4.2
  clear h4 hF4
  go_wp2_with fail
  go_ret
  exact ⟨_, rfl, HB4.out, HF4.out⟩

set_option maxHeartbeats 4000000 in
set_option maxRecDepth 100000 in
theorem reffrom_any (ls : List (List Int)) (a1 : Option Addr) (c1 : Nat) (m pub ad : List Int) (w : World) (hN : DigsAt w a1 67 c1 ls) (hm : Dg m) (hpub : Dg pub) (had : Aw ad) :
    Calls Tryd.prog 26 #[.slice a1 67 c1, (.agg (m.map (Value.int .u8)).toArray), (.agg (pub.map (Value.int .u8)).toArray), (.agg (ad.map (Value.int .u32)).toArray)] w fun e w' => ∃ v, e = .returned v ∧ Below w.heap.size w w' ∧ RowV 67 (rowW (fromP ls m pub ad)) v w' := by
  have HN := hid hN
  have HE := hid hN.each
  have Hnl := hid hN.length
  clear hN
  have b1 := (Below.refl w.heap.size w).alloc (Nat.le_refl _) (.cells (m.map (Value.int .u8)).toArray 23 (0, 0))
  have b2 := b1.alloc b1.size (.cells (pub.map (Value.int .u8)).toArray 23 (0, 0))
  have b3 := b2.alloc b2.size (.cells (ad.map (Value.int .u32)).toArray 26 (0, 0))
  have Km := hid (((Blk.new (w := w) (n := w.heap.size) rfl (m.map (Value.int .u8)).toArray 23).old (.cells (pub.map (Value.int .u8)).toArray 23 (0, 0))).old (.cells (ad.map (Value.int .u32)).toArray 26 (0, 0)))
  have Kp := hid ((Blk.new (w := (w.alloc (.cells (m.map (Value.int .u8)).toArray 23 (0, 0)))) (n := w.heap.size + 1) (by simp only [World.size_alloc]) (pub.map (Value.int .u8)).toArray 23).old (.cells (ad.map (Value.int .u32)).toArray 26 (0, 0)))
  have Kad := hid (Blk.new (w := ((w.alloc (.cells (m.map (Value.int .u8)).toArray 23 (0, 0))).alloc (.cells (pub.map (Value.int .u8)).toArray 23 (0, 0)))) (n := w.heap.size + 1 + 1) (by simp only [World.size_alloc]) (ad.map (Value.int .u32)).toArray 26)
  have Hb := hid b3
  have HzA := hid zsize
  have hbz := b3.size
  have Hbs := hid (show w.heap.size + 1 + 1 + 1 = (((w.alloc (.cells (m.map (Value.int .u8)).toArray 23 (0, 0))).alloc (.cells (pub.map (Value.int .u8)).toArray 23 (0, 0))).alloc (.cells (ad.map (Value.int .u32)).toArray 26 (0, 0))).heap.size by simp only [World.size_alloc])
  clear b1 b2 b3
  go_enter Tryd.func26, Tryd.ntmps26
  go_wp2_with fail
  refine wp_region_flow 7 [0, 1, 4, 5] [] [(.c 2, [], []), (.c 3, [], []), (.c 6, [], [])] (by kernel_rfl) (by kernel_rfl) ?_
  apply Exists.intro
  refine ⟨fun w0 hb0 hF0 => ?_, ?_⟩
  · skip
    have x0 : ∀ w', (∃ x : Ext w0, w' = x.at_) → ∃ T, Blk w' (w.heap.size + 1) (pub.map (Value.int .u8)).toArray T := fun w' ⟨x, hx⟩ => ⟨_, hx ▸ (Kp.out.below hb0).below x.same⟩
    have x1 : ∀ w', (∃ x : Ext w0, w' = x.at_) → ∃ T, Blk w' (w.heap.size + 1 + 1) (ad.map (Value.int .u32)).toArray T := fun w' ⟨x, hx⟩ => ⟨_, hx ▸ (Kad.out.below hb0).below x.same⟩
    have x2 : ∀ w', (∃ x : Ext w0, w' = x.at_) → ∃ T, Blk w' (w.heap.size) (m.map (Value.int .u8)).toArray T := fun w' ⟨x, hx⟩ => ⟨_, hx ▸ (Km.out.below hb0).below x.same⟩
    simp only [pick, List.getElem?_toArray, List.getElem?_cons_succ, List.getElem?_cons_zero, Option.toList_some, List.cons_append, List.nil_append]
    repeat (first | (go_big_quiet_want; refine quiet_load_blk 23 _ rfl (w.heap.size + 1) rfl _ x0 _ Tryd.underlying23 rfl 32 size_digest hpub.size ?_; go_big_quiet_on; simp only [Act.put, List.setIfInBounds_toArray, List.set_cons_zero, List.set_cons_succ]) | (go_big_quiet_want; refine quiet_load_blk 26 _ rfl (w.heap.size + 1 + 1) rfl _ x1 _ Tryd.underlying26 rfl 8 sizeAdrs had.size ?_; go_big_quiet_on; simp only [Act.put, List.setIfInBounds_toArray, List.set_cons_zero, List.set_cons_succ]) | (go_big_quiet_want; refine quiet_load_blk 23 _ rfl (w.heap.size) rfl _ x2 _ Tryd.underlying23 rfl 32 size_digest hm.size ?_; go_big_quiet_on; simp only [Act.put, List.setIfInBounds_toArray, List.set_cons_zero, List.set_cons_succ]) | go_big_quiet_step (fail))
    exact wpQuiet_nil rfl
  refine AlChk.nil ?_
  refine Walk.call rfl 78 #[(.agg (m.map (Value.int .u8)).toArray)] (IntV (dgN m)) (fun v w' w'' h k => h.below k) rfl (fun w1 hb1 hF1 => ⟨by go_simp, ?_⟩) ?_
  · exact refof_v m hm w1
  rintro v w1 hb1 hF1 ⟨g2, c2, rfl, _⟩
  apply Exists.intro
  refine ⟨fun w2 hb2 hF2 => wpQuiet_nil rfl, ?_⟩
  refine AlChk.nil ?_
  refine Walk.call rfl 75 #[.int .i64 15] (IntV (fun _ => 15)) (fun v w' w'' h k => h.below k) rfl (fun w1 hb1 hF1 => ⟨by go_simp, ?_⟩) ?_
  · exact refall_v 15 w1
  rintro v w1 hb1 hF1 ⟨g3, c3, rfl, _⟩
  apply Exists.intro
  refine ⟨fun w2 hb2 hF2 => wpQuiet_nil rfl, ?_⟩
  refine AlChk.nil ?_
  refine Walk.call rfl 74 #[.slice a1 67 c1, .slice (some ⟨g2, 0, none⟩) 67 c2, .slice (some ⟨g3, 0, none⟩) 67 c3, (.agg (pub.map (Value.int .u8)).toArray), (.agg (ad.map (Value.int .u32)).toArray)] (RowV 67 (rowW (fromP ls m pub ad))) (fun v w' w'' h k => h.below k) rfl (fun w1 hb1 hF1 => ⟨by go_simp, ?_⟩) ?_
  · refine (refruns_any (fromP ls m pub ad) (dgN m) (fun _ => 15) ls a1 c1 g2 c2 g3 c3 pub ad w1 (fun i => Dg.fromP HE.out m pub ad i) (HN.out.below (Below.on Hb.out hb1)) hpub had hF1.1.2.ints.1 hF1.1.2.ints.2 hF1.2.ints.1 hF1.2.ints.2 (fun i => ⟨dgN_le hm i, by omega⟩) (fun i hi W => ?_)).mono ?_
    · have hg := getZ (l := ls) (i := i) (by rw [Hnl.out]; exact hi); rw [← hg]; exact refrun_at pub (setAd ad i 0 0) (ls.getD i zD) (dgN m i) 15 hpub (had.set (by omega) (by omega) (by omega)) (Dg.getZ HE.out i) ⟨dgN_le hm i, by omega⟩ W
    · rintro e w2 ⟨v, rfl, b2, o2⟩
      exact ⟨v, rfl, b2, RowV.of_own o2 (rowW_length _)⟩
  rintro v w1 hb1 hF1 _
  apply Exists.intro
  refine ⟨fun w2 hb2 hF2 => wpQuiet_nil rfl, ?_⟩
  refine AlChk.nil ?_
  refine Walk.fin fun w4 h4 hF4 _ => ?_
  simp only [List.drop_succ_cons, List.drop_zero]
  have HB4 := hid (Below.on Hb.out h4)
  have HF4 := hid hF4.2
  clear h4 hF4
  go_wp2_with fail
  go_ret
  exact ⟨_, rfl, HB4.out, HF4.out⟩

set_option maxHeartbeats 4000000 in
set_option maxRecDepth 100000 in
theorem same_any (a1 a2 : Option Addr) (n c1 c2 : Nat) (ds : List (List Int)) (w : World) (h1 : DigsAt w a1 n c1 ds) (h2 : DigsAt w a2 n c2 ds) :
    Calls Tryd.prog 17 #[.slice a1 n c1, .slice a2 n c2] w fun e w' => e = .returned (.bool true) ∧ Below w.heap.size w w' := by
  have HN1 := hid h1
  have HN2 := hid h2
  have hle1 := h1.le
  have hmx1 := h1.max
  have hle2 := h2.le
  have hmx2 := h2.max
  clear h1 h2
  go_enter Tryd.func17, Tryd.ntmps17
  go_wp2_with fail
  go_loopw [5] (fun iv wr => ∃ k : Nat, k ≤ n ∧ iv = .int .i64 k ∧ Below w.heap.size w wr) (fun iv _ => n - (intOf iv).toNat)
  case atStart => exact ⟨0, Nat.zero_le _, rfl, Below.refl _ _⟩
  case round =>
    obtain ⟨k, hk, rfl, bel⟩ := hrel
    have HB := hid bel
    clear bel
    by_cases hlt : k < n
    · have hc0 : (k : Int) < n := by omega
      have HX := hid (HN1.out.get (j := k) hlt)
      obtain ⟨xs, xo, rfl, hxs, hcell⟩ := (HN1.out.below HB.out).at_ (by omega)
      obtain ⟨ys, yo, rfl, hys, hcell2⟩ := (HN2.out.below HB.out).at_ (by omega)
      have Hc := hid (hcell k hlt)
      have Hd := hid (hcell2 k hlt)
      clear hcell hcell2
      generalize ds.getD k [] = X at *
      have q1 := fun W => neD_self X HX.out.len W
      go_wp2_with fail
      refine wp_region_flow 9 (List.range 9) [] [] (by kernel_rfl) (by kernel_rfl) ?_
      apply Exists.intro
      refine ⟨fun w0 hb0 hF0 => ?_, ?_⟩
      · skip
        have x0 : ∀ w', (∃ x : Ext w0, w' = x.at_) → w'.rangeAt xs (xo + k * 32) (X.map (Value.int .u8)) := fun w' ⟨x, hx⟩ => hx ▸ rangeAt_below (rangeAt_below Hc.out hxs hb0) (Nat.lt_of_lt_of_le hxs hb0.size) x.same
        have x1 : ∀ w', (∃ x : Ext w0, w' = x.at_) → w'.rangeAt ys (yo + k * 32) (X.map (Value.int .u8)) := fun w' ⟨x, hx⟩ => hx ▸ rangeAt_below (rangeAt_below Hd.out hys hb0) (Nat.lt_of_lt_of_le hys hb0.size) x.same
        simp only [pick, List.range, List.range.loop, List.getElem?_toArray, List.getElem?_cons_succ, List.getElem?_cons_zero, Option.toList_some, List.cons_append, List.nil_append]
        repeat (first | (go_big_quiet_want; refine quiet_index_digs 28 _ _ rfl Tryd.underlying28 size_digest xs xo n c1 rfl _ _ rfl k (by omega) (by omega) ?_; go_big_quiet_on; simp only [Act.put, List.setIfInBounds_toArray, List.set_cons_zero, List.set_cons_succ]) | (go_big_quiet_want; refine quiet_index_digs 28 _ _ rfl Tryd.underlying28 size_digest ys yo n c2 rfl _ _ rfl k (by omega) (by omega) ?_; go_big_quiet_on; simp only [Act.put, List.setIfInBounds_toArray, List.set_cons_zero, List.set_cons_succ]) | (go_big_quiet_want; refine quiet_load_mid 23 _ rfl xs (xo + k * 32) rfl _ x0 _ Tryd.underlying23 rfl (by rw [List.length_map, HX.out.len]; exact size_digest) ?_; go_big_quiet_on; simp only [Act.put, List.setIfInBounds_toArray, List.set_cons_zero, List.set_cons_succ]) | (go_big_quiet_want; refine quiet_load_mid 23 _ rfl ys (yo + k * 32) rfl _ x1 _ Tryd.underlying23 rfl (by rw [List.length_map, HX.out.len]; exact size_digest) ?_; go_big_quiet_on; simp only [Act.put, List.setIfInBounds_toArray, List.set_cons_zero, List.set_cons_succ]) | (go_big_quiet_want; refine quiet_cmp _ _ rfl _ _ _ rfl rfl q1 ?_; go_big_quiet_on; simp only [Act.put, List.setIfInBounds_toArray, List.set_cons_zero, List.set_cons_succ]) | go_big_quiet_step (fail))
        exact wpQuiet_nil rfl
      refine AlChk.nil ?_
      refine Walk.fin fun w5 h5 _ _ => ?_
      simp only [List.drop_succ_cons, List.drop_zero]
      have HB5 := hid (Below.on HB.out h5)
      clear h5
      go_wp2_with fail
      exact ⟨⟨k + 1, by omega, by go_num, HB5.out⟩, by simp [intOf]; omega⟩
    · have hkn : k = n := by omega
      subst hkn
      go_wp2_with fail
      go_returns
      exact ⟨rfl, HB.out⟩
end Go.Proofs.YtjkfbeillmeomaaDoor
