/-
  Layer 11: rows of parts whose rows of digests were appended to.
-/
import Derived.Test.YtjkfbeillmeomaaGreatDoorSZSign
import Derived.Test.YtjkfbeillmeomaaGreatDoorSZVerR
namespace Go.Proofs.YtjkfbeillmeomaaGreatDoor
set_option maxRecDepth 100000
open Go.ChangeShapes Go.WideShapes Go.ChangeAt Go.RowKit
set_option maxHeartbeats 2000000 in
theorem refPrf_any (key m : List Int) (ta : Option Addr) (tn tc : Nat) (w : World) (hkey : Dg key) (hT : TextAt w ta tn tc m) (hn : tn ≤ 140737488320000) :
    Calls Tryz.prog 25 #[.agg (key.map (Value.int .u8)).toArray, .slice ta tn tc] w fun e w' => e = .returned (.agg ((prfZ key m).map (Value.int .u8)).toArray) ∧ Below w.heap.size w w' := by
  have HM : Hid (prfZ key m = sumZ (be 32 3 ++ (key ++ m))) := hid (by unfold prfZ; rfl)
  have HD := hid (Dg.prf key m)
  have b1 := (Below.refl w.heap.size w).alloc (Nat.le_refl _) (.cells (key.map (Value.int .u8)).toArray 25 (0, 0))
  have bz := b1.alloc b1.size (.cells (byteCells 32 []) 25 (0, 0))
  have K0 := hid ((Blk.new (w := w) (n := w.heap.size) rfl (key.map (Value.int .u8)).toArray 25).old (.cells (byteCells 32 []) 25 (0, 0)))
  have Kr := hid (Blk.new (w := (w.alloc (.cells (key.map (Value.int .u8)).toArray 25 (0, 0)))) (n := w.heap.size + 1) (by simp only [World.size_alloc]) (byteCells 32 []) 25)
  have Hb := hid bz
  have HzA := hid zsize
  have hbz := bz.size
  have hbs : w.heap.size + 1 + 1 = ((w.alloc (.cells (key.map (Value.int .u8)).toArray 25 (0, 0))).alloc (.cells (byteCells 32 []) 25 (0, 0))).heap.size := by simp only [World.size_alloc]
  have Hbs := hid hbs
  have HT := hid hT
  have hle := hT.le
  have hmx := hT.max
  have Hml := hid hT.length
  clear bz hbs hT b1
  go_enter Tryz.func25, Tryz.ntmps25
  go_wp2_with (refine wpList_load_blk rfl 25 _ rfl (w.heap.size) rfl _ 25 K0.out _ Tryz.underlying25 rfl 32 size_digest hkey.size ?_)
  refine (of_any 3 key m ta tn tc _ (by omega) (by omega) hkey (HT.out.below Hb.out) (by omega)).mono ?_
  rintro e w4 ⟨rfl, b4⟩
  rw [← HM.out]
  have Hr4 := hid (Kr.out.below b4)
  have Hb4 := hid (Below.on Hb.out b4)
  clear b4
  go_wp2_with (refine wpList_store_blk rfl 25 _ _ rfl (w.heap.size + 1) _ rfl rfl _ 25 Hr4.out 32 size_digest HzA.out HD.out.size (ints_one _ _) ?_; intro w7 hbut7 hk7)
  exact bodyPost_ret (v := .agg ((prfZ key m).map (Value.int .u8)).toArray) (results_blk Tryz.results25 _ (w.heap.size + 1) rfl _ 25 hk7 _ Tryz.underlying25 rfl 32 size_digest HD.out.size) rfl ⟨rfl, hbut7.below Hb4.out Hb4.out.size (by omega)⟩
set_option maxHeartbeats 4000000 in
theorem refsign_own (m seed pub ad : List Int) (w : World) (hm : Dg m) (hseed : Dg seed) (hpub : Dg pub) (had : Aw ad) :
    Calls Tryz.prog 29 #[(.agg (m.map (Value.int .u8)).toArray), (.agg (seed.map (Value.int .u8)).toArray), (.agg (pub.map (Value.int .u8)).toArray), (.agg (ad.map (Value.int .u32)).toArray)] w fun e w' => ∃ v, e = .returned v ∧ Below w.heap.size w w' ∧ OwnD w' w.heap.size 25 v (rowW (sigP m seed pub ad)) := by
  have b1 := (Below.refl w.heap.size w).alloc (Nat.le_refl _) (.cells (m.map (Value.int .u8)).toArray 25 (0, 0))
  have b2 := b1.alloc b1.size (.cells (seed.map (Value.int .u8)).toArray 25 (0, 0))
  have b3 := b2.alloc b2.size (.cells (pub.map (Value.int .u8)).toArray 25 (0, 0))
  have b4 := b3.alloc b3.size (.cells (ad.map (Value.int .u32)).toArray 73 (0, 0))
  have Km := hid ((((Blk.new (w := w) (n := w.heap.size) rfl (m.map (Value.int .u8)).toArray 25).old (.cells (seed.map (Value.int .u8)).toArray 25 (0, 0))).old (.cells (pub.map (Value.int .u8)).toArray 25 (0, 0))).old (.cells (ad.map (Value.int .u32)).toArray 73 (0, 0)))
  have Ks := hid (((Blk.new (w := (w.alloc (.cells (m.map (Value.int .u8)).toArray 25 (0, 0)))) (n := w.heap.size + 1) (by simp only [World.size_alloc]) (seed.map (Value.int .u8)).toArray 25).old (.cells (pub.map (Value.int .u8)).toArray 25 (0, 0))).old (.cells (ad.map (Value.int .u32)).toArray 73 (0, 0)))
  have Kp := hid ((Blk.new (w := ((w.alloc (.cells (m.map (Value.int .u8)).toArray 25 (0, 0))).alloc (.cells (seed.map (Value.int .u8)).toArray 25 (0, 0)))) (n := w.heap.size + 1 + 1) (by simp only [World.size_alloc]) (pub.map (Value.int .u8)).toArray 25).old (.cells (ad.map (Value.int .u32)).toArray 73 (0, 0)))
  have Kad := hid (Blk.new (w := (((w.alloc (.cells (m.map (Value.int .u8)).toArray 25 (0, 0))).alloc (.cells (seed.map (Value.int .u8)).toArray 25 (0, 0))).alloc (.cells (pub.map (Value.int .u8)).toArray 25 (0, 0)))) (n := w.heap.size + 1 + 1 + 1) (by simp only [World.size_alloc]) (ad.map (Value.int .u32)).toArray 73)
  have Hb := hid b4
  have HzA := hid zsize
  have hbz := b4.size
  have Hbs := hid (show w.heap.size + 1 + 1 + 1 + 1 = ((((w.alloc (.cells (m.map (Value.int .u8)).toArray 25 (0, 0))).alloc (.cells (seed.map (Value.int .u8)).toArray 25 (0, 0))).alloc (.cells (pub.map (Value.int .u8)).toArray 25 (0, 0))).alloc (.cells (ad.map (Value.int .u32)).toArray 73 (0, 0))).heap.size by simp only [World.size_alloc])
  clear b1 b2 b3 b4
  go_enter Tryz.func29, Tryz.ntmps29
  go_wp2_with fail
  refine wp_region_flow 9 [0, 1, 4, 6, 7] [] [(.c 2, [], []), (.c 3, [], []), (.c 5, [], []), (.c 8, [], [])] (by kernel_rfl) (by kernel_rfl) ?_
  apply Exists.intro
  refine ⟨fun w0 hb0 hF0 => ?_, ?_⟩
  · skip
    have x0 : ∀ w', (∃ x : Ext w0, w' = x.at_) → ∃ T, Blk w' (w.heap.size + 1) (seed.map (Value.int .u8)).toArray T := fun w' ⟨x, hx⟩ => ⟨_, hx ▸ (Ks.out.below hb0).below x.same⟩
    have x1 : ∀ w', (∃ x : Ext w0, w' = x.at_) → ∃ T, Blk w' (w.heap.size + 1 + 1) (pub.map (Value.int .u8)).toArray T := fun w' ⟨x, hx⟩ => ⟨_, hx ▸ (Kp.out.below hb0).below x.same⟩
    have x2 : ∀ w', (∃ x : Ext w0, w' = x.at_) → ∃ T, Blk w' (w.heap.size + 1 + 1 + 1) (ad.map (Value.int .u32)).toArray T := fun w' ⟨x, hx⟩ => ⟨_, hx ▸ (Kad.out.below hb0).below x.same⟩
    have x3 : ∀ w', (∃ x : Ext w0, w' = x.at_) → ∃ T, Blk w' (w.heap.size) (m.map (Value.int .u8)).toArray T := fun w' ⟨x, hx⟩ => ⟨_, hx ▸ (Km.out.below hb0).below x.same⟩
    simp only [pick, List.getElem?_toArray, List.getElem?_cons_succ, List.getElem?_cons_zero, Option.toList_some, List.cons_append, List.nil_append]
    repeat (first | (go_big_quiet_want; refine quiet_load_blk 25 _ rfl (w.heap.size + 1) rfl _ x0 _ Tryz.underlying25 rfl 32 size_digest hseed.size ?_; go_big_quiet_on; simp only [Act.put, List.setIfInBounds_toArray, List.set_cons_zero, List.set_cons_succ]) | (go_big_quiet_want; refine quiet_load_blk 25 _ rfl (w.heap.size + 1 + 1) rfl _ x1 _ Tryz.underlying25 rfl 32 size_digest hpub.size ?_; go_big_quiet_on; simp only [Act.put, List.setIfInBounds_toArray, List.set_cons_zero, List.set_cons_succ]) | (go_big_quiet_want; refine quiet_load_blk 73 _ rfl (w.heap.size + 1 + 1 + 1) rfl _ x2 _ Tryz.underlying73 rfl 8 sizeAdrs had.size ?_; go_big_quiet_on; simp only [Act.put, List.setIfInBounds_toArray, List.set_cons_zero, List.set_cons_succ]) | (go_big_quiet_want; refine quiet_load_blk 25 _ rfl (w.heap.size) rfl _ x3 _ Tryz.underlying25 rfl 32 size_digest hm.size ?_; go_big_quiet_on; simp only [Act.put, List.setIfInBounds_toArray, List.set_cons_zero, List.set_cons_succ]) | go_big_quiet_step (fail))
    exact wpQuiet_nil rfl
  refine AlChk.nil ?_
  refine Walk.call rfl 44 #[(.agg (seed.map (Value.int .u8)).toArray), (.agg (ad.map (Value.int .u32)).toArray)] (RowV 67 (rowW (partZ seed ad))) (fun v w' w'' h k => h.below k) rfl (fun w1 hb1 hF1 => ⟨by go_simp, ?_⟩) ?_
  · exact refsecret_v seed ad hseed had w1
  rintro v w1 hb1 hF1 ⟨a1, c1, rfl, _⟩
  apply Exists.intro
  refine ⟨fun w2 hb2 hF2 => wpQuiet_nil rfl, ?_⟩
  refine AlChk.nil ?_
  refine Walk.call rfl 45 #[.int .i64 0] (IntV (fun _ => 0)) (fun v w' w'' h k => h.below k) rfl (fun w1 hb1 hF1 => ⟨by go_simp, ?_⟩) ?_
  · exact refall_v 0 w1
  rintro v w1 hb1 hF1 ⟨g2, c2, rfl, _⟩
  apply Exists.intro
  refine ⟨fun w2 hb2 hF2 => wpQuiet_nil rfl, ?_⟩
  refine AlChk.nil ?_
  refine Walk.call rfl 46 #[(.agg (m.map (Value.int .u8)).toArray)] (IntV (dgN m)) (fun v w' w'' h k => h.below k) rfl (fun w1 hb1 hF1 => ⟨by go_simp, ?_⟩) ?_
  · exact refof_v m hm w1
  rintro v w1 hb1 hF1 ⟨g3, c3, rfl, _⟩
  apply Exists.intro
  refine ⟨fun w2 hb2 hF2 => wpQuiet_nil rfl, ?_⟩
  refine AlChk.nil ?_
  refine Walk.call rfl 43 #[.slice a1 67 c1, .slice (some ⟨g2, 0, none⟩) 67 c2, .slice (some ⟨g3, 0, none⟩) 67 c3, (.agg (pub.map (Value.int .u8)).toArray), (.agg (ad.map (Value.int .u32)).toArray)] (fun v w' => OwnD w' w.heap.size 25 v (rowW (sigP m seed pub ad))) (fun v w' w'' h k => h.below k) rfl (fun w1 hb1 hF1 => ⟨by go_simp, ?_⟩) ?_
  · refine (refruns_any (sigP m seed pub ad) (fun _ => 0) (dgN m) (rowW (partZ seed ad)) a1 c1 g2 c2 g3 c3 pub ad w1 (fun i => Dg.sigP m seed pub ad i) hF1.1.1.2.digs.2 hpub had hF1.1.2.ints.1 hF1.1.2.ints.2 hF1.2.ints.1 hF1.2.ints.2 (fun i => ⟨by omega, dgN_le hm i⟩) (fun i hi W => ?_)).mono ?_
    · rw [rowW_get _ hi]; exact refrun_at pub (setAd ad i 0 0) (partZ seed ad i) 0 (dgN m i) hpub (had.set (by omega) (by omega) (by omega)) (Dg.part _ _ _) ⟨by omega, dgN_le hm i⟩ W
    · rintro e w2 ⟨v, rfl, b2, o2⟩
      exact ⟨v, rfl, b2, o2.re (Nat.le_trans Hb.out.size hb1.size)⟩
  rintro v w1 hb1 hF1 _
  apply Exists.intro
  refine ⟨fun w2 hb2 hF2 => wpQuiet_nil rfl, ?_⟩
  refine AlChk.nil ?_
  refine Walk.fin fun w4 h4 hF4 _ => ?_
  simp only [List.drop_succ_cons, List.drop_zero]
  have HB4 := hid (Below.on Hb.out h4)
  have HF4 := hid hF4.2
  clear h4 hF4
  go_wp2_with fail
  go_ret
  exact ⟨_, rfl, HB4.out, HF4.out⟩
set_option maxHeartbeats 4000000 in
theorem refbuild_own (seed prf pub : List Int) (la tr : Int) (n leaf : Nat) (w : World) (hseed : Dg seed) (hprf : Dg prf) (hpub : Dg pub) (hla : 0 ≤ la ∧ la < 4294967296) (htr : 0 ≤ tr ∧ tr < 18446744073709551616) (hr : rightZ n leaf = true) :
    Calls Tryz.prog 28 #[(.agg ((secL seed prf pub).map (Value.int .u8)).toArray), .int .u32 la, .int .u64 tr, .int .i64 n, .int .i64 leaf] w fun e w' => ∃ v, e = .returned (.tuple #[(.agg ((nodeZ pub (treeZ la tr) (fun j => leafZ seed pub la tr j) n 0).map (Value.int .u8)).toArray), v]) ∧ Below w.heap.size w w' ∧ OwnD w' w.heap.size 25 v (wayZ pub (treeZ la tr) (fun j => leafZ seed pub la tr j) leaf n) := by
  have HAd := hid (Aw.tree hla htr)
  have hr2 := hr
  simp only [rightZ, decide_eq_true_eq] at hr2
  have hn4 : n ≤ 4 := by omega
  have b1 := (Below.refl w.heap.size w).alloc (Nat.le_refl _) (.cells ((secL seed prf pub).map (Value.int .u8)).toArray 29 (0, 0))
  have b2 := b1.alloc b1.size (.cells (byteCells 32 []) 25 (0, 0))
  have Ks := hid ((Blk.new (w := w) (n := w.heap.size) rfl ((secL seed prf pub).map (Value.int .u8)).toArray 29).old (.cells (byteCells 32 []) 25 (0, 0)))
  have Kr := hid (Blk.new (w := w.alloc (.cells ((secL seed prf pub).map (Value.int .u8)).toArray 29 (0, 0))) (n := w.heap.size + 1) (by simp only [World.size_alloc]) (byteCells 32 []) 25)
  have Hb := hid b2
  have HzA := hid zsize
  have Hss := hid (show ((secL seed prf pub).map (Value.int .u8)).toArray.size = 96 by rw [List.size_toArray, List.length_map, secL_length hseed hprf hpub])
  have CR := hid (fun W : World => refrows_any seed prf pub la tr n W hseed hprf hpub hla htr hn4)
  generalize hlf : (fun j : Nat => leafZ seed pub la tr (j : Int)) = lf at *
  have Hlf := hid (show ∀ j, Dg (lf j) by intro j; rw [← hlf]; exact Dg.leaf _ _ _ _ _)
  have HN := hid (fun k j => Dg.node pub (treeZ la tr) Hlf.out k j)
  have Hr := hid hr
  have HX := hid (HN.out n 0)
  have hxe := rowN_get pub (treeZ la tr) lf n 1 0 (by omega)
  have Hxe := hid hxe
  clear b1 b2 hlf hr2 hr hxe
  go_enter Tryz.func28, Tryz.ntmps28
  go_wp2_with (refine wpList_load_blk rfl 29 _ rfl (w.heap.size) rfl _ 29 Ks.out _ Tryz.underlying29 rfl 96 size_secret Hss.out ?_)
  refine (CR.out _).mono ?_
  rintro e w1 ⟨_, rfl, b1, g, cap, rfl, hcap, hg, hrows⟩
  have Kr1 := hid (Kr.out.below b1)
  have HB1 := hid (Below.on Hb.out b1)
  have hs1 : w.heap.size + 1 + 1 ≤ w1.heap.size := Nat.le_trans (by simp only [World.size_alloc]; omega) b1.size
  obtain ⟨u, hu, ra, rc, rfl, hdg⟩ := hrows n (Nat.le_refl _)
  rw [Nat.sub_self, Nat.pow_zero] at hdg hu
  have hle := hdg.le
  have hmx := hdg.max
  obtain ⟨xs, xo, rfl, hxs, hcell⟩ := hdg.at_ (by omega)
  have hc0 := hcell 0 (by omega)
  rw [Hxe.out] at hc0
  have Hc := hid hc0
  have Hu := hid hu
  have Hrows := hid hrows
  clear b1 hcell hc0 hu hrows hdg CR
  generalize hX : nodeZ pub (treeZ la tr) lf n 0 = X at *
  have HXe := hid hX
  clear hX
  go_wp2_with fail
  have Krw1 := Kr1
  refine wp_region_flow 9 [0, 1, 2, 3, 4, 5, 6, 7] [] [(.c 8, [], [])] (by kernel_rfl) (by kernel_rfl) ?_
  apply Exists.intro
  refine ⟨fun w0 hb0 hF0 => ?_, ?_⟩
  · skip
    have y0 : ∀ w', (∃ x : Ext w0, w' = x.at_) → w'.cell? ⟨g, n, none⟩ = some (.slice (some ⟨xs, xo, none⟩) 1 rc) := fun w' ⟨x, hx⟩ => by rw [hx]; exact (x.same.cell (Nat.lt_of_lt_of_le hg hb0.size)).trans ((hb0.cell hg).trans Hu.out)
    have x0 : ∀ w', (∃ x : Ext w0, w' = x.at_) → w'.rangeAt xs (xo + 0 * 32) (X.map (Value.int .u8)) := fun w' ⟨x, hx⟩ => hx ▸ rangeAt_below (rangeAt_below Hc.out hxs hb0) (Nat.lt_of_lt_of_le hxs hb0.size) x.same
    simp only [pick, List.getElem?_toArray, List.getElem?_cons_succ, List.getElem?_cons_zero, Option.toList_some, List.cons_append, List.nil_append]
    repeat (first | (go_big_quiet_want; refine quiet_load_one 61 _ rfl ⟨g, n, none⟩ rfl _ y0 _ Tryz.underlying61 rfl ?_; go_big_quiet_on; simp only [Act.put, List.setIfInBounds_toArray, List.set_cons_zero, List.set_cons_succ]) | (go_big_quiet_want; refine quiet_index_digs 61 _ _ rfl Tryz.underlying61 size_digest xs xo 1 rc rfl _ _ rfl 0 rfl (by omega) ?_; go_big_quiet_on; simp only [Act.put, List.setIfInBounds_toArray, List.set_cons_zero, List.set_cons_succ]) | (go_big_quiet_want; refine quiet_load_mid 25 _ rfl xs (xo + 0 * 32) rfl _ x0 _ Tryz.underlying25 rfl (by rw [List.length_map, HX.out.len]; exact size_digest) ?_; go_big_quiet_on; simp only [Act.put, List.setIfInBounds_toArray, List.set_cons_zero, List.set_cons_succ]) | go_big_quiet_step (fail))
    exact wpQuiet_nil rfl
  refine AlChk.nil ?_
  refine Walk.call rfl 42 #[.slice (some ⟨g, 0, none⟩) (n + 1) cap, .int .i64 (leaf : Int)] (fun v w' => OwnD w' (w.heap.size + 1 + 1) 25 v (wayZ pub (treeZ la tr) lf leaf n)) (fun v w' w'' h k => h.below k) rfl (fun w1 hb1 hF1 => ⟨by go_simp, ?_⟩) ?_
  · skip
    refine (refway_any pub (treeZ la tr) lf n leaf g cap w1 ⟨hcap, Nat.lt_of_lt_of_le hg hb1.size, fun j hj => by
      obtain ⟨u, q1, q2⟩ := Hrows.out j hj
      exact ⟨u, (hb1.cell hg).trans q1, q2.below hb1⟩⟩ HN.out Hr.out).mono ?_
    rintro e w2 ⟨v, rfl, b2, o2⟩
    exact ⟨v, rfl, b2, o2.re (Nat.le_trans hs1 hb1.size)⟩
  rintro v0 w1 hb1 hF1 hfv
  apply Exists.intro
  refine ⟨fun w0 hb0 hF0 => ?_, ?_⟩
  · skip
    exact wpQuiet_nil rfl
  refine AlChk.nil ?_
  refine Walk.fin fun w2 hw2 hFw2 _ => ?_
  simp only [List.drop_succ_cons, List.drop_zero]
  have HFw2 := hid hFw2
  have HBw2 := hid (Below.on HB1.out hw2)
  have hsw2 := HBw2.out.size
  have Krw2 := hid (Krw1.out.below hw2)
  clear hw2 hFw2
  have HV := hid (show OwnD w2 (w.heap.size + 1 + 1) 25 v0 (wayZ pub (treeZ la tr) lf leaf n) from HFw2.out.2)
  go_wp2_with (
    refine wpList_store_blk rfl 25 _ _ rfl (w.heap.size + 1) (X.map (Value.int .u8)).toArray rfl rfl _ 25 Krw2.out 32 size_digest HzA.out HX.out.size (ints_one _ _) ?_
    intro w9 hb9 hk9
    have HB9 := hid (hb9.below HBw2.out HBw2.out.size (by omega))
    have HK9 := hid hk9
    have H9 := hid hb9
    clear hb9 hk9)
  exact bodyPost_ret (v := .tuple #[(.agg (X.map (Value.int .u8)).toArray), v0]) (results_blk_tmp Tryz.results28 _ (w.heap.size + 1) rfl _ rfl _ 25 HK9.out _ Tryz.underlying25 rfl 32 size_digest HX.out.size) rfl ⟨v0, by rw [HXe.out], HB9.out, (HV.out.but H9.out (by omega)).re (by omega)⟩
/-- Parts as they lie in memory, their rows appended to. -/
def OwnQ (w : World) (base : Nat) (v : Value) (ps : List Prt) : Prop :=
  ∃ cs : List (Value × Value), cs.length = ps.length ∧ w.ownsRow base 63 2 v ps.length (cs.flatMap fun c => [c.1, c.2]) ∧ ∀ j, j < ps.length → ∃ c, cs[j]? = some c ∧ OwnD w base 25 c.1 (ps.getD j ([], [])).1 ∧ OwnD w base 25 c.2 (ps.getD j ([], [])).2
theorem OwnQ.nil (w : World) (base : Nat) : OwnQ w base (.slice none 0 0) [] := ⟨[], rfl, World.ownsRow_nil w base _ 2, fun j hj => by simp at hj⟩
theorem OwnQ.below {w w' : World} {base : Nat} {v : Value} {ps : List Prt} (h : OwnQ w base v ps) (hb : Below w.heap.size w w') : OwnQ w' base v ps := by
  obtain ⟨cs, h1, h2, h3⟩ := h
  refine ⟨cs, h1, owns_below h2 hb, fun j hj => ?_⟩
  obtain ⟨c, h4, h5, h6⟩ := h3 j hj
  exact ⟨c, h4, h5.below hb, h6.below hb⟩
theorem OwnQ.lt {w : World} {base : Nat} {v : Value} {ps : List Prt} (h : OwnQ w base v ps) : ∀ k, v.ownBlock = some k → base ≤ k ∧ k < w.heap.size := by
  obtain ⟨cs, _, h2, _⟩ := h
  exact h2.lt
theorem OwnQ.kind {w : World} {base : Nat} {v : Value} {ps : List Prt} (h : OwnQ w base v ps) : ∀ k, v.ownBlock = some k → ∃ cur, Blk w k cur 63 := by
  obtain ⟨cs, h0, ⟨h1, ⟨rfl, h2⟩ | ⟨g, cap, cur, rfl, hg, hh, hle, hmx, hsz, htk⟩⟩, h3⟩ := h
  · intro k hk; cases hk
  · intro k hk
    cases hk
    exact ⟨cur, hh⟩
theorem OwnQ.slice {w : World} {base : Nat} {v : Value} {ps : List Prt} (h : OwnQ w base v ps) : ∃ a n c, v = .slice a n c := by
  obtain ⟨cs, h0, ⟨h1, ⟨rfl, h2⟩ | ⟨g, cap, cur, rfl, hg, hh, hle, hmx, hsz, htk⟩⟩, h3⟩ := h
  · exact ⟨_, _, _, rfl⟩
  · exact ⟨_, _, _, rfl⟩
theorem OwnD.rowv {w : World} {base : Nat} {e : TypeId} {v : Value} {ds : List (List Int)} (h : OwnD w base e v ds) : RowV ds.length ds v w := by
  obtain ⟨a, cap, rfl, hd, _⟩ := h.digs
  exact ⟨a, cap, rfl, hd⟩
theorem OwnD.one {w : World} {base : Nat} {e : TypeId} {v : Value} {ds : List (List Int)} (h : OwnD w base e v ds) : v.oneCell' = true := by
  obtain ⟨a, cap, rfl, hd, _⟩ := h.digs
  rfl
theorem OwnQ.parts {w : World} {base : Nat} {v : Value} {ps : List Prt} (h : OwnQ w base v ps) : ∃ a cap, v = .slice a ps.length cap ∧ PartsAt w a ps.length cap ps := by
  obtain ⟨cs, h0, ⟨h1, ⟨rfl, h2⟩ | ⟨g, cap, cur, rfl, hg, hh, hle, hmx, hsz, htk⟩⟩, h3⟩ := h
  · have h2' : ps.length = 0 := by omega
    obtain rfl := List.eq_nil_of_length_eq_zero h2'
    exact ⟨none, 0, rfl, PartsAt.nil w⟩
  · refine ⟨_, cap, rfl, rfl, hle, by unfold maxLen at hmx; omega, .inr ⟨g, 0, none, rfl, fun j hj => ?_⟩⟩
    obtain ⟨c, h4, h5, h6⟩ := h3 j hj
    have hb : Blk w g cur 63 := hh
    obtain ⟨e1, e2⟩ := flat2_at cs j c h4
    have at_ : ∀ k u, k < ps.length * 2 → (cs.flatMap fun c => [c.1, c.2])[k]? = some u → w.cell? ⟨g, k, none⟩ = some u := fun k u hk hu => by
      rw [hb.cell]
      rw [← htk, List.getElem?_take_of_lt (by omega)] at hu
      simpa using hu
    refine ⟨rfl, (Array.getElem?_eq_some_iff.1 hh).1, c.1, c.2, ?_, ?_, h5.rowv, h6.rowv⟩
    · rw [Nat.zero_add]; exact at_ _ _ (by omega) e1
    · rw [Nat.zero_add]; exact at_ _ _ (by omega) e2
theorem OwnD.grown {B : Nat} {ds : List (List Int)} {u : Value} {w w' : World} {o : Option Nat} (h : OwnD w B 25 u ds) (hk : ∀ k, o = some k → ∃ cur, Blk w k cur 63) (hg : w.grownBy w' o) : OwnD w' B 25 u ds := by
  refine ⟨h.row.kept hg ?_, h.each⟩
  rcases hu : u.ownBlock with _ | k
  · exact .inl rfl
  · refine .inr fun e => ?_
    obtain ⟨cur, hc⟩ := hk k e.symm
    obtain ⟨_, ⟨rfl, _⟩ | ⟨g, cap, cu, rfl, _, hh, _⟩⟩ := h.row
    · cases hu
    · obtain rfl : g = k := Option.some.inj hu
      have := (show w.heap[g]? = _ from hc).symm.trans hh
      injection this with this
      injection this with _ this
      revert this
      decide
/-- One part more. -/
theorem run_append_partq {w : World} {base : Nat} {t : TypeId} {i : TypeInfo} {v z : Value} {ps : List Prt} (ty : TypeId) (ht : Tryz.prog.underlying t = some (.slice 63)) (hi : Tryz.prog.info? 63 = some i) (hz : i.zero = some z) (hzs : z.cells.size = 2) (hsize : i.size = 2) (hby : i.bytes = 48) (hown : OwnQ w base v ps)
    {b : Nat} {x y : Value} {p : Prt} {T : TypeId} (hk : Blk w b #[x, y] T) (hx : OwnD w base 25 x p.1) (hy : OwnD w base 25 y p.2) (hb : ps.length ≤ 100) (hbase : base ≤ w.heap.size) :
    ∃ v' w', (Builtin.append_ #[t, t] ty #[v, .slice (some ⟨b, 0, none⟩) 1 1]).run Tryz.prog w = .ok v' w' ∧ OwnQ w' base v' (ps ++ [p]) ∧ w.grownBy w' v.ownBlock ∧ Below base w w' := by
  have hbel : ∀ {w' : World}, w.grownBy w' v.ownBlock → Below base w w' := fun hg => ⟨hg.os, hg.tape, hg.output, hg.size, fun k hk => hg.block k (by omega) (fun e => by have := (hown.lt k e.symm).1; omega)⟩
  have hkind := hown.kind
  obtain ⟨cs, h0, hrow, hall⟩ := hown
  obtain ⟨v', w', h1, h2, h3, _⟩ := run_append_own (P := Tryz.prog) w base t ty _ i z 2 48 ht hi hz hsize hby hzs (by omega) v ps.length _ hrow ⟨b, 0, none⟩ 1 1 [x, y] rfl (news_blk (cs := [x, y]) hk) (fun u hu => by
    simp only [List.mem_cons, List.not_mem_nil, or_false] at hu
    rcases hu with rfl | rfl
    · exact hx.one
    · exact hy.one) (by unfold maxLen; omega) (by omega) hbase
  refine ⟨v', w', h1, ⟨cs ++ [(x, y)], by simp [h0], ?_, fun j hj => ?_⟩, h3, hbel h3⟩
  · rw [List.flatMap_append, List.length_append]
    exact h2
  · rw [List.length_append] at hj
    simp only [List.length_cons, List.length_nil] at hj
    rcases Nat.lt_or_ge j ps.length with hlt | hge
    · obtain ⟨c, h4, h5, h6⟩ := hall j hlt
      rw [show (ps ++ [p]).getD j ([], []) = ps.getD j ([], []) by rw [List.getD_eq_getElem?_getD, List.getElem?_append_left hlt, List.getD_eq_getElem?_getD]]
      exact ⟨c, by rw [List.getElem?_append_left (by omega)]; exact h4, h5.grown hkind h3, h6.grown hkind h3⟩
    · obtain rfl : j = ps.length := by omega
      rw [show (ps ++ [p]).getD ps.length ([], []) = p by simp [List.getD_eq_getElem?_getD]]
      exact ⟨(x, y), by rw [← h0]; simp, hx.grown hkind h3, hy.grown hkind h3⟩
theorem wpList_append_partq {w : World} {base : Nat} {t : TypeId} {i : TypeInfo} {v z : Value} {ps : List Prt} {ops : Array Oper} {rest : List Oper} {o : Oper} {A : Act} {Q : Exit → Act → World → Prop} (hgd : o.guard = none) (s x : Operand) (ho : o.op = .call { callee := .builtin .append, args := #[s, x], argTypes := #[t, t] })
    (ht : Tryz.prog.underlying t = some (.slice 63)) (hi : Tryz.prog.info? 63 = some i) (hz : i.zero = some z) (hzs : z.cells.size = 2) (hsize : i.size = 2) (hby : i.bytes = 48) (hs : A.eval s = v) (hown : OwnQ w base v ps)
    {b : Nat} {y1 y2 : Value} {p : Prt} {T : TypeId} (hx : A.eval x = .slice (some ⟨b, 0, none⟩) 1 1) (hk : Blk w b #[y1, y2] T) (hy1 : OwnD w base 25 y1 p.1) (hy2 : OwnD w base 25 y2 p.2) (hb : ps.length ≤ 100) (hbase : base ≤ w.heap.size)
    (h : ∀ v' w', OwnQ w' base v' (ps ++ [p]) → w.grownBy w' v.ownBlock → Below base w w' → wpList Tryz.prog ops Q rest (A.put o.dst v') w') : wpList Tryz.prog ops Q (o :: rest) A w :=
  wpList_plain hgd fun K hK => by
    obtain ⟨v', w', hr, h2, h3, h4⟩ := run_append_partq o.type ht hi hz hzs hsize hby hown hk hy1 hy2 hb hbase
    unfold Oper.wp execOp
    simp only [ho, resolve, invoke, builtin, Sem.run_bind, Sem.run_pure, Result.andThen_ok, List.map_toArray, List.map_cons, List.map_nil, hs, hx, hr, Oper.upon_value]
    exact hK _ _ (h v' w' h2 h3 h4)
theorem OwnQ.but {b : Nat} {w w' : World} {base : Nat} {v : Value} {ps : List Prt} (h : OwnQ w base v ps) (hlt : b < base) (hb : But b w w') : OwnQ w' base v ps := by
  obtain ⟨l, h0, ⟨h1, h2⟩, h3⟩ := h
  refine ⟨l, h0, ⟨h1, h2.imp id ?_⟩, fun j hj => ?_⟩
  · rintro ⟨g, cap, cur, rfl, hg, hh, hle, hmx, hsz, htk⟩
    have hbk : Blk w g cur 63 := hh
    exact ⟨g, cap, cur, rfl, hg, hb.blk hbk (by omega), hle, hmx, hsz, htk⟩
  · obtain ⟨c, h4, h5, h6⟩ := h3 j hj
    exact ⟨c, h4, h5.but hb (by omega), h6.but hb (by omega)⟩
theorem build_part2 (a b : Option Addr) (n c n2 c2 : Nat) (w : World) : (Instr.build 63 #[(0, .slice a n c), (1, .slice b n2 c2)]).run Tryz.prog w = .ok (.agg #[.slice a n c, .slice b n2 c2]) w := by
  refine run_build w _ _ _ ?_
  obtain ⟨i0, hi, hz0⟩ := Option.map_eq_some_iff.1 (show (Tryz.prog.info? 63).map (·.zero) = some (some (.agg #[.slice none 0 0, .slice none 0 0])) by kernel_rfl)
  obtain ⟨fields, hu, hq⟩ : ∃ fields, Tryz.prog.underlying 63 = some (.struct fields) ∧ fields.toList.mapM (fun f => (Tryz.prog.info? f.type).map fun i => (f.offset, i.size)) = some [(0, 1), (1, 1)] := ⟨_, Tryz.underlying63, by kernel_rfl⟩
  unfold Program.built
  simp only [hi, hu, hz0, hq]
  rw [fill_part _ _ 0 0 _ _ (by rfl) (by show 0 + 1 ≤ 2; omega)]
  rw [fill_part _ _ 1 1 _ _ (by rfl) (by exact Nat.le_refl 2), Instr.fill]
  rfl
end Go.Proofs.YtjkfbeillmeomaaGreatDoor
