/-
  Layer 11: HyperSigns.
-/
import Derived.Test.YtjkfbeillmeomaaGreatDoorSZSignR
import Derived.Test.YtjkfbeillmeomaaGreatDoorSZHyper4
namespace Go.Proofs.YtjkfbeillmeomaaGreatDoor
set_option maxRecDepth 100000
open Go.ChangeShapes Go.WideShapes Go.ChangeAt Go.RowKit
set_option maxHeartbeats 4000000 in
theorem sign_bad (L V i : Int) (root pk : List Int) (vs : Array Value) (v : Value) (w : World) (hr : rightS L V = false) :
    Calls Tryz.prog 7 #[.agg (pubC L V root pk).toArray, .agg vs, .int .i64 i, v] w fun e w' => e = .returned (.tuple #[.agg zSig.toArray, .int .i64 1]) ∧ Below w.heap.size w w' := by
  have b1 := (Below.refl w.heap.size w).alloc (Nat.le_refl _) (.cells (pubC L V root pk).toArray 27 (0, 0))
  have b2 := b1.alloc b1.size (.cells vs 29 (0, 0))
  have b3 := b2.alloc b2.size (.cells zSig.toArray 36 (0, 0))
  have Kp := hid (((Blk.new (w := w) (n := w.heap.size) rfl (pubC L V root pk).toArray 27).old (.cells vs 29 (0, 0))).old (.cells zSig.toArray 36 (0, 0)))
  have Ks := hid ((Blk.new (w := (w.alloc (.cells (pubC L V root pk).toArray 27 (0, 0)))) (n := w.heap.size + 1) (by simp only [World.size_alloc]) vs 29).old (.cells zSig.toArray 36 (0, 0)))
  have Ko := hid (Blk.new (w := ((w.alloc (.cells (pubC L V root pk).toArray 27 (0, 0))).alloc (.cells vs 29 (0, 0)))) (n := w.heap.size + 1 + 1) (by simp only [World.size_alloc]) zSig.toArray 36)
  have Hb := hid b3
  have hbz := b3.size
  have Hbs := hid (show w.heap.size + 1 + 1 + 1 = (((w.alloc (.cells (pubC L V root pk).toArray 27 (0, 0))).alloc (.cells vs 29 (0, 0))).alloc (.cells zSig.toArray 36 (0, 0))).heap.size by simp only [World.size_alloc])
  clear b1 b2 b3 
  go_enter Tryz.func7, Tryz.ntmps7
  go_wp2_with (refine wpList_load_mid rfl 23 _ rfl (w.heap.size) 0 rfl _ _ (pubC_shape Kp.out) Tryz.underlying23 rfl (by exact size_shape) ?_)
  refine (hright_b L V false hr _).mono ?_
  rintro e w1 ⟨rfl, bw1⟩
  have HBw1 := hid (Below.on Hb.out bw1)
  have hsw1 := HBw1.out.size
  have Kpw1 := hid (Kp.out.below bw1)
  have Ksw1 := hid (Ks.out.below bw1)
  have Kow1 := hid (Ko.out.below bw1)
  clear bw1
  go_wp2_with (
        refine wpList_store_blk rfl 36 _ _ rfl (w.heap.size + 1 + 1) zSig.toArray rfl rfl _ 36 Kow1.out 34 size_sig zSig_size zSig_size (sigC_ones _ _ _ rfl) ?_
        intro w9 hb9 hk9
        have HB9 := hid (hb9.below HBw1.out HBw1.out.size (by omega))
        have HK9 := hid hk9
        clear hb9 hk9)
  exact bodyPost_ret (v := .tuple #[.agg zSig.toArray, .int .i64 1]) (results_blk_tmp Tryz.results7 _ (w.heap.size + 1 + 1) rfl _ rfl _ 36 HK9.out _ Tryz.underlying36 rfl 34 size_sig zSig_size) rfl ⟨rfl, HB9.out⟩
set_option maxHeartbeats 4000000 in
theorem sign_neg (L V i : Int) (root pk : List Int) (vs : Array Value) (v : Value) (w : World) (hr : rightS L V = true) (hi0 : i < 0) :
    Calls Tryz.prog 7 #[.agg (pubC L V root pk).toArray, .agg vs, .int .i64 i, v] w fun e w' => e = .returned (.tuple #[.agg zSig.toArray, .int .i64 1]) ∧ Below w.heap.size w w' := by
  have b1 := (Below.refl w.heap.size w).alloc (Nat.le_refl _) (.cells (pubC L V root pk).toArray 27 (0, 0))
  have b2 := b1.alloc b1.size (.cells vs 29 (0, 0))
  have b3 := b2.alloc b2.size (.cells zSig.toArray 36 (0, 0))
  have Kp := hid (((Blk.new (w := w) (n := w.heap.size) rfl (pubC L V root pk).toArray 27).old (.cells vs 29 (0, 0))).old (.cells zSig.toArray 36 (0, 0)))
  have Ks := hid ((Blk.new (w := (w.alloc (.cells (pubC L V root pk).toArray 27 (0, 0)))) (n := w.heap.size + 1) (by simp only [World.size_alloc]) vs 29).old (.cells zSig.toArray 36 (0, 0)))
  have Ko := hid (Blk.new (w := ((w.alloc (.cells (pubC L V root pk).toArray 27 (0, 0))).alloc (.cells vs 29 (0, 0)))) (n := w.heap.size + 1 + 1) (by simp only [World.size_alloc]) zSig.toArray 36)
  have Hb := hid b3
  have hbz := b3.size
  have Hbs := hid (show w.heap.size + 1 + 1 + 1 = (((w.alloc (.cells (pubC L V root pk).toArray 27 (0, 0))).alloc (.cells vs 29 (0, 0))).alloc (.cells zSig.toArray 36 (0, 0))).heap.size by simp only [World.size_alloc])
  clear b1 b2 b3 
  go_enter Tryz.func7, Tryz.ntmps7
  go_wp2_with (refine wpList_load_mid rfl 23 _ rfl (w.heap.size) 0 rfl _ _ (pubC_shape Kp.out) Tryz.underlying23 rfl (by exact size_shape) ?_)
  refine (hright_b L V true hr _).mono ?_
  rintro e w1 ⟨rfl, bw1⟩
  have HBw1 := hid (Below.on Hb.out bw1)
  have hsw1 := HBw1.out.size
  have Kpw1 := hid (Kp.out.below bw1)
  have Ksw1 := hid (Ks.out.below bw1)
  have Kow1 := hid (Ko.out.below bw1)
  clear bw1
  go_wp2_with (
        refine wpList_store_blk rfl 36 _ _ rfl (w.heap.size + 1 + 1) zSig.toArray rfl rfl _ 36 Kow1.out 34 size_sig zSig_size zSig_size (sigC_ones _ _ _ rfl) ?_
        intro w9 hb9 hk9
        have HB9 := hid (hb9.below HBw1.out HBw1.out.size (by omega))
        have HK9 := hid hk9
        clear hb9 hk9)
  exact bodyPost_ret (v := .tuple #[.agg zSig.toArray, .int .i64 1]) (results_blk_tmp Tryz.results7 _ (w.heap.size + 1 + 1) rfl _ rfl _ 36 HK9.out _ Tryz.underlying36 rfl 34 size_sig zSig_size) rfl ⟨rfl, HB9.out⟩
set_option maxHeartbeats 4000000 in
theorem sigsame_any (i : Int) (r : List Int) (a : Option Addr) (n c : Nat) (a2 : Option Addr) (c2 : Nat) (ps : List Prt) (w : World) (hr : Dg r) (hP1 : PartsAt w a n c ps) (hP2 : PartsAt w a2 n c2 ps) :
    Calls Tryz.prog 10 #[.agg (sigC i r (.slice a n c)).toArray, .agg (sigC i r (.slice a2 n c2)).toArray] w fun e w' => e = .returned (.bool true) ∧ Below w.heap.size w w' := by
  have hnm : n ≤ 9223372036854775807 := Nat.le_trans hP1.le hP1.max
  have b1 := (Below.refl w.heap.size w).alloc (Nat.le_refl _) (.cells (sigC i r (.slice a n c)).toArray 36 (0, 0))
  have b2 := b1.alloc b1.size (.cells (sigC i r (.slice a2 n c2)).toArray 36 (0, 0))
  have Kx := hid ((Blk.new (w := w) (n := w.heap.size) rfl (sigC i r (.slice a n c)).toArray 36).old (.cells (sigC i r (.slice a2 n c2)).toArray 36 (0, 0)))
  have Ky := hid (Blk.new (w := (w.alloc (.cells (sigC i r (.slice a n c)).toArray 36 (0, 0)))) (n := w.heap.size + 1) (by simp only [World.size_alloc]) (sigC i r (.slice a2 n c2)).toArray 36)
  have Hb := hid b2
  have hbz := b2.size
  have Hbs := hid (show w.heap.size + 1 + 1 = ((w.alloc (.cells (sigC i r (.slice a n c)).toArray 36 (0, 0))).alloc (.cells (sigC i r (.slice a2 n c2)).toArray 36 (0, 0))).heap.size by simp only [World.size_alloc])
  clear b1 b2 
  go_enter Tryz.func10, Tryz.ntmps10
  have q1 := fun W => neD_self r hr.len W
  have i1 := sigC_index Kx.out
  have i2 := sigC_index Ky.out
  have v1 := sigC_parts hr Kx.out
  have v2 := sigC_parts hr Ky.out
  go_wp2_with (first
     | (refine wpList_load_mid_if (by first | rfl | go_simp) 25 _ rfl (w.heap.size) 1 rfl _ _ (sigC_r Kx.out) Tryz.underlying25 rfl (by rw [List.length_map, hr.len]; exact size_digest) ?_)
     | (refine wpList_load_mid_if (by first | rfl | go_simp) 25 _ rfl (w.heap.size + 1) 1 rfl _ _ (sigC_r Ky.out) Tryz.underlying25 rfl (by rw [List.length_map, hr.len]; exact size_digest) ?_))
  clear i1 i2 v1 v2 q1
  have Hxb := hid Kx.out
  have Hyb := hid Ky.out
  have Hbe := hid Hb.out
  go_loopw [5] (fun iv wr => ∃ k : Nat, k ≤ n ∧ iv = .int .i64 k ∧ Blk wr (w.heap.size) (sigC i r (.slice a n c)).toArray 36 ∧ Blk wr (w.heap.size + 1) (sigC i r (.slice a2 n c2)).toArray 36 ∧ Below w.heap.size w wr) (fun iv _ => n - (intOf iv).toNat)
  case atStart => exact ⟨0, Nat.zero_le _, rfl, Hxb.out, Hyb.out, Hbe.out⟩
  case round =>
    obtain ⟨k, hk, rfl, kx, ky, bel⟩ := hrel
    have Kxwr := hid kx
    have Kywr := hid ky
    have HBwr := hid bel
    have hswr := bel.size
    have v1 := sigC_parts hr kx
    have v2 := sigC_parts hr ky
    clear kx ky bel
    by_cases hlt : k < n
    · have hc0 : (k : Int) < n := by omega
      obtain ⟨x, o, oa, oc, aa, ac, hxa, hpc⟩ := hP1.part hlt
      obtain ⟨y, q, ob, od, ab, ad, hya, hpd⟩ := hP2.part hlt
      have hxlt := hpc.lt
      have hylt := hpd.lt
      have C0 := hid hpc.c0
      have C1 := hid hpc.c1
      have D0 := hid hpd.c0
      have D1 := hid hpd.c1
      have HO1 := hid hpc.ots
      have HA1 := hid hpc.auth
      have HO2 := hid hpd.ots
      have HA2 := hid hpd.auth
      subst hxa hya
      clear hpc hpd
      generalize hu1 : (ps.getD k ([], [])).1 = u1 at *
      generalize hu2 : (ps.getD k ([], [])).2 = u2 at *
      go_wp2_with fail
      refine wp_region_flow 30 (List.range 30) [] [] (by kernel_rfl) (by kernel_rfl) ?_
      apply Exists.intro
      refine ⟨fun w0 hb0 hF0 => ?_, ?_⟩
      · skip
        have c0 := fun e : Ext w0 => same_any oa ob u1.length oc od u1 e.at_ ((HO1.out.below (Below.on HBwr.out hb0)).below e.same) ((HO2.out.below (Below.on HBwr.out hb0)).below e.same)
        have c1 := fun e : Ext w0 => same_any aa ab u2.length ac ad u2 e.at_ ((HA1.out.below (Below.on HBwr.out hb0)).below e.same) ((HA2.out.below (Below.on HBwr.out hb0)).below e.same)
        have y0 : ∀ w', (∃ x : Ext w0, w' = x.at_) → w'.cell? ⟨w.heap.size, 33, none⟩ = some (.slice (some ⟨x, o, none⟩) n c) := fun w' ⟨x, hx⟩ => hx ▸ sigC_parts hr ((Kxwr.out.below hb0).below x.same)
        have y1 : ∀ w', (∃ x : Ext w0, w' = x.at_) → w'.cell? ⟨w.heap.size + 1, 33, none⟩ = some (.slice (some ⟨y, q, none⟩) n c2) := fun w' ⟨x, hx⟩ => hx ▸ sigC_parts hr ((Kywr.out.below hb0).below x.same)
        have HBw0 := Below.on HBwr.out hb0
        have y2 : ∀ w', (∃ x : Ext w0, w' = x.at_) → w'.cell? ⟨x, o + k * 2, none⟩ = some (.slice oa u1.length oc) := fun w' ⟨z, hz⟩ => by rw [hz]; exact (z.same.cell (Nat.lt_of_lt_of_le hxlt HBw0.size)).trans ((HBw0.cell hxlt).trans C0.out)
        have y3 : ∀ w', (∃ x : Ext w0, w' = x.at_) → w'.cell? ⟨x, o + k * 2 + 1, none⟩ = some (.slice aa u2.length ac) := fun w' ⟨z, hz⟩ => by rw [hz]; exact (z.same.cell (Nat.lt_of_lt_of_le hxlt HBw0.size)).trans ((HBw0.cell hxlt).trans C1.out)
        have y4 : ∀ w', (∃ x : Ext w0, w' = x.at_) → w'.cell? ⟨y, q + k * 2, none⟩ = some (.slice ob u1.length od) := fun w' ⟨z, hz⟩ => by rw [hz]; exact (z.same.cell (Nat.lt_of_lt_of_le hylt HBw0.size)).trans ((HBw0.cell hylt).trans D0.out)
        have y5 : ∀ w', (∃ x : Ext w0, w' = x.at_) → w'.cell? ⟨y, q + k * 2 + 1, none⟩ = some (.slice ab u2.length ad) := fun w' ⟨z, hz⟩ => by rw [hz]; exact (z.same.cell (Nat.lt_of_lt_of_le hylt HBw0.size)).trans ((HBw0.cell hylt).trans D1.out)
        simp only [pick, List.range, List.range.loop, List.getElem?_toArray, List.getElem?_cons_succ, List.getElem?_cons_zero, Option.toList_some, List.cons_append, List.nil_append]
        repeat (first | (go_big_quiet_want; refine quiet_load_one 34 _ rfl ⟨w.heap.size, 33, none⟩ rfl _ y0 _ Tryz.underlying34 rfl ?_; go_big_quiet_on; simp only [Act.put, List.setIfInBounds_toArray, List.set_cons_zero, List.set_cons_succ]) | (go_big_quiet_want; refine quiet_load_one 34 _ rfl ⟨w.heap.size + 1, 33, none⟩ rfl _ y1 _ Tryz.underlying34 rfl ?_; go_big_quiet_on; simp only [Act.put, List.setIfInBounds_toArray, List.set_cons_zero, List.set_cons_succ]) | (go_big_quiet_want; refine quiet_load_one 61 _ rfl ⟨x, o + k * 2, none⟩ rfl _ y2 _ Tryz.underlying61 rfl ?_; go_big_quiet_on; simp only [Act.put, List.setIfInBounds_toArray, List.set_cons_zero, List.set_cons_succ]) | (go_big_quiet_want; refine quiet_load_one 61 _ rfl ⟨x, o + k * 2 + 1, none⟩ rfl _ y3 _ Tryz.underlying61 rfl ?_; go_big_quiet_on; simp only [Act.put, List.setIfInBounds_toArray, List.set_cons_zero, List.set_cons_succ]) | (go_big_quiet_want; refine quiet_load_one 61 _ rfl ⟨y, q + k * 2, none⟩ rfl _ y4 _ Tryz.underlying61 rfl ?_; go_big_quiet_on; simp only [Act.put, List.setIfInBounds_toArray, List.set_cons_zero, List.set_cons_succ]) | (go_big_quiet_want; refine quiet_load_one 61 _ rfl ⟨y, q + k * 2 + 1, none⟩ rfl _ y5 _ Tryz.underlying61 rfl ?_; go_big_quiet_on; simp only [Act.put, List.setIfInBounds_toArray, List.set_cons_zero, List.set_cons_succ]) | (go_big_quiet_want; refine quiet_index_s 2 34 _ _ rfl Tryz.underlying34 size_part x o n c rfl _ _ rfl k (by omega) (by omega) ?_; go_big_quiet_on; simp only [Act.put, List.setIfInBounds_toArray, List.set_cons_zero, List.set_cons_succ]) | (go_big_quiet_want; refine quiet_index_s 2 34 _ _ rfl Tryz.underlying34 size_part y q n c2 rfl _ _ rfl k (by omega) (by omega) ?_; go_big_quiet_on; simp only [Act.put, List.setIfInBounds_toArray, List.set_cons_zero, List.set_cons_succ]) | go_big_quiet_step (first | (go_at_call 24; with_reducible exact Calls.ext (c0 _)) | (go_at_call 24; with_reducible exact Calls.ext (c1 _))))
        exact wpQuiet_nil rfl
      refine AlChk.nil ?_
      refine Walk.fin fun w31 hw31 _ _ => ?_
      simp only [List.drop_succ_cons, List.drop_zero]
      have HBw31 := hid (Below.on HBwr.out hw31)
      have hsw31 := HBw31.out.size
      have Kxw31 := hid (Kxwr.out.below hw31)
      have Kyw31 := hid (Kywr.out.below hw31)
      clear hw31
      go_wp2_with fail
      exact ⟨⟨k + 1, by omega, by first | rfl | simp, Kxw31.out, Kyw31.out, HBw31.out⟩, by simp [intOf]; omega⟩
    · obtain rfl : k = n := by omega
      have hc0 : ¬ ((k : Int) < k) := by omega
      go_wp2_with fail
      go_returns
      exact ⟨rfl, HBwr.out⟩
/-- A signature of these parts. -/
def SigV (i : Int) (r : List Int) (n : Nat) (ps : List Prt) (v : Value) (w : World) : Prop := ∃ a cap, v = .agg (sigC i r (.slice a n cap)).toArray ∧ PartsAt w a n cap ps
theorem SigV.below {i : Int} {r : List Int} {n : Nat} {ps : List Prt} {v : Value} {w w' : World} (h : SigV i r n ps v w) (hb : Below w.heap.size w w') : SigV i r n ps v w' := by
  obtain ⟨a, c, h1, h2⟩ := h
  exact ⟨a, c, h1, h2.below hb⟩
theorem SigV.parts {i : Int} {r : List Int} {n m c : Nat} {ps : List Prt} {a : Option Addr} {w : World} (h : SigV i r n ps (.agg (sigC i r (.slice a m c)).toArray) w) : PartsAt w a n c ps ∧ m = n := by
  obtain ⟨a', c', h1, h2⟩ := h
  unfold sigC at h1
  have h3 : (Value.slice a m c) = .slice a' n c' := by simpa using h1
  cases h3
  exact ⟨h2, rfl⟩
set_option maxHeartbeats 4000000 in
theorem signs_big (L n : Nat) (root pk seed prf pub : List Int) (i : Int) (ta : Option Addr) (tn tc : Nat) (_ts : List (List Int)) (w : World) (_hroot : Dg root) (_hpk : Dg pk) (hseed : Dg seed) (hprf : Dg prf) (hpub : Dg pub) (hr : rightS L n = true) (hsm : decide ((L : Int) * ((2 ^ n : Nat) : Int) ≤ 8) = false) :
    Calls Tryz.prog 3 #[.agg (pubC L n root pk).toArray, .agg ((secL seed prf pub).map (Value.int .u8)).toArray, .int .i64 i, .slice ta tn tc] w fun e w' => e = .returned (.bool true) ∧ Below w.heap.size w w' := by
  have Hss := hid (show ((secL seed prf pub).map (Value.int .u8)).toArray.size = 96 by rw [List.size_toArray, List.length_map, secL_length hseed hprf hpub])
  have b1 := (Below.refl w.heap.size w).alloc (Nat.le_refl _) (.cells (pubC L n root pk).toArray 27 (0, 0))
  have b2 := b1.alloc b1.size (.cells ((secL seed prf pub).map (Value.int .u8)).toArray 29 (0, 0))
  have Kp := hid ((Blk.new (w := w) (n := w.heap.size) rfl (pubC L n root pk).toArray 27).old (.cells ((secL seed prf pub).map (Value.int .u8)).toArray 29 (0, 0)))
  have Ks := hid (Blk.new (w := (w.alloc (.cells (pubC L n root pk).toArray 27 (0, 0)))) (n := w.heap.size + 1) (by simp only [World.size_alloc]) ((secL seed prf pub).map (Value.int .u8)).toArray 29)
  have Hb := hid b2
  have hbz := b2.size
  have Hbs := hid (show w.heap.size + 1 + 1 = ((w.alloc (.cells (pubC L n root pk).toArray 27 (0, 0))).alloc (.cells ((secL seed prf pub).map (Value.int .u8)).toArray 29 (0, 0))).heap.size by simp only [World.size_alloc])
  clear b1 b2 
  go_enter Tryz.func3, Tryz.ntmps3
  go_wp2_with (refine wpList_load_mid rfl 23 _ rfl (w.heap.size) 0 rfl _ _ (pubC_shape Kp.out) Tryz.underlying23 rfl (by exact size_shape) ?_)
  refine (small_good L n 8 false _ hr hsm).mono ?_
  rintro e w1 ⟨rfl, bw1⟩
  have HBw1 := hid (Below.on Hb.out bw1)
  have hsw1 := HBw1.out.size
  have Kpw1 := hid (Kp.out.below bw1)
  have Ksw1 := hid (Ks.out.below bw1)
  clear bw1
  go_wp2_with fail
  refine (knows11 _).mono ?_
  rintro e w2 ⟨rfl, bw2⟩
  have HBw2 := hid (Below.on HBw1.out bw2)
  have hsw2 := HBw2.out.size
  have Kpw2 := hid (Kpw1.out.below bw2)
  have Ksw2 := hid (Ksw1.out.below bw2)
  clear bw2
  go_wp2_with fail
  go_returns
  exact ⟨rfl, HBw2.out⟩
set_option maxHeartbeats 4000000 in
theorem signs_long (L V : Int) (root pk seed prf pub : List Int) (i : Int) (ta : Option Addr) (tn tc : Nat) (ts : List (List Int)) (w : World) (_hroot : Dg root) (_hpk : Dg pk) (hseed : Dg seed) (hprf : Dg prf) (hpub : Dg pub) (hT : TextsAt w ta tn tc ts) (hreach : ∀ t ∈ ts, t.length ≤ 140737488351232) (hsm : ∀ W, Calls Tryz.prog 4 #[.agg (shC L V), .int .i64 8] W fun e w' => e = .returned (.bool true) ∧ Below W.heap.size W w') (ht : fewB ts 1000 = false) :
    Calls Tryz.prog 3 #[.agg (pubC L V root pk).toArray, .agg ((secL seed prf pub).map (Value.int .u8)).toArray, .int .i64 i, .slice ta tn tc] w fun e w' => e = .returned (.bool true) ∧ Below w.heap.size w w' := by
  have Hss := hid (show ((secL seed prf pub).map (Value.int .u8)).toArray.size = 96 by rw [List.size_toArray, List.length_map, secL_length hseed hprf hpub])
  have CS := hid hsm
  have CT := hid (fun (W : World) (h : TextsAt W ta tn tc ts) => by have := few_any ta tn tc ts 1000 W h hreach; rw [ht] at this; exact this)
  have b1 := (Below.refl w.heap.size w).alloc (Nat.le_refl _) (.cells (pubC L V root pk).toArray 27 (0, 0))
  have b2 := b1.alloc b1.size (.cells ((secL seed prf pub).map (Value.int .u8)).toArray 29 (0, 0))
  have Kp := hid ((Blk.new (w := w) (n := w.heap.size) rfl (pubC L V root pk).toArray 27).old (.cells ((secL seed prf pub).map (Value.int .u8)).toArray 29 (0, 0)))
  have Ks := hid (Blk.new (w := (w.alloc (.cells (pubC L V root pk).toArray 27 (0, 0)))) (n := w.heap.size + 1) (by simp only [World.size_alloc]) ((secL seed prf pub).map (Value.int .u8)).toArray 29)
  have Hb := hid b2
  have hbz := b2.size
  have Hbs := hid (show w.heap.size + 1 + 1 = ((w.alloc (.cells (pubC L V root pk).toArray 27 (0, 0))).alloc (.cells ((secL seed prf pub).map (Value.int .u8)).toArray 29 (0, 0))).heap.size by simp only [World.size_alloc])
  clear b1 b2 
  go_enter Tryz.func3, Tryz.ntmps3
  go_wp2_with (refine wpList_load_mid rfl 23 _ rfl (w.heap.size) 0 rfl _ _ (pubC_shape Kp.out) Tryz.underlying23 rfl (by exact size_shape) ?_)
  refine (CS.out _).mono ?_
  rintro e w1 ⟨rfl, bw1⟩
  have HBw1 := hid (Below.on Hb.out bw1)
  have hsw1 := HBw1.out.size
  have Kpw1 := hid (Kp.out.below bw1)
  have Ksw1 := hid (Ks.out.below bw1)
  clear bw1
  go_wp2_with fail
  refine (CT.out _ (hT.below HBw1.out)).mono ?_
  rintro e w50 ⟨rfl, rfl⟩
  go_wp2_with fail
  refine (knows11 _).mono ?_
  rintro e w2 ⟨rfl, bw2⟩
  have HBw2 := hid (Below.on HBw1.out bw2)
  have hsw2 := HBw2.out.size
  have Kpw2 := hid (Kpw1.out.below bw2)
  have Ksw2 := hid (Ksw1.out.below bw2)
  clear bw2
  go_wp2_with fail
  go_returns
  exact ⟨rfl, HBw2.out⟩
set_option maxHeartbeats 4000000 in
theorem signs_bad (L V : Int) (root pk seed prf pub : List Int) (i : Int) (ta : Option Addr) (tn tc : Nat) (ts : List (List Int)) (w : World) (hroot : Dg root) (hpk : Dg pk) (hseed : Dg seed) (hprf : Dg prf) (hpub : Dg pub) (hT : TextsAt w ta tn tc ts) (hreach : ∀ t ∈ ts, t.length ≤ 140737488351232) (hsm : ∀ W, Calls Tryz.prog 4 #[.agg (shC L V), .int .i64 8] W fun e w' => e = .returned (.bool true) ∧ Below W.heap.size W w') (ht : fewB ts 1000 = true) (hr : rightS L V = false) :
    Calls Tryz.prog 3 #[.agg (pubC L V root pk).toArray, .agg ((secL seed prf pub).map (Value.int .u8)).toArray, .int .i64 i, .slice ta tn tc] w fun e w' => e = .returned (.bool true) ∧ Below w.heap.size w w' := by
  have Hss := hid (show ((secL seed prf pub).map (Value.int .u8)).toArray.size = 96 by rw [List.size_toArray, List.length_map, secL_length hseed hprf hpub])
  have CS := hid hsm
  have CT := hid (fun (W : World) (h : TextsAt W ta tn tc ts) => by have := few_any ta tn tc ts 1000 W h hreach; rw [ht] at this; exact this)
  have b1 := (Below.refl w.heap.size w).alloc (Nat.le_refl _) (.cells (pubC L V root pk).toArray 27 (0, 0))
  have b2 := b1.alloc b1.size (.cells ((secL seed prf pub).map (Value.int .u8)).toArray 29 (0, 0))
  have Kp := hid ((Blk.new (w := w) (n := w.heap.size) rfl (pubC L V root pk).toArray 27).old (.cells ((secL seed prf pub).map (Value.int .u8)).toArray 29 (0, 0)))
  have Ks := hid (Blk.new (w := (w.alloc (.cells (pubC L V root pk).toArray 27 (0, 0)))) (n := w.heap.size + 1) (by simp only [World.size_alloc]) ((secL seed prf pub).map (Value.int .u8)).toArray 29)
  have Hb := hid b2
  have hbz := b2.size
  have Hbs := hid (show w.heap.size + 1 + 1 = ((w.alloc (.cells (pubC L V root pk).toArray 27 (0, 0))).alloc (.cells ((secL seed prf pub).map (Value.int .u8)).toArray 29 (0, 0))).heap.size by simp only [World.size_alloc])
  clear b1 b2 
  go_enter Tryz.func3, Tryz.ntmps3
  go_wp2_with (refine wpList_load_mid rfl 23 _ rfl (w.heap.size) 0 rfl _ _ (pubC_shape Kp.out) Tryz.underlying23 rfl (by exact size_shape) ?_)
  refine (CS.out _).mono ?_
  rintro e w1 ⟨rfl, bw1⟩
  have HBw1 := hid (Below.on Hb.out bw1)
  have hsw1 := HBw1.out.size
  have Kpw1 := hid (Kp.out.below bw1)
  have Ksw1 := hid (Ks.out.below bw1)
  clear bw1
  go_wp2_with fail
  refine (CT.out _ (hT.below HBw1.out)).mono ?_
  rintro e w50 ⟨rfl, rfl⟩
  go_wp2_with (first
     | (refine wpList_load_blk rfl 27 _ rfl (w.heap.size) rfl _ 27 Kpw1.out _ Tryz.underlying27 rfl 66 size_public (pubC_size hroot hpk) ?_)
     | (refine wpList_load_blk rfl 29 _ rfl (w.heap.size + 1) rfl _ 29 Ksw1.out _ Tryz.underlying29 rfl 96 size_secret Hss.out ?_))
  refine (sign_bad L V i root pk _ _ _ hr).mono ?_
  rintro e w2 ⟨rfl, bw2⟩
  have HBw2 := hid (Below.on HBw1.out bw2)
  have hsw2 := HBw2.out.size
  have Kpw2 := hid (Kpw1.out.below bw2)
  have Ksw2 := hid (Ksw1.out.below bw2)
  clear bw2
  go_wp2_with (first
     | (
        refine wpList_store_blk rfl 36 _ _ rfl (w2.heap.size) zSig.toArray rfl rfl _ 36 (Blk.new rfl zSig.toArray _) 34 size_sig zSig_size zSig_size (sigC_ones _ _ _ rfl) ?_
        intro w3 hbw3 hkw3
        have hw3 := hbw3.below ((Below.refl w2.heap.size w2).alloc (Nat.le_refl _) _) (by simp only [World.size_alloc]; omega) (Nat.le_refl _)
        have HBw3 := hid (Below.on HBw2.out hw3)
        have hsw3 := HBw3.out.size
        have Kpw3 := hid (Kpw2.out.below hw3)
        have hlpw3 := Kpw2.out.lt
        have Ksw3 := hid (Ksw2.out.below hw3)
        have hlsw3 := Ksw2.out.lt
        have Kgw3 := hid hkw3
        have hfw3 : w.heap.size ≤ w2.heap.size := HBw2.out.size
        clear hbw3 hkw3 hw3
        have i0w3 := sigC_index (show Blk w3 _ (sigC 0 zD (.slice none 0 0)).toArray 36 from Kgw3.out)
        have v0w3 := sigC_parts Dg.zero (show Blk w3 _ (sigC 0 zD (.slice none 0 0)).toArray 36 from Kgw3.out))
     | (refine wpList_load_mid rfl 23 _ rfl (w.heap.size) 0 rfl _ _ (pubC_shape Kpw3.out) Tryz.underlying23 rfl (by exact size_shape) ?_))
  refine (refright_b L V false hr _).mono ?_
  rintro e w4 ⟨rfl, bw4⟩
  have HBw4 := hid (Below.on HBw3.out bw4)
  have hsw4 := HBw4.out.size
  have Kpw4 := hid (Kpw3.out.below bw4)
  have Ksw4 := hid (Ksw3.out.below bw4)
  have Kgw4 := hid (Kgw3.out.below bw4)
  clear bw4
  have i0 := sigC_index (show Blk w4 _ (sigC 0 zD (.slice none 0 0)).toArray 36 from Kgw4.out)
  have v0 := sigC_parts Dg.zero (show Blk w4 _ (sigC 0 zD (.slice none 0 0)).toArray 36 from Kgw4.out)
  go_wp2_with fail
  refine (knows11 _).mono ?_
  rintro e w5 ⟨rfl, bw5⟩
  have HBw5 := hid (Below.on HBw4.out bw5)
  have hsw5 := HBw5.out.size
  have Kpw5 := hid (Kpw4.out.below bw5)
  have Ksw5 := hid (Ksw4.out.below bw5)
  have Kgw5 := hid (Kgw4.out.below bw5)
  clear bw5
  go_wp2_with fail
  go_returns
  exact ⟨rfl, HBw5.out⟩
set_option maxHeartbeats 4000000 in
theorem signs_neg (L V : Int) (root pk seed prf pub : List Int) (i : Int) (ta : Option Addr) (tn tc : Nat) (ts : List (List Int)) (w : World) (hroot : Dg root) (hpk : Dg pk) (hseed : Dg seed) (hprf : Dg prf) (hpub : Dg pub) (hT : TextsAt w ta tn tc ts) (hreach : ∀ t ∈ ts, t.length ≤ 140737488351232) (hsm : ∀ W, Calls Tryz.prog 4 #[.agg (shC L V), .int .i64 8] W fun e w' => e = .returned (.bool true) ∧ Below W.heap.size W w') (ht : fewB ts 1000 = true) (hr : rightS L V = true) (hi : i < 0) :
    Calls Tryz.prog 3 #[.agg (pubC L V root pk).toArray, .agg ((secL seed prf pub).map (Value.int .u8)).toArray, .int .i64 i, .slice ta tn tc] w fun e w' => e = .returned (.bool true) ∧ Below w.heap.size w w' := by
  have Hss := hid (show ((secL seed prf pub).map (Value.int .u8)).toArray.size = 96 by rw [List.size_toArray, List.length_map, secL_length hseed hprf hpub])
  have CS := hid hsm
  have CT := hid (fun (W : World) (h : TextsAt W ta tn tc ts) => by have := few_any ta tn tc ts 1000 W h hreach; rw [ht] at this; exact this)
  have b1 := (Below.refl w.heap.size w).alloc (Nat.le_refl _) (.cells (pubC L V root pk).toArray 27 (0, 0))
  have b2 := b1.alloc b1.size (.cells ((secL seed prf pub).map (Value.int .u8)).toArray 29 (0, 0))
  have Kp := hid ((Blk.new (w := w) (n := w.heap.size) rfl (pubC L V root pk).toArray 27).old (.cells ((secL seed prf pub).map (Value.int .u8)).toArray 29 (0, 0)))
  have Ks := hid (Blk.new (w := (w.alloc (.cells (pubC L V root pk).toArray 27 (0, 0)))) (n := w.heap.size + 1) (by simp only [World.size_alloc]) ((secL seed prf pub).map (Value.int .u8)).toArray 29)
  have Hb := hid b2
  have hbz := b2.size
  have Hbs := hid (show w.heap.size + 1 + 1 = ((w.alloc (.cells (pubC L V root pk).toArray 27 (0, 0))).alloc (.cells ((secL seed prf pub).map (Value.int .u8)).toArray 29 (0, 0))).heap.size by simp only [World.size_alloc])
  clear b1 b2 
  go_enter Tryz.func3, Tryz.ntmps3
  go_wp2_with (refine wpList_load_mid rfl 23 _ rfl (w.heap.size) 0 rfl _ _ (pubC_shape Kp.out) Tryz.underlying23 rfl (by exact size_shape) ?_)
  refine (CS.out _).mono ?_
  rintro e w1 ⟨rfl, bw1⟩
  have HBw1 := hid (Below.on Hb.out bw1)
  have hsw1 := HBw1.out.size
  have Kpw1 := hid (Kp.out.below bw1)
  have Ksw1 := hid (Ks.out.below bw1)
  clear bw1
  go_wp2_with fail
  refine (CT.out _ (hT.below HBw1.out)).mono ?_
  rintro e w50 ⟨rfl, rfl⟩
  go_wp2_with (first
     | (refine wpList_load_blk rfl 27 _ rfl (w.heap.size) rfl _ 27 Kpw1.out _ Tryz.underlying27 rfl 66 size_public (pubC_size hroot hpk) ?_)
     | (refine wpList_load_blk rfl 29 _ rfl (w.heap.size + 1) rfl _ 29 Ksw1.out _ Tryz.underlying29 rfl 96 size_secret Hss.out ?_))
  refine (sign_neg L V i root pk _ _ _ hr hi).mono ?_
  rintro e w2 ⟨rfl, bw2⟩
  have HBw2 := hid (Below.on HBw1.out bw2)
  have hsw2 := HBw2.out.size
  have Kpw2 := hid (Kpw1.out.below bw2)
  have Ksw2 := hid (Ksw1.out.below bw2)
  clear bw2
  go_wp2_with (first
     | (
        refine wpList_store_blk rfl 36 _ _ rfl (w2.heap.size) zSig.toArray rfl rfl _ 36 (Blk.new rfl zSig.toArray _) 34 size_sig zSig_size zSig_size (sigC_ones _ _ _ rfl) ?_
        intro w3 hbw3 hkw3
        have hw3 := hbw3.below ((Below.refl w2.heap.size w2).alloc (Nat.le_refl _) _) (by simp only [World.size_alloc]; omega) (Nat.le_refl _)
        have HBw3 := hid (Below.on HBw2.out hw3)
        have hsw3 := HBw3.out.size
        have Kpw3 := hid (Kpw2.out.below hw3)
        have hlpw3 := Kpw2.out.lt
        have Ksw3 := hid (Ksw2.out.below hw3)
        have hlsw3 := Ksw2.out.lt
        have Kgw3 := hid hkw3
        have hfw3 : w.heap.size ≤ w2.heap.size := HBw2.out.size
        clear hbw3 hkw3 hw3
        have i0w3 := sigC_index (show Blk w3 _ (sigC 0 zD (.slice none 0 0)).toArray 36 from Kgw3.out)
        have v0w3 := sigC_parts Dg.zero (show Blk w3 _ (sigC 0 zD (.slice none 0 0)).toArray 36 from Kgw3.out))
     | (refine wpList_load_mid rfl 23 _ rfl (w.heap.size) 0 rfl _ _ (pubC_shape Kpw3.out) Tryz.underlying23 rfl (by exact size_shape) ?_))
  refine (refright_b L V true hr _).mono ?_
  rintro e w4 ⟨rfl, bw4⟩
  have HBw4 := hid (Below.on HBw3.out bw4)
  have hsw4 := HBw4.out.size
  have Kpw4 := hid (Kpw3.out.below bw4)
  have Ksw4 := hid (Ksw3.out.below bw4)
  have Kgw4 := hid (Kgw3.out.below bw4)
  clear bw4
  have i0 := sigC_index (show Blk w4 _ (sigC 0 zD (.slice none 0 0)).toArray 36 from Kgw4.out)
  have v0 := sigC_parts Dg.zero (show Blk w4 _ (sigC 0 zD (.slice none 0 0)).toArray 36 from Kgw4.out)
  go_wp2_with fail
  refine (knows11 _).mono ?_
  rintro e w5 ⟨rfl, bw5⟩
  have HBw5 := hid (Below.on HBw4.out bw5)
  have hsw5 := HBw5.out.size
  have Kpw5 := hid (Kpw4.out.below bw5)
  have Ksw5 := hid (Ksw4.out.below bw5)
  have Kgw5 := hid (Kgw4.out.below bw5)
  clear bw5
  go_wp2_with fail
  go_returns
  exact ⟨rfl, HBw5.out⟩
set_option maxHeartbeats 4000000 in
theorem signs_spent (L V : Int) (root pk seed prf pub : List Int) (i : Int) (ta : Option Addr) (tn tc : Nat) (ts : List (List Int)) (w : World) (hroot : Dg root) (hpk : Dg pk) (hseed : Dg seed) (hprf : Dg prf) (hpub : Dg pub) (hT : TextsAt w ta tn tc ts) (hreach : ∀ t ∈ ts, t.length ≤ 140737488351232) (hsm : ∀ W, Calls Tryz.prog 4 #[.agg (shC L V), .int .i64 8] W fun e w' => e = .returned (.bool true) ∧ Below W.heap.size W w') (ht : fewB ts 1000 = true) (hr : rightS L V = true) (hi0 : 0 ≤ i) (hi : manyS L V ≤ i) :
    Calls Tryz.prog 3 #[.agg (pubC L V root pk).toArray, .agg ((secL seed prf pub).map (Value.int .u8)).toArray, .int .i64 i, .slice ta tn tc] w fun e w' => e = .returned (.bool true) ∧ Below w.heap.size w w' := by
  have Hss := hid (show ((secL seed prf pub).map (Value.int .u8)).toArray.size = 96 by rw [List.size_toArray, List.length_map, secL_length hseed hprf hpub])
  have CS := hid hsm
  have CT := hid (fun (W : World) (h : TextsAt W ta tn tc ts) => by have := few_any ta tn tc ts 1000 W h hreach; rw [ht] at this; exact this)
  have hn0 : ¬ (i < 0) := by omega
  have b1 := (Below.refl w.heap.size w).alloc (Nat.le_refl _) (.cells (pubC L V root pk).toArray 27 (0, 0))
  have b2 := b1.alloc b1.size (.cells ((secL seed prf pub).map (Value.int .u8)).toArray 29 (0, 0))
  have Kp := hid ((Blk.new (w := w) (n := w.heap.size) rfl (pubC L V root pk).toArray 27).old (.cells ((secL seed prf pub).map (Value.int .u8)).toArray 29 (0, 0)))
  have Ks := hid (Blk.new (w := (w.alloc (.cells (pubC L V root pk).toArray 27 (0, 0)))) (n := w.heap.size + 1) (by simp only [World.size_alloc]) ((secL seed prf pub).map (Value.int .u8)).toArray 29)
  have Hb := hid b2
  have hbz := b2.size
  have Hbs := hid (show w.heap.size + 1 + 1 = ((w.alloc (.cells (pubC L V root pk).toArray 27 (0, 0))).alloc (.cells ((secL seed prf pub).map (Value.int .u8)).toArray 29 (0, 0))).heap.size by simp only [World.size_alloc])
  clear b1 b2 
  go_enter Tryz.func3, Tryz.ntmps3
  go_wp2_with (refine wpList_load_mid rfl 23 _ rfl (w.heap.size) 0 rfl _ _ (pubC_shape Kp.out) Tryz.underlying23 rfl (by exact size_shape) ?_)
  refine (CS.out _).mono ?_
  rintro e w1 ⟨rfl, bw1⟩
  have HBw1 := hid (Below.on Hb.out bw1)
  have hsw1 := HBw1.out.size
  have Kpw1 := hid (Kp.out.below bw1)
  have Ksw1 := hid (Ks.out.below bw1)
  clear bw1
  go_wp2_with fail
  refine (CT.out _ (hT.below HBw1.out)).mono ?_
  rintro e w50 ⟨rfl, rfl⟩
  go_wp2_with (first
     | (refine wpList_load_blk rfl 27 _ rfl (w.heap.size) rfl _ 27 Kpw1.out _ Tryz.underlying27 rfl 66 size_public (pubC_size hroot hpk) ?_)
     | (refine wpList_load_blk rfl 29 _ rfl (w.heap.size + 1) rfl _ 29 Ksw1.out _ Tryz.underlying29 rfl 96 size_secret Hss.out ?_))
  refine (sign_spent L V i root pk _ _ _ hr hi0 hi).mono ?_
  rintro e w2 ⟨rfl, bw2⟩
  have HBw2 := hid (Below.on HBw1.out bw2)
  have hsw2 := HBw2.out.size
  have Kpw2 := hid (Kpw1.out.below bw2)
  have Ksw2 := hid (Ksw1.out.below bw2)
  clear bw2
  go_wp2_with (first
     | (
        refine wpList_store_blk rfl 36 _ _ rfl (w2.heap.size) zSig.toArray rfl rfl _ 36 (Blk.new rfl zSig.toArray _) 34 size_sig zSig_size zSig_size (sigC_ones _ _ _ rfl) ?_
        intro w3 hbw3 hkw3
        have hw3 := hbw3.below ((Below.refl w2.heap.size w2).alloc (Nat.le_refl _) _) (by simp only [World.size_alloc]; omega) (Nat.le_refl _)
        have HBw3 := hid (Below.on HBw2.out hw3)
        have hsw3 := HBw3.out.size
        have Kpw3 := hid (Kpw2.out.below hw3)
        have hlpw3 := Kpw2.out.lt
        have Ksw3 := hid (Ksw2.out.below hw3)
        have hlsw3 := Ksw2.out.lt
        have Kgw3 := hid hkw3
        have hfw3 : w.heap.size ≤ w2.heap.size := HBw2.out.size
        clear hbw3 hkw3 hw3
        have i0w3 := sigC_index (show Blk w3 _ (sigC 0 zD (.slice none 0 0)).toArray 36 from Kgw3.out)
        have v0w3 := sigC_parts Dg.zero (show Blk w3 _ (sigC 0 zD (.slice none 0 0)).toArray 36 from Kgw3.out))
     | (refine wpList_load_mid rfl 23 _ rfl (w.heap.size) 0 rfl _ _ (pubC_shape Kpw3.out) Tryz.underlying23 rfl (by exact size_shape) ?_))
  refine (refright_b L V true hr _).mono ?_
  rintro e w4 ⟨rfl, bw4⟩
  have HBw4 := hid (Below.on HBw3.out bw4)
  have hsw4 := HBw4.out.size
  have Kpw4 := hid (Kpw3.out.below bw4)
  have Ksw4 := hid (Ksw3.out.below bw4)
  have Kgw4 := hid (Kgw3.out.below bw4)
  clear bw4
  go_wp2_with (refine wpList_load_mid rfl 23 _ rfl (w.heap.size) 0 rfl _ _ (pubC_shape Kpw4.out) Tryz.underlying23 rfl (by exact size_shape) ?_)
  refine (refmany_any L V _).mono ?_
  rintro e w5 ⟨rfl, bw5⟩
  have HBw5 := hid (Below.on HBw4.out bw5)
  have hsw5 := HBw5.out.size
  have Kpw5 := hid (Kpw4.out.below bw5)
  have Ksw5 := hid (Ksw4.out.below bw5)
  have Kgw5 := hid (Kgw4.out.below bw5)
  clear bw5
  have i0 := sigC_index (show Blk w5 _ (sigC 0 zD (.slice none 0 0)).toArray 36 from Kgw5.out)
  have v0 := sigC_parts Dg.zero (show Blk w5 _ (sigC 0 zD (.slice none 0 0)).toArray 36 from Kgw5.out)
  go_wp2_with fail
  refine (knows11 _).mono ?_
  rintro e w6 ⟨rfl, bw6⟩
  have HBw6 := hid (Below.on HBw5.out bw6)
  have hsw6 := HBw6.out.size
  have Kpw6 := hid (Kpw5.out.below bw6)
  have Ksw6 := hid (Ksw5.out.below bw6)
  have Kgw6 := hid (Kgw5.out.below bw6)
  clear bw6
  go_wp2_with fail
  go_returns
  exact ⟨rfl, HBw6.out⟩
set_option maxHeartbeats 4000000 in
theorem signs_good (L n : Nat) (root pk seed prf pub : List Int) (i : Int) (ta : Option Addr) (tn tc : Nat) (ts : List (List Int)) (w : World) (hroot : Dg root) (hpk : Dg pk) (hseed : Dg seed) (hprf : Dg prf) (hpub : Dg pub) (hT : TextsAt w ta tn tc ts) (hreach : ∀ t ∈ ts, t.length ≤ 140737488351232) (hr : rightS L n = true) (hsm : decide ((L : Int) * ((2 ^ n : Nat) : Int) ≤ 8) = true) (ht : fewB ts 1000 = true) (hi0 : 0 ≤ i) (hi : i < manyS L n) (tab : ShaTab w) :
    Calls Tryz.prog 3 #[.agg (pubC L n root pk).toArray, .agg ((secL seed prf pub).map (Value.int .u8)).toArray, .int .i64 i, .slice ta tn tc] w fun e w' => e = .returned (.bool true) ∧ Below w.heap.size w w' := by
  have Hss := hid (show ((secL seed prf pub).map (Value.int .u8)).toArray.size = 96 by rw [List.size_toArray, List.length_map, secL_length hseed hprf hpub])
  obtain ⟨hs1, hs2⟩ := fewB_spec ht
  have hlt := hT.length
  have hfl := flatten_length ts
  have hn0 : ¬ (i < 0) := by omega
  have hn1 : ¬ (manyS L n ≤ i) := by omega
  have CT := hid (fun (W : World) (h : TextsAt W ta tn tc ts) => by have := few_any ta tn tc ts 1000 W h hreach; rw [ht] at this; exact this)
  have CSg := hid (fun (W : World) (h : TextsAt W ta tn tc ts) (t : ShaTab W) => sign_good L n i root pk seed prf pub ta tn tc ts W hr hi0 hi hroot hpk hseed hprf hpub h (by omega) (by omega) t)
  have CR := hid (fun (fa : Option Addr) (fn fc : Nat) (W : World) (h : TextAt W fa fn fc ts.flatten) => refsign_good L n i root pk seed prf pub fa fn fc ts.flatten W hr hi0 hi hroot hpk hseed hprf hpub h (by have := h.length; omega))
  have HRR := hid (Dg.prf prf (be 32 i))
  generalize sgPs seed pub n ((2 ^ n : Nat) : Int) i (msgZ (prfZ prf (be 32 i)) root i ts.flatten) L = PS at *
  generalize prfZ prf (be 32 i) = RR at *
  have CM := hid (fun (xa : Option Addr) (xc : Nat) (ra : Option Addr) (rc : Nat) (W : World) (h1 : PartsAt W xa L xc PS) (h2 : PartsAt W ra L rc PS) => sigsame_any i RR xa L xc ra rc PS W HRR.out h1 h2)
  have b1 := (Below.refl w.heap.size w).alloc (Nat.le_refl _) (.cells (pubC L n root pk).toArray 27 (0, 0))
  have b2 := b1.alloc b1.size (.cells ((secL seed prf pub).map (Value.int .u8)).toArray 29 (0, 0))
  have Kp := hid ((Blk.new (w := w) (n := w.heap.size) rfl (pubC L n root pk).toArray 27).old (.cells ((secL seed prf pub).map (Value.int .u8)).toArray 29 (0, 0)))
  have Ks := hid (Blk.new (w := (w.alloc (.cells (pubC L n root pk).toArray 27 (0, 0)))) (n := w.heap.size + 1) (by simp only [World.size_alloc]) ((secL seed prf pub).map (Value.int .u8)).toArray 29)
  have Hb := hid b2
  have hbz := b2.size
  have Hbs := hid (show w.heap.size + 1 + 1 = ((w.alloc (.cells (pubC L n root pk).toArray 27 (0, 0))).alloc (.cells ((secL seed prf pub).map (Value.int .u8)).toArray 29 (0, 0))).heap.size by simp only [World.size_alloc])
  have Htab := hid tab
  clear b1 b2 tab 
  go_enter Tryz.func3, Tryz.ntmps3
  go_wp2_with (refine wpList_load_mid rfl 23 _ rfl (w.heap.size) 0 rfl _ _ (pubC_shape Kp.out) Tryz.underlying23 rfl (by exact size_shape) ?_)
  refine (small_good L n 8 true _ hr hsm).mono ?_
  rintro e w1 ⟨rfl, bw1⟩
  have HBw1 := hid (Below.on Hb.out bw1)
  have hsw1 := HBw1.out.size
  have Kpw1 := hid (Kp.out.below bw1)
  have Ksw1 := hid (Ks.out.below bw1)
  clear bw1
  go_wp2_with fail
  refine (CT.out _ (hT.below HBw1.out)).mono ?_
  rintro e w50 ⟨rfl, rfl⟩
  go_wp2_with (first
     | (refine wpList_load_blk rfl 27 _ rfl (w.heap.size) rfl _ 27 Kpw1.out _ Tryz.underlying27 rfl 66 size_public (pubC_size hroot hpk) ?_)
     | (refine wpList_load_blk rfl 29 _ rfl (w.heap.size + 1) rfl _ 29 Ksw1.out _ Tryz.underlying29 rfl 96 size_secret Hss.out ?_))
  refine (CSg.out _ (hT.below HBw1.out) (Htab.out.below HBw1.out)).mono ?_
  rintro e w60 ⟨xa, xc, rfl, b60, hp60, _⟩
  have HP60 := hid hp60
  have HBw60 := hid (Below.on HBw1.out b60)
  have hsw60 := HBw60.out.size
  have Kpw60 := hid (Kpw1.out.below b60)
  have Ksw60 := hid (Ksw1.out.below b60)
  clear b60 hp60
  have Htab60 := hid (Htab.out.below HBw60.out)
  go_wp2_with (first
     | (
        refine wpList_store_blk rfl 36 _ _ rfl (w60.heap.size) (sigC i RR (.slice xa L xc)).toArray rfl rfl _ 36 (Blk.new rfl zSig.toArray _) 34 size_sig zSig_size (sigC_size HRR.out) (sigC_ones _ _ _ rfl) ?_
        intro w61 hbw61 hkw61
        have hw61 := hbw61.below ((Below.refl w60.heap.size w60).alloc (Nat.le_refl _) _) (by simp only [World.size_alloc]; omega) (Nat.le_refl _)
        have HBw61 := hid (Below.on HBw60.out hw61)
        have hsw61 := HBw61.out.size
        have Kpw61 := hid (Kpw60.out.below hw61)
        have hlpw61 := Kpw60.out.lt
        have Ksw61 := hid (Ksw60.out.below hw61)
        have hlsw61 := Ksw60.out.lt
        have Kgw61 := hid hkw61
        have hfw61 : w.heap.size ≤ w60.heap.size := HBw60.out.size
        have HPw61 := hid (HP60.out.below hw61)
        clear hbw61 hkw61 hw61)
     | (refine wpList_load_mid rfl 23 _ rfl (w.heap.size) 0 rfl _ _ (pubC_shape Kpw61.out) Tryz.underlying23 rfl (by exact size_shape) ?_))
  refine (refright_b L n true hr _).mono ?_
  rintro e w62 ⟨rfl, bw62⟩
  have HBw62 := hid (Below.on HBw61.out bw62)
  have hsw62 := HBw62.out.size
  have Kpw62 := hid (Kpw61.out.below bw62)
  have Ksw62 := hid (Ksw61.out.below bw62)
  have Kgw62 := hid (Kgw61.out.below bw62)
  have HPw62 := hid (HPw61.out.below bw62)
  clear bw62
  skip
  go_wp2_with (refine wpList_load_mid rfl 23 _ rfl (w.heap.size) 0 rfl _ _ (pubC_shape Kpw62.out) Tryz.underlying23 rfl (by exact size_shape) ?_)
  refine (refmany_any L n _).mono ?_
  rintro e w63 ⟨rfl, bw63⟩
  have HBw63 := hid (Below.on HBw62.out bw63)
  have hsw63 := HBw63.out.size
  have Kpw63 := hid (Kpw62.out.below bw63)
  have Ksw63 := hid (Ksw62.out.below bw63)
  have Kgw63 := hid (Kgw62.out.below bw63)
  have HPw63 := hid (HPw62.out.below bw63)
  clear bw63
  go_wp2_with fail
  refine wp_region_flow 15 [0, 1, 2, 3, 4] [] [(.c 5, [], []), (.c 6, [7, 8, 9, 10, 11, 12, 13, 14], [])] (by kernel_rfl) (by kernel_rfl) ?_
  apply Exists.intro
  refine ⟨fun w0 hb0 hF0 => ?_, ?_⟩
  · skip
    have x0 : ∀ w', (∃ x : Ext w0, w' = x.at_) → ∃ T, Blk w' (w60.heap.size) (sigC i RR (.slice xa L xc)).toArray T := fun w' ⟨x, hx⟩ => ⟨_, hx ▸ (Kgw63.out.below hb0).below x.same⟩
    have x1 : ∀ w', (∃ x : Ext w0, w' = x.at_) → ∃ T, Blk w' (w.heap.size) (pubC L n root pk).toArray T := fun w' ⟨x, hx⟩ => ⟨_, hx ▸ (Kpw63.out.below hb0).below x.same⟩
    have x2 : ∀ w', (∃ x : Ext w0, w' = x.at_) → ∃ T, Blk w' (w.heap.size + 1) ((secL seed prf pub).map (Value.int .u8)).toArray T := fun w' ⟨x, hx⟩ => ⟨_, hx ▸ (Ksw63.out.below hb0).below x.same⟩
    simp only [pick, List.getElem?_toArray, List.getElem?_cons_succ, List.getElem?_cons_zero, Option.toList_some, List.cons_append, List.nil_append]
    repeat (first | (go_big_quiet_want; refine quiet_load_blk 36 _ rfl (w60.heap.size) rfl _ x0 _ Tryz.underlying36 rfl 34 size_sig (sigC_size HRR.out) ?_; go_big_quiet_on; simp only [Act.put, List.setIfInBounds_toArray, List.set_cons_zero, List.set_cons_succ]) | (go_big_quiet_want; refine quiet_load_blk 27 _ rfl (w.heap.size) rfl _ x1 _ Tryz.underlying27 rfl 66 size_public (pubC_size hroot hpk) ?_; go_big_quiet_on; simp only [Act.put, List.setIfInBounds_toArray, List.set_cons_zero, List.set_cons_succ]) | (go_big_quiet_want; refine quiet_load_blk 29 _ rfl (w.heap.size + 1) rfl _ x2 _ Tryz.underlying29 rfl 96 size_secret Hss.out ?_; go_big_quiet_on; simp only [Act.put, List.setIfInBounds_toArray, List.set_cons_zero, List.set_cons_succ]) | go_big_quiet_step (fail))
    exact wpQuiet_nil rfl
  refine AlChk.nil ?_
  refine Walk.call rfl 12 #[.slice ta tn tc] (TextV ts.flatten) (fun v w' w'' h k => h.below k) rfl (fun w1 hb1 hF1 => ⟨by go_simp, ?_⟩) ?_
  · skip
    refine (join_any ta tn tc ts w1 ((hT.below HBw63.out).below hb1) (by omega)).mono ?_
    rintro e w2 ⟨v, rfl, o2, b2⟩
    exact ⟨v, rfl, b2, TextV.of_own o2⟩
  rintro v0 w1 hb1 hF1 ⟨fa, fn, fc, rfl, hFT⟩
  apply Exists.intro
  refine ⟨fun w0 hb0 hF0 => ?_, ?_⟩
  · skip
    exact wpQuiet_nil rfl
  refine AlChk.nil ?_
  refine Walk.call rfl 11 #[.agg (pubC L n root pk).toArray, .agg ((secL seed prf pub).map (Value.int .u8)).toArray, .int .i64 i, .slice fa fn fc] (SigV i RR L PS) (fun v w' w'' h k => h.below k) rfl (fun w1 hb1 hF1 => ⟨by go_simp, ?_⟩) ?_
  · skip
    refine (CR.out fa fn fc w1 (show TextV ts.flatten (.slice fa fn fc) w1 from hF1.2).text).mono ?_
    rintro e w2 ⟨a, cap, rfl, b2, hp⟩
    exact ⟨_, rfl, b2, a, cap, rfl, hp⟩
  rintro v1 w1 hb1 hF1 ⟨ra, rc, rfl, hFP⟩
  apply Exists.intro
  refine ⟨fun w0 hb0 hF0 => ?_, ?_⟩
  · skip
    have c0 := fun e : Ext w0 => CM.out xa xc ra rc e.at_ (((HPw63.out.below hb0)).below e.same) ((show SigV i RR L PS (.agg (sigC i RR (.slice ra L rc)).toArray) w0 from hF0.2).parts.1.below e.same)
    have c1 := fun e : Ext w0 => knows11 e.at_
    simp only [pick, List.getElem?_toArray, List.getElem?_cons_succ, List.getElem?_cons_zero, Option.toList_some, List.cons_append, List.nil_append, Act.put, List.setIfInBounds_toArray, List.set_cons_zero, List.set_cons_succ]
    repeat (first | go_big_quiet_step (first | (go_at_call 10; with_reducible exact Calls.ext (c0 _)) | (go_at_call 6; with_reducible exact Calls.ext (c1 _))))
    exact wpQuiet_nil rfl
  refine AlChk.nil ?_
  refine Walk.fin fun w64 hw64 hFw64 _ => ?_
  simp only [List.drop_succ_cons, List.drop_zero]
  have HFw64 := hid hFw64
  have HBw64 := hid (Below.on HBw63.out hw64)
  have hsw64 := HBw64.out.size
  have Kpw64 := hid (Kpw63.out.below hw64)
  have Ksw64 := hid (Ksw63.out.below hw64)
  have Kgw64 := hid (Kgw63.out.below hw64)
  clear hw64 hFw64
  go_wp2_with fail
  go_returns
  exact ⟨rfl, HBw64.out⟩
end Go.Proofs.YtjkfbeillmeomaaGreatDoor
