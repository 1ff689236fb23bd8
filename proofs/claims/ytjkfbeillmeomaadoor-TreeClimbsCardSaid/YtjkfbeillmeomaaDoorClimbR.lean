/-
  Layer 10: climbing, as the reference does it.
-/
import Derived.Test.YtjkfbeillmeomaaDoorClimbP
namespace Go.Proofs.YtjkfbeillmeomaaDoor
open Go.ChangeShapes Go.WideShapes Go.ChangeAt Go.RowKit

set_option maxHeartbeats 4000000 in
set_option maxRecDepth 100000 in
theorem refbase_tree (la tr : Int) (w : World) (h0 : 0 ≤ tr) (h1 : tr < 18446744073709551616) :
    Calls Tryd.prog 95 #[.int .u32 la, .int .u64 tr, .int .u32 2, .int .u32 0] w fun e w' => e = .returned (.agg ((treeZ la tr).map (Value.int .u32)).toArray) ∧ Below w.heap.size w w' := by
  go_enter Tryd.func95, Tryd.ntmps95
  go_wp2
  go_returns
  exact ⟨rfl, by go_grown⟩

set_option maxHeartbeats 4000000 in
set_option maxRecDepth 100000 in
theorem two_any (da db pub : List Int) (la tr lev num : Int) (w : World) (hda : Dg da) (hdb : Dg db) (hpub : Dg pub) (hla : 0 ≤ la ∧ la < 4294967296) (htr : 0 ≤ tr ∧ tr < 18446744073709551616) (hl : 0 ≤ lev ∧ lev < 4294967296) (hn : 0 ≤ num ∧ num < 4294967296) :
    Calls Tryd.prog 97 #[(.agg (da.map (Value.int .u8)).toArray), (.agg (db.map (Value.int .u8)).toArray), (.agg (pub.map (Value.int .u8)).toArray), .int .u32 la, .int .u64 tr, .int .i64 lev, .int .i64 num] w fun e w' => e = .returned (.agg ((joinZ da db pub (setAd (treeZ la tr) lev num 0)).map (Value.int .u8)).toArray) ∧ Below w.heap.size w w' := by
  have HJ := hid (Dg.join da db pub (setAd (treeZ la tr) lev num 0))
  have HAd := hid (Aw.tree hla htr)
  have HA := hid (HAd.out.set (f := lev) (s := num) (p := 0) hl hn (by omega))
  have J1 := hid (fun (W : World) => refjoin_any da db pub (setAd (treeZ la tr) lev num 0) W hda hdb hpub HA.out)
  generalize (joinZ da db pub (setAd (treeZ la tr) lev num 0)) = J at *
  have b1 := (Below.refl w.heap.size w).alloc (Nat.le_refl _) (.cells (da.map (Value.int .u8)).toArray 23 (0, 0))
  have b2 := b1.alloc b1.size (.cells (db.map (Value.int .u8)).toArray 23 (0, 0))
  have b3 := b2.alloc b2.size (.cells (pub.map (Value.int .u8)).toArray 23 (0, 0))
  have b4 := b3.alloc b3.size (.cells (byteCells 32 []) 23 (0, 0))
  have Ka := hid ((((Blk.new (w := w) (n := w.heap.size) rfl (da.map (Value.int .u8)).toArray 23).old (.cells (db.map (Value.int .u8)).toArray 23 (0, 0))).old (.cells (pub.map (Value.int .u8)).toArray 23 (0, 0))).old (.cells (byteCells 32 []) 23 (0, 0)))
  have Kb := hid (((Blk.new (w := (w.alloc (.cells (da.map (Value.int .u8)).toArray 23 (0, 0)))) (n := w.heap.size + 1) (by simp only [World.size_alloc]) (db.map (Value.int .u8)).toArray 23).old (.cells (pub.map (Value.int .u8)).toArray 23 (0, 0))).old (.cells (byteCells 32 []) 23 (0, 0)))
  have Kp := hid ((Blk.new (w := ((w.alloc (.cells (da.map (Value.int .u8)).toArray 23 (0, 0))).alloc (.cells (db.map (Value.int .u8)).toArray 23 (0, 0)))) (n := w.heap.size + 1 + 1) (by simp only [World.size_alloc]) (pub.map (Value.int .u8)).toArray 23).old (.cells (byteCells 32 []) 23 (0, 0)))
  have Kr0 := hid (Blk.new (w := (((w.alloc (.cells (da.map (Value.int .u8)).toArray 23 (0, 0))).alloc (.cells (db.map (Value.int .u8)).toArray 23 (0, 0))).alloc (.cells (pub.map (Value.int .u8)).toArray 23 (0, 0)))) (n := w.heap.size + 1 + 1 + 1) (by simp only [World.size_alloc]) (byteCells 32 []) 23)
  have Hb := hid b4
  have HzA := hid zsize
  have hbz := b4.size
  have Hbs := hid (show w.heap.size + 1 + 1 + 1 + 1 = ((((w.alloc (.cells (da.map (Value.int .u8)).toArray 23 (0, 0))).alloc (.cells (db.map (Value.int .u8)).toArray 23 (0, 0))).alloc (.cells (pub.map (Value.int .u8)).toArray 23 (0, 0))).alloc (.cells (byteCells 32 []) 23 (0, 0))).heap.size by simp only [World.size_alloc])
  clear b1 b2 b3 b4
  go_enter Tryd.func97, Tryd.ntmps97
  go_wp2_with fail
  refine wp_region_flow 12 (List.range 12) [] [] (by kernel_rfl) (by kernel_rfl) ?_
  apply Exists.intro
  refine ⟨fun w0 hb0 hF0 => ?_, ?_⟩
  · skip
    have x0 : ∀ w', (∃ x : Ext w0, w' = x.at_) → ∃ T, Blk w' (w.heap.size) (da.map (Value.int .u8)).toArray T := fun w' ⟨x, hx⟩ => ⟨_, hx ▸ (Ka.out.below hb0).below x.same⟩
    have x1 : ∀ w', (∃ x : Ext w0, w' = x.at_) → ∃ T, Blk w' (w.heap.size + 1) (db.map (Value.int .u8)).toArray T := fun w' ⟨x, hx⟩ => ⟨_, hx ▸ (Kb.out.below hb0).below x.same⟩
    have x2 : ∀ w', (∃ x : Ext w0, w' = x.at_) → ∃ T, Blk w' (w.heap.size + 1 + 1) (pub.map (Value.int .u8)).toArray T := fun w' ⟨x, hx⟩ => ⟨_, hx ▸ (Kp.out.below hb0).below x.same⟩
    have c0 := fun e : Ext w0 => refbase_tree la tr e.at_ htr.1 htr.2
    have c1 := fun e : Ext w0 => refat_list (treeZ la tr) lev num 0 e.at_ HAd.out
    have c2 := fun e : Ext w0 => J1.out e.at_
    simp only [pick, List.range, List.range.loop, List.getElem?_toArray, List.getElem?_cons_succ, List.getElem?_cons_zero, Option.toList_some, List.cons_append, List.nil_append]
    repeat (first | (go_big_quiet_want; refine quiet_load_blk 23 _ rfl (w.heap.size) rfl _ x0 _ Tryd.underlying23 rfl 32 size_digest hda.size ?_; go_big_quiet_on; simp only [Act.put, List.setIfInBounds_toArray, List.set_cons_zero, List.set_cons_succ]) | (go_big_quiet_want; refine quiet_load_blk 23 _ rfl (w.heap.size + 1) rfl _ x1 _ Tryd.underlying23 rfl 32 size_digest hdb.size ?_; go_big_quiet_on; simp only [Act.put, List.setIfInBounds_toArray, List.set_cons_zero, List.set_cons_succ]) | (go_big_quiet_want; refine quiet_load_blk 23 _ rfl (w.heap.size + 1 + 1) rfl _ x2 _ Tryd.underlying23 rfl 32 size_digest hpub.size ?_; go_big_quiet_on; simp only [Act.put, List.setIfInBounds_toArray, List.set_cons_zero, List.set_cons_succ]) | go_big_quiet_step (first | (go_at_call 95; with_reducible exact Calls.ext (c0 _)) | (go_at_call 71; with_reducible exact Calls.ext (c1 _)) | (go_at_call 30; with_reducible exact Calls.ext (c2 _))))
    exact wpQuiet_nil rfl
  refine AlChk.nil ?_
  refine Walk.fin fun w1 hw1 _ _ => ?_
  simp only [List.drop_succ_cons, List.drop_zero]
  have HBw1 := hid (Below.on Hb.out hw1)
  have hsw1 := HBw1.out.size
  have Kaw1 := hid (Ka.out.below hw1)
  have Kbw1 := hid (Kb.out.below hw1)
  have Kpw1 := hid (Kp.out.below hw1)
  have Kr0w1 := hid (Kr0.out.below hw1)
  clear hw1
  go_wp2_with (
      refine wpList_store_blk rfl 23 _ _ rfl (w.heap.size + 1 + 1 + 1) (J.map (Value.int .u8)).toArray rfl rfl _ 23 Kr0w1.out 32 size_digest HzA.out HJ.out.size (ints_one _ _) ?_
      intro w9 hb9 hk9
      have HB9 := hid (hb9.below HBw1.out HBw1.out.size (by omega))
      have HK9 := hid hk9
      clear hb9 hk9)
  exact bodyPost_ret (v := (.agg (J.map (Value.int .u8)).toArray)) (results_blk Tryd.results97 _ (w.heap.size + 1 + 1 + 1) rfl _ 23 HK9.out _ Tryd.underlying23 rfl 32 size_digest HJ.out.size) rfl ⟨rfl, HB9.out⟩

set_option maxHeartbeats 4000000 in
set_option maxRecDepth 100000 in
theorem refclimb_any (dx pub : List Int) (na : Option Addr) (n nc : Nat) (way : List (List Int)) (i la tr : Int) (w : World) (hx : Dg dx) (hpub : Dg pub) (hN : DigsAt w na n nc way) (hla : 0 ≤ la ∧ la < 4294967296) (htr : 0 ≤ tr ∧ tr < 18446744073709551616) (hr : rightZ n i = true) :
    Calls Tryd.prog 40 #[(.agg (dx.map (Value.int .u8)).toArray), .slice na n nc, .int .i64 i, (.agg (pub.map (Value.int .u8)).toArray), .int .u32 la, .int .u64 tr] w fun e w' => e = .returned (.agg ((climbZ pub (treeZ la tr) i way dx n).map (Value.int .u8)).toArray) ∧ Below w.heap.size w w' := by
  have HN := hid hN
  have hle := hN.le
  have hmx := hN.max
  have hr2 := hr
  simp only [rightZ, decide_eq_true_eq] at hr2
  have b1 := (Below.refl w.heap.size w).alloc (Nat.le_refl _) (.cells (dx.map (Value.int .u8)).toArray 23 (0, 0))
  have b2 := b1.alloc b1.size (.cells (pub.map (Value.int .u8)).toArray 23 (0, 0))
  have b3 := b2.alloc b2.size (.cells (byteCells 32 []) 23 (0, 0))
  have Kx := hid (((Blk.new (w := w) (n := w.heap.size) rfl (dx.map (Value.int .u8)).toArray 23).old (.cells (pub.map (Value.int .u8)).toArray 23 (0, 0))).old (.cells (byteCells 32 []) 23 (0, 0)))
  have Kp := hid ((Blk.new (w := (w.alloc (.cells (dx.map (Value.int .u8)).toArray 23 (0, 0)))) (n := w.heap.size + 1) (by simp only [World.size_alloc]) (pub.map (Value.int .u8)).toArray 23).old (.cells (byteCells 32 []) 23 (0, 0)))
  have Kr0 := hid (Blk.new (w := ((w.alloc (.cells (dx.map (Value.int .u8)).toArray 23 (0, 0))).alloc (.cells (pub.map (Value.int .u8)).toArray 23 (0, 0)))) (n := w.heap.size + 1 + 1) (by simp only [World.size_alloc]) (byteCells 32 []) 23)
  have Hb := hid b3
  have HzA := hid zsize
  have hbz := b3.size
  have Hbs := hid (show w.heap.size + 1 + 1 + 1 = (((w.alloc (.cells (dx.map (Value.int .u8)).toArray 23 (0, 0))).alloc (.cells (pub.map (Value.int .u8)).toArray 23 (0, 0))).alloc (.cells (byteCells 32 []) 23 (0, 0))).heap.size by simp only [World.size_alloc])
  clear b1 b2 b3
  go_enter Tryd.func40, Tryd.ntmps40
  go_wp2_with fail
  go_loopw [2, 13] (fun iv kv wr => ∃ k : Nat, k ≤ n ∧ iv = .int .i64 (i / 2 ^ k) ∧ kv = .int .i64 k ∧ Blk wr (w.heap.size) ((climbZ pub (treeZ la tr) i way dx k).map (Value.int .u8)).toArray 23 ∧ Blk wr (w.heap.size + 1) (pub.map (Value.int .u8)).toArray 23 ∧ Blk wr (w.heap.size + 1 + 1) (byteCells 32 []) 23 ∧ Below w.heap.size w wr) (fun _ kv _ => n - (intOf kv).toNat)
  case atStart => exact ⟨0, Nat.zero_le _, by simp, rfl, Kx.out, Kp.out, Kr0.out, Hb.out⟩
  case round =>
    obtain ⟨k, hk, rfl, rfl, kx, kp, kr, bel⟩ := hrel
    have Kxwr := hid kx
    have Kpwr := hid kp
    have Kr0wr := hid kr
    have HBwr := hid bel
    have hswr := bel.size
    clear kx kp kr bel
    by_cases hlt : k < n
    · skip
      have HX := hid (Dg.climb (pub := pub) (ad := treeZ la tr) (i := i) (way := way) hx k)
      have HS := hid (HN.out.get hlt)
      have hc0 : (k : Int) < n := by omega
      have HNr := HN.out.below HBwr.out
      obtain ⟨xs, xo, rfl, hxs, hcell⟩ := HNr.at_ (by omega)
      have hxw : xs < w.heap.size := by
        obtain ⟨x', o', he, hx', _⟩ := HN.out.at_ (by omega)
        injection he with he
        injection he with he
        rw [he]; exact hx'
      have Hc := hid (hcell k hlt)
      have Hst := hid (show (climbZ pub (treeZ la tr) i way dx (k + 1)) = climbS pub (treeZ la tr) i k (climbZ pub (treeZ la tr) i way dx k) (way.getD k []) from rfl)
      clear hcell HNr
      generalize way.getD k [] = s at *
      generalize hX2 : (climbZ pub (treeZ la tr) i way dx (k + 1)) = dl at *
      generalize (climbZ pub (treeZ la tr) i way dx k) = dk at *
      have hq16 : 0 ≤ i / 2 ^ k ∧ i / 2 ^ k < 16 := by
        have hp : (0 : Int) < 2 ^ k := Int.pow_pos (by omega)
        have h16 : i < 16 := by
          rcases (show n = 1 ∨ n = 2 ∨ n = 3 ∨ n = 4 by omega) with rfl | rfl | rfl | rfl <;> simp at hr2 <;> omega
        exact ⟨Int.ediv_nonneg (by omega) (by omega), Int.lt_of_le_of_lt (Int.ediv_le_self _ (by omega)) h16⟩
      have Hnext : Hid (i / 2 ^ k / 2 = i / 2 ^ (k + 1)) := hid (by
        rw [Int.ediv_ediv_of_nonneg (Int.le_of_lt (Int.pow_pos (by omega))), Int.pow_succ])
      generalize hq : i / 2 ^ k = q at *
      by_cases hodd : q % 2 = 1
      · skip
        have hq2 : ¬ q % 2 = 0 := by omega
        have hx2 : dl = joinZ s dk pub (setAd (treeZ la tr) k (q / 2) 0) := by
          rw [Hst.out]
          unfold climbS
          rw [hq, if_pos hodd]
        have HX2 := hid (show Dg dl by rw [hx2]; exact Dg.join _ _ _ _)
        have C := hid (show ∀ W : World, Calls Tryd.prog 97 #[(.agg (s.map (Value.int .u8)).toArray), (.agg (dk.map (Value.int .u8)).toArray), (.agg (pub.map (Value.int .u8)).toArray), .int .u32 la, .int .u64 tr, .int .i64 k, .int .i64 (q / 2)] W (fun e w' => e = .returned (.agg (dl.map (Value.int .u8)).toArray) ∧ Below W.heap.size W w') from fun W => by
          rw [hx2]
          exact two_any s dk pub la tr k (q / 2) W HS.out HX.out hpub hla htr (by omega) (by omega))
        clear hx2
        go_wp2_with fail
        refine wp_region_flow 12 (List.range 12) [] [] (by kernel_rfl) (by kernel_rfl) ?_
        apply Exists.intro
        refine ⟨fun w0 hb0 hF0 => ?_, ?_⟩
        · skip
          have x0 : ∀ w', (∃ x : Ext w0, w' = x.at_) → ∃ T, Blk w' (w.heap.size) (dk.map (Value.int .u8)).toArray T := fun w' ⟨x, hx⟩ => ⟨_, hx ▸ (Kxwr.out.below hb0).below x.same⟩
          have x1 : ∀ w', (∃ x : Ext w0, w' = x.at_) → ∃ T, Blk w' (w.heap.size + 1) (pub.map (Value.int .u8)).toArray T := fun w' ⟨x, hx⟩ => ⟨_, hx ▸ (Kpwr.out.below hb0).below x.same⟩
          have c0 := fun e : Ext w0 => C.out e.at_
          have y0 : ∀ w', (∃ x : Ext w0, w' = x.at_) → w'.rangeAt xs (xo + k * 32) (s.map (Value.int .u8)) := fun w' ⟨x, hx⟩ => hx ▸ rangeAt_below (rangeAt_below Hc.out hxs hb0) (Nat.lt_of_lt_of_le hxs hb0.size) x.same
          simp only [pick, List.range, List.range.loop, List.getElem?_toArray, List.getElem?_cons_succ, List.getElem?_cons_zero, Option.toList_some, List.cons_append, List.nil_append]
          repeat (first | (go_big_quiet_want; refine quiet_load_blk 23 _ rfl (w.heap.size) rfl _ x0 _ Tryd.underlying23 rfl 32 size_digest HX.out.size ?_; go_big_quiet_on; simp only [Act.put, List.setIfInBounds_toArray, List.set_cons_zero, List.set_cons_succ]) | (go_big_quiet_want; refine quiet_load_blk 23 _ rfl (w.heap.size + 1) rfl _ x1 _ Tryd.underlying23 rfl 32 size_digest hpub.size ?_; go_big_quiet_on; simp only [Act.put, List.setIfInBounds_toArray, List.set_cons_zero, List.set_cons_succ]) | (go_big_quiet_want; refine quiet_index_digs 28 _ _ rfl Tryd.underlying28 size_digest xs xo n nc rfl _ _ rfl k (by omega) (by omega) ?_; go_big_quiet_on; simp only [Act.put, List.setIfInBounds_toArray, List.set_cons_zero, List.set_cons_succ]) | (go_big_quiet_want; refine quiet_load_mid 23 _ rfl xs (xo + k * 32) rfl _ y0 _ Tryd.underlying23 rfl (by rw [List.length_map, HS.out.len]; exact size_digest) ?_; go_big_quiet_on; simp only [Act.put, List.setIfInBounds_toArray, List.set_cons_zero, List.set_cons_succ]) | go_big_quiet_step (first | (go_at_call 97; with_reducible exact Calls.ext (c0 _))))
          exact wpQuiet_nil rfl
        refine AlChk.nil ?_
        refine Walk.fin fun w21 hw21 _ _ => ?_
        simp only [List.drop_succ_cons, List.drop_zero]
        have HBw21 := hid (Below.on HBwr.out hw21)
        have hsw21 := HBw21.out.size
        have Kxw21 := hid (Kxwr.out.below hw21)
        have Kpw21 := hid (Kpwr.out.below hw21)
        have Kr0w21 := hid (Kr0wr.out.below hw21)
        clear hw21
        go_wp2_with (
            refine wpList_store_blk rfl 23 _ _ rfl (w.heap.size) (dl.map (Value.int .u8)).toArray rfl rfl _ 23 Kxw21.out 32 size_digest HX.out.size HX2.out.size (ints_one _ _) ?_
            intro w9 hb9 hk9
            have HB9 := hid (hb9.below HBw21.out HBw21.out.size (by omega))
            have HK9 := hid hk9
            have Kpw30 := hid (hb9.blk Kpw21.out (by omega))
            have Kr0w30 := hid (hb9.blk Kr0w21.out (by omega))
            clear hb9 hk9)
        exact ⟨⟨k + 1, by omega, by rw [← Hnext.out], by first | rfl | simp, by rw [hX2]; exact HK9.out, Kpw30.out, Kr0w30.out, HB9.out⟩, by simp [intOf]; omega⟩
      · skip
        have hq2 : q % 2 = 0 := by omega
        have hx2 : dl = joinZ dk s pub (setAd (treeZ la tr) k (q / 2) 0) := by
          rw [Hst.out]
          unfold climbS
          rw [hq, if_neg hodd]
        have HX2 := hid (show Dg dl by rw [hx2]; exact Dg.join _ _ _ _)
        have C := hid (show ∀ W : World, Calls Tryd.prog 97 #[(.agg (dk.map (Value.int .u8)).toArray), (.agg (s.map (Value.int .u8)).toArray), (.agg (pub.map (Value.int .u8)).toArray), .int .u32 la, .int .u64 tr, .int .i64 k, .int .i64 (q / 2)] W (fun e w' => e = .returned (.agg (dl.map (Value.int .u8)).toArray) ∧ Below W.heap.size W w') from fun W => by
          rw [hx2]
          exact two_any dk s pub la tr k (q / 2) W HX.out HS.out hpub hla htr (by omega) (by omega))
        clear hx2
        go_wp2_with fail
        refine wp_region_flow 12 (List.range 12) [] [] (by kernel_rfl) (by kernel_rfl) ?_
        apply Exists.intro
        refine ⟨fun w0 hb0 hF0 => ?_, ?_⟩
        · skip
          have x0 : ∀ w', (∃ x : Ext w0, w' = x.at_) → ∃ T, Blk w' (w.heap.size) (dk.map (Value.int .u8)).toArray T := fun w' ⟨x, hx⟩ => ⟨_, hx ▸ (Kxwr.out.below hb0).below x.same⟩
          have x1 : ∀ w', (∃ x : Ext w0, w' = x.at_) → ∃ T, Blk w' (w.heap.size + 1) (pub.map (Value.int .u8)).toArray T := fun w' ⟨x, hx⟩ => ⟨_, hx ▸ (Kpwr.out.below hb0).below x.same⟩
          have c0 := fun e : Ext w0 => C.out e.at_
          have y0 : ∀ w', (∃ x : Ext w0, w' = x.at_) → w'.rangeAt xs (xo + k * 32) (s.map (Value.int .u8)) := fun w' ⟨x, hx⟩ => hx ▸ rangeAt_below (rangeAt_below Hc.out hxs hb0) (Nat.lt_of_lt_of_le hxs hb0.size) x.same
          simp only [pick, List.range, List.range.loop, List.getElem?_toArray, List.getElem?_cons_succ, List.getElem?_cons_zero, Option.toList_some, List.cons_append, List.nil_append]
          repeat (first | (go_big_quiet_want; refine quiet_load_blk 23 _ rfl (w.heap.size) rfl _ x0 _ Tryd.underlying23 rfl 32 size_digest HX.out.size ?_; go_big_quiet_on; simp only [Act.put, List.setIfInBounds_toArray, List.set_cons_zero, List.set_cons_succ]) | (go_big_quiet_want; refine quiet_load_blk 23 _ rfl (w.heap.size + 1) rfl _ x1 _ Tryd.underlying23 rfl 32 size_digest hpub.size ?_; go_big_quiet_on; simp only [Act.put, List.setIfInBounds_toArray, List.set_cons_zero, List.set_cons_succ]) | (go_big_quiet_want; refine quiet_index_digs 28 _ _ rfl Tryd.underlying28 size_digest xs xo n nc rfl _ _ rfl k (by omega) (by omega) ?_; go_big_quiet_on; simp only [Act.put, List.setIfInBounds_toArray, List.set_cons_zero, List.set_cons_succ]) | (go_big_quiet_want; refine quiet_load_mid 23 _ rfl xs (xo + k * 32) rfl _ y0 _ Tryd.underlying23 rfl (by rw [List.length_map, HS.out.len]; exact size_digest) ?_; go_big_quiet_on; simp only [Act.put, List.setIfInBounds_toArray, List.set_cons_zero, List.set_cons_succ]) | go_big_quiet_step (first | (go_at_call 97; with_reducible exact Calls.ext (c0 _))))
          exact wpQuiet_nil rfl
        refine AlChk.nil ?_
        refine Walk.fin fun w21 hw21 _ _ => ?_
        simp only [List.drop_succ_cons, List.drop_zero]
        have HBw21 := hid (Below.on HBwr.out hw21)
        have hsw21 := HBw21.out.size
        have Kxw21 := hid (Kxwr.out.below hw21)
        have Kpw21 := hid (Kpwr.out.below hw21)
        have Kr0w21 := hid (Kr0wr.out.below hw21)
        clear hw21
        go_wp2_with (
            refine wpList_store_blk rfl 23 _ _ rfl (w.heap.size) (dl.map (Value.int .u8)).toArray rfl rfl _ 23 Kxw21.out 32 size_digest HX.out.size HX2.out.size (ints_one _ _) ?_
            intro w9 hb9 hk9
            have HB9 := hid (hb9.below HBw21.out HBw21.out.size (by omega))
            have HK9 := hid hk9
            have Kpw30 := hid (hb9.blk Kpw21.out (by omega))
            have Kr0w30 := hid (hb9.blk Kr0w21.out (by omega))
            clear hb9 hk9)
        exact ⟨⟨k + 1, by omega, by rw [← Hnext.out], by first | rfl | simp, by rw [hX2]; exact HK9.out, Kpw30.out, Kr0w30.out, HB9.out⟩, by simp [intOf]; omega⟩
    · skip
      have hkn : k = n := by omega
      subst hkn
      have HX := hid (Dg.climb (pub := pub) (ad := treeZ la tr) (i := i) (way := way) hx k)
      generalize hX1 : (climbZ pub (treeZ la tr) i way dx k) = dk at *
      go_wp2_with (first
         | (refine wpList_load_blk rfl 23 _ rfl (w.heap.size) rfl _ 23 Kxwr.out _ Tryd.underlying23 rfl 32 size_digest HX.out.size ?_)
         | (
          refine wpList_store_blk rfl 23 _ _ rfl (w.heap.size + 1 + 1) (dk.map (Value.int .u8)).toArray rfl rfl _ 23 Kr0wr.out 32 size_digest HzA.out HX.out.size (ints_one _ _) ?_
          intro w9 hb9 hk9
          have HB9 := hid (hb9.below HBwr.out HBwr.out.size (by omega))
          have HK9 := hid hk9
          clear hb9 hk9))
      exact bodyPost_ret (v := (.agg (dk.map (Value.int .u8)).toArray)) (results_blk Tryd.results40 _ (w.heap.size + 1 + 1) rfl _ 23 HK9.out _ Tryd.underlying23 rfl 32 size_digest HX.out.size) rfl ⟨by rw [hX1], HB9.out⟩
end Go.Proofs.YtjkfbeillmeomaaDoor
