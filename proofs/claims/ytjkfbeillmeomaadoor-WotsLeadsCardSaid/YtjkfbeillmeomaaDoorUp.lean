/-
  Layer 9: an L-tree, as the reference computes it.
-/
import Derived.Test.YtjkfbeillmeomaaDoorComp
import Derived.Test.YtjkfbeillmeomaaDoorBuildD
namespace Go.Proofs.YtjkfbeillmeomaaDoor
open Go.ChangeShapes Go.WideShapes Go.ChangeAt Go.RowKit

namespace FlowB
theorem ButIn.of_grown {w w' : World} {v : Value} (h : w.grownBy w' v.ownBlock) : ButIn v.ownBlock.toList w w' :=
  ⟨h.os, h.tape, h.output, h.size, fun k hk hc => h.block k hk (fun e => hc (by rw [← e]; simp))⟩
theorem st_butIn {S : List Nat} {w : World} (obj : Obj) (hS : ∀ g ∈ S, g < w.heap.size) : St (ButIn S) w obj := fun w1 w2 b _ h2 hb h => by
  rw [h2.block b (Array.getElem?_eq_some_iff.1 h).1 (fun e => by have := hS b e; omega)]
  exact h
theorem ButIn.range {S : List Nat} {w w' : World} {b o : Nat} {cs : List Value} (h : ButIn S w w') (hx : b < w.heap.size) (hb : b ∉ S) (k : w.rangeAt b o cs) : w'.rangeAt b o cs := fun i v hv => by
  rw [← k i v hv]
  unfold World.cell?
  rw [h.block b hx hb]
end FlowB
theorem own_low {w : World} {B b : Nat} {e : TypeId} {v : Value} {ds : List (List Int)} (h : OwnD w B e v ds) (hb : b < B) : b ∉ v.ownBlock.toList := fun hm => by
  have := (h.lt b (by simpa using hm)).1
  omega
theorem own_size {w : World} {B : Nat} {e : TypeId} {v : Value} {ds : List (List Int)} (h : OwnD w B e v ds) : ∀ g ∈ v.ownBlock.toList, g < w.heap.size := fun g hm => (h.lt g (by simpa using hm)).2
theorem own_from {w : World} {B : Nat} {e : TypeId} {v : Value} {ds : List (List Int)} (h : OwnD w B e v ds) : ∀ g ∈ v.ownBlock.toList, B ≤ g := fun g hm => (h.lt g (by simpa using hm)).1

set_option maxHeartbeats 4000000 in
set_option maxRecDepth 100000 in
theorem up_more (pub ad : List Int) (hpub : Dg pub) (had : Aw ad) (f lev : Nat) (ds : List (List Int)) (a : Option Addr) (n c : Nat) (w : World) (hN : DigsAt w a n c ds) (hn : 2 ≤ n) (hf : n ≤ f + 1) (hl : lev + f ≤ 100)
    (ih : ∀ (ds : List (List Int)) (a : Option Addr) (n c : Nat) (w : World), DigsAt w a n c ds → 1 ≤ n → n ≤ f → Calls Tryd.prog 86 #[.slice a n c, .int .u32 ((lev + 1 : Nat) : Int), (.agg (pub.map (Value.int .u8)).toArray), (.agg (ad.map (Value.int .u32)).toArray)] w fun e w' => e = .returned (.agg ((compZ pub ad f (lev + 1) ds).map (Value.int .u8)).toArray) ∧ Below w.heap.size w w') :
    Calls Tryd.prog 86 #[.slice a n c, .int .u32 lev, (.agg (pub.map (Value.int .u8)).toArray), (.agg (ad.map (Value.int .u32)).toArray)] w fun e w' => e = .returned (.agg ((compZ pub ad (f + 1) lev ds).map (Value.int .u8)).toArray) ∧ Below w.heap.size w w' := by
  have HN := hid hN
  have hle := hN.le
  have hmx := hN.max
  have Hnl := hid hN.length
  have Hih := hid ih
  have hq1 : ¬ ((n : Int) = 1) := by omega
  have hq1b : ((n : Int) == 1) = false := by simpa using hq1
  have HDr := hid (compZ_dg pub ad (f + 1) lev ds hN.each (by rw [hN.length]; omega) (by rw [hN.length]; omega))
  clear hN ih
  have b1 := (Below.refl w.heap.size w).alloc (Nat.le_refl _) (.cells (pub.map (Value.int .u8)).toArray 23 (0, 0))
  have b2 := b1.alloc b1.size (.cells (ad.map (Value.int .u32)).toArray 26 (0, 0))
  have b3 := b2.alloc b2.size (.cells (byteCells 32 []) 23 (0, 0))
  have Kp := hid (((Blk.new (w := w) (n := w.heap.size) rfl (pub.map (Value.int .u8)).toArray 23).old (.cells (ad.map (Value.int .u32)).toArray 26 (0, 0))).old (.cells (byteCells 32 []) 23 (0, 0)))
  have Kad := hid ((Blk.new (w := (w.alloc (.cells (pub.map (Value.int .u8)).toArray 23 (0, 0)))) (n := w.heap.size + 1) (by simp only [World.size_alloc]) (ad.map (Value.int .u32)).toArray 26).old (.cells (byteCells 32 []) 23 (0, 0)))
  have Kr0 := hid (Blk.new (w := ((w.alloc (.cells (pub.map (Value.int .u8)).toArray 23 (0, 0))).alloc (.cells (ad.map (Value.int .u32)).toArray 26 (0, 0)))) (n := w.heap.size + 1 + 1) (by simp only [World.size_alloc]) (byteCells 32 []) 23)
  have Hb := hid b3
  have HzA := hid zsize
  have hbz := b3.size
  have Hbs := hid (show w.heap.size + 1 + 1 + 1 = (((w.alloc (.cells (pub.map (Value.int .u8)).toArray 23 (0, 0))).alloc (.cells (ad.map (Value.int .u32)).toArray 26 (0, 0))).alloc (.cells (byteCells 32 []) 23 (0, 0))).heap.size by simp only [World.size_alloc])
  clear b1 b2 b3
  have hs0 := Hb.out.size
  go_enter Tryd.func86, Tryd.ntmps86
  go_wp2_with fail
  have HO0 := hid (OwnD.nil (((w.alloc (.cells (pub.map (Value.int .u8)).toArray 23 (0, 0))).alloc (.cells (ad.map (Value.int .u32)).toArray 26 (0, 0))).alloc (.cells (byteCells 32 []) 23 (0, 0))) (w.heap.size + 1 + 1 + 1) 23)
  go_loopw [9, 10] (fun v iv wr => ∃ k : Nat, k ≤ n / 2 ∧ iv = .int .i64 (2 * (k : Int)) ∧ OwnD wr (w.heap.size + 1 + 1 + 1) 23 v ((List.range k).map fun (i : Nat) => joinZ (ds.getD (2 * i) []) (ds.getD (2 * i + 1) []) pub (setAd ad lev i 0)) ∧ Blk wr (w.heap.size) (pub.map (Value.int .u8)).toArray 23 ∧ Blk wr (w.heap.size + 1) (ad.map (Value.int .u32)).toArray 26 ∧ Blk wr (w.heap.size + 1 + 1) (byteCells 32 []) 23 ∧ Below w.heap.size w wr ∧ (w.heap.size + 1 + 1 + 1) ≤ wr.heap.size) (fun _ iv _ => n - (intOf iv).toNat)
  case atStart => exact ⟨0, Nat.zero_le _, rfl, HO0.out, Kp.out, Kad.out, Kr0.out, Hb.out, by rw [Hbs.out]; exact Nat.le_refl _⟩
  case round =>
    clear HO0 Kp Kad Kr0 Hb
    obtain ⟨k, hk, rfl, ho, kp, ka, kr, bel, hsz⟩ := hrel
    have HO := hid ho
    have Kp := hid kp
    have Ka := hid ka
    have Kr := hid kr
    have HB := hid bel
    clear ho kp ka kr bel
    by_cases hlt : k < n / 2
    · have hc0 : (2 * (k : Int)) + 1 < n := by omega
      have HDk := hid (HN.out.get (j := 2 * k) (by omega))
      have HDl := hid (HN.out.get (j := 2 * k + 1) (by omega))
      have HNr := HN.out.below HB.out
      obtain ⟨xs, xo, rfl, hxs, hcell⟩ := HNr.at_ (by omega)
      have hxw : xs < w.heap.size := by
        obtain ⟨x', o', he, hx', _⟩ := HN.out.at_ (by omega)
        injection he with he
        injection he with he
        rw [he]; exact hx'
      have Hck := hid (hcell (2 * k) (by omega))
      have Hcl := hid (hcell (2 * k + 1) (by omega))
      have HAt := hid (had.set (f := lev) (s := k) (p := 0) (by omega) (by omega) (by omega))
      have HJ := hid (Dg.join (ds.getD (2 * k) []) (ds.getD (2 * k + 1) []) pub (setAd ad lev k 0))
      have HL : Hid (((List.range (k + 1)).map fun (i : Nat) => joinZ (ds.getD (2 * i) []) (ds.getD (2 * i + 1) []) pub (setAd ad lev i 0)) = ((List.range k).map fun (i : Nat) => joinZ (ds.getD (2 * i) []) (ds.getD (2 * i + 1) []) pub (setAd ad lev i 0)) ++ [joinZ (ds.getD (2 * k) []) (ds.getD (2 * k + 1) []) pub (setAd ad lev k 0)]) := hid (by rw [List.range_succ, List.map_append]; rfl)
      have HLl := hid (show (((List.range k).map fun (i : Nat) => joinZ (ds.getD (2 * i) []) (ds.getD (2 * i + 1) []) pub (setAd ad lev i 0))).length = k by simp)
      obtain ⟨i0, hi, hz0, hz1, hz2⟩ := info_parts info_dig
      clear hcell HNr
      generalize hX : ds.getD (2 * k) [] = X at *
      generalize hY : ds.getD (2 * k + 1) [] = Y at *
      generalize hJ : joinZ X Y pub (setAd ad lev k 0) = J at *
      generalize hL : ((List.range k).map fun (i : Nat) => joinZ (ds.getD (2 * i) []) (ds.getD (2 * i + 1) []) pub (setAd ad lev i 0)) = L at *
      go_wp2_with fail
      refine FlowB.wp_region_butIn (u9.ownBlock.toList) (fun wz => OwnD wz (w.heap.size + 1 + 1 + 1) 23 u9 L) 20 (List.range 18) [18] [(.b 18, [], []), (.c 19, [], [])] (by kernel_rfl) (by kernel_rfl) HO.out (fun _ _ h hb => h.below hb) ?_
      apply Exists.intro
      refine ⟨fun w0 hb0 hF0 => ?_, ?_⟩
      · skip
        have x0 : ∀ w', (∃ x : Ext w0, w' = x.at_) → ∃ T, Blk w' (w.heap.size) (pub.map (Value.int .u8)).toArray T := fun w' ⟨x, hx⟩ => ⟨_, hx ▸ (hb0.blk Kp.out (own_low HO.out (by omega))).below x.same⟩
        have x1 : ∀ w', (∃ x : Ext w0, w' = x.at_) → ∃ T, Blk w' (w.heap.size + 1) (ad.map (Value.int .u32)).toArray T := fun w' ⟨x, hx⟩ => ⟨_, hx ▸ (hb0.blk Ka.out (own_low HO.out (by omega))).below x.same⟩
        have x2 : ∀ w', (∃ x : Ext w0, w' = x.at_) → w'.rangeAt xs (xo + 2 * k * 32) (X.map (Value.int .u8)) := fun w' ⟨x, hx⟩ => hx ▸ rangeAt_below (hb0.range hxs (own_low HO.out (by omega)) Hck.out) (Nat.lt_of_lt_of_le hxs hb0.size) x.same
        have x3 : ∀ w', (∃ x : Ext w0, w' = x.at_) → w'.rangeAt xs (xo + (2 * k + 1) * 32) (Y.map (Value.int .u8)) := fun w' ⟨x, hx⟩ => hx ▸ rangeAt_below (hb0.range hxs (own_low HO.out (by omega)) Hcl.out) (Nat.lt_of_lt_of_le hxs hb0.size) x.same
        have c0 := fun e : Ext w0 => refat_list ad lev k 0 e.at_ had
        have c1 := fun e : Ext w0 => refjoin_any X Y pub (setAd ad lev k 0) e.at_ HDk.out HDl.out hpub HAt.out
        rw [hJ] at c1
        simp only [pick, List.range, List.range.loop, List.getElem?_toArray, List.getElem?_cons_succ, List.getElem?_cons_zero, Option.toList_some, List.cons_append, List.nil_append]
        repeat (first | (go_big_quiet_want; refine quiet_load_blk 23 _ rfl (w.heap.size) rfl _ x0 _ Tryd.underlying23 rfl 32 size_digest hpub.size ?_; go_big_quiet_on; simp only [Act.put, List.setIfInBounds_toArray, List.set_cons_zero, List.set_cons_succ]) | (go_big_quiet_want; refine quiet_load_blk 26 _ rfl (w.heap.size + 1) rfl _ x1 _ Tryd.underlying26 rfl 8 sizeAdrs had.size ?_; go_big_quiet_on; simp only [Act.put, List.setIfInBounds_toArray, List.set_cons_zero, List.set_cons_succ]) | (go_big_quiet_want; refine quiet_index_digs 28 _ _ rfl Tryd.underlying28 size_digest xs xo n c rfl _ _ rfl (2 * k) (by omega) (by omega) ?_; go_big_quiet_on; simp only [Act.put, List.setIfInBounds_toArray, List.set_cons_zero, List.set_cons_succ]) | (go_big_quiet_want; refine quiet_index_digs 28 _ _ rfl Tryd.underlying28 size_digest xs xo n c rfl _ _ rfl (2 * k + 1) (by omega) (by omega) ?_; go_big_quiet_on; simp only [Act.put, List.setIfInBounds_toArray, List.set_cons_zero, List.set_cons_succ]) | (go_big_quiet_want; refine quiet_load_mid 23 _ rfl xs (xo + 2 * k * 32) rfl _ x2 _ Tryd.underlying23 rfl (by rw [List.length_map, HDk.out.len]; exact size_digest) ?_; go_big_quiet_on; simp only [Act.put, List.setIfInBounds_toArray, List.set_cons_zero, List.set_cons_succ]) | (go_big_quiet_want; refine quiet_load_mid 23 _ rfl xs (xo + (2 * k + 1) * 32) rfl _ x3 _ Tryd.underlying23 rfl (by rw [List.length_map, HDl.out.len]; exact size_digest) ?_; go_big_quiet_on; simp only [Act.put, List.setIfInBounds_toArray, List.set_cons_zero, List.set_cons_succ]) | go_big_quiet_step (first | (go_at_call 71; with_reducible exact Calls.ext (c0 _)) | (go_at_call 30; with_reducible exact Calls.ext (c1 _))))
        exact wpQuiet_nil rfl
      refine FlowB.AlChk.one rfl (fun b => .slice (some ⟨b, 0, none⟩) 1 1) (.cells (J.map (Value.int .u8)).toArray 23 (0, 0)) rfl (FlowB.st_butIn _ (own_size HO.out)) (fun w2 hb2 hF2 => exec_build_one rfl rfl HJ.out) ?_
      refine FlowB.AlChk.nil ?_
      refine FlowB.Walk.blk rfl (fun b => .slice (some ⟨b, 0, none⟩) 1 1) (.cells (J.map (Value.int .u8)).toArray 23 (0, 0)) (by simp) ?_
      intro b9 w2 hb2 hF2 hge9 _
      apply Exists.intro
      refine ⟨fun w2 hb2 hF2 => wpQuiet_nil rfl, ?_⟩
      refine FlowB.AlChk.nil ?_
      refine FlowB.Walk.does rfl (fun _ _ => True) (fun v w' => OwnD w' (w.heap.size + 1 + 1 + 1) 23 v (L ++ [J])) (fun v w' w'' _ h _ => h) (fun v w' w'' h k => h.below k) rfl (fun w2 hb2 hF2 hG2 => ?_) ?_
      · have k9 : Blk w2 b9 (J.map (Value.int .u8)).toArray 23 := hF2.2
        obtain ⟨v', w', hr, q2, q3, q4⟩ := run_append_dig (P := Tryd.prog) _ Tryd.underlying28 hi hz0 zD_cells32 hz1 hz2 hG2 k9 HJ.out (by rw [HLl.out]; omega) (Nat.le_trans hsz hb2.size)
        exact ⟨v', w', FlowB.exec_append rfl rfl rfl hr, FlowB.ButIn.of_grown q3, trivial, q2⟩
      rintro v3 w3 hb3 hF3 _
      apply Exists.intro
      refine ⟨fun w2 hb2 hF2 => wpQuiet_nil rfl, ?_⟩
      refine FlowB.AlChk.nil ?_
      refine FlowB.Walk.fin fun w4 h4 _ hG4 => ?_
      simp only [List.drop_succ_cons, List.drop_zero]
      have HG4 := hid hG4
      rw [← HL.out] at HG4
      have H4 := hid (And.intro (h4.blk Kp.out (own_low HO.out (by omega))) (And.intro (h4.blk Ka.out (own_low HO.out (by omega))) (And.intro (h4.blk Kr.out (own_low HO.out (by omega))) (And.intro (h4.below HB.out HB.out.size (fun b hb => by have := own_from HO.out b hb; omega)) (Nat.le_trans hsz h4.size)))))
      clear h4 hG4
      go_wp2_with fail
      refine ⟨⟨k + 1, by omega, ?_, HG4.out, H4.out.1, H4.out.2.1, H4.out.2.2.1, H4.out.2.2.2.1, H4.out.2.2.2.2⟩, by simp [intOf]; omega⟩
      rw [show (2 * (k : Int) + 2) = 2 * ((k + 1 : Nat) : Int) by omega]
    · have hkn : k = n / 2 := by omega
      subst hkn
      have hc0 : ¬ ((2 * ((n / 2 : Nat) : Int)) + 1 < n) := by omega
      have HLl := hid (show (((List.range (n / 2)).map fun (i : Nat) => joinZ (ds.getD (2 * i) []) (ds.getD (2 * i + 1) []) pub (setAd ad lev i 0))).length = n / 2 by simp)
      have HMore := hid (compZ_more pub ad f lev (ds := ds) (by rw [Hnl.out]; omega))
      have HE := hid HN.out.each
      have hal := aboveZ_length pub ad lev ds
      rw [Hnl.out] at hal
      have Hal := hid hal
      clear hal
      by_cases hodd : n % 2 = 1
      · have hoi : (n : Int) % 2 = 1 := by omega
        have HAb : Hid (aboveZ pub ad lev ds = ((List.range (n / 2)).map fun (i : Nat) => joinZ (ds.getD (2 * i) []) (ds.getD (2 * i + 1) []) pub (setAd ad lev i 0)) ++ [ds.getD (n - 1) []]) := hid (by
          unfold aboveZ
          rw [Hnl.out, hodd, List.drop_eq_getElem_cons (by rw [Hnl.out]; omega), List.drop_eq_nil_of_le (by rw [Hnl.out]; omega)]
          simp [List.getD_eq_getElem?_getD, show n - 1 < ds.length by rw [Hnl.out]; omega])
        have HX := hid (HN.out.get (j := n - 1) (by omega))
        have HNr := HN.out.below HB.out
        obtain ⟨xs, xo, rfl, hxs, hcell⟩ := HNr.at_ (by omega)
        have Hc := hid (hcell (n - 1) (by omega))
        obtain ⟨i0, hi, hz0, hz1, hz2⟩ := info_parts info_dig
        clear hcell HNr
        generalize hX : ds.getD (n - 1) [] = X at *
        generalize hL : ((List.range (n / 2)).map fun (i : Nat) => joinZ (ds.getD (2 * i) []) (ds.getD (2 * i + 1) []) pub (setAd ad lev i 0)) = L at *
        have HO1 := hid (HO.out.below ((Below.refl wr.heap.size wr).alloc (Nat.le_refl _) (.cells (X.map (Value.int .u8)).toArray 23 (0, 0))))
        have HK1 := hid (Blk.new (w := wr) rfl (X.map (Value.int .u8)).toArray 23)
        have HBa := hid (HB.out.alloc HB.out.size (.cells (X.map (Value.int .u8)).toArray 23 (0, 0)))
        have Kpa := hid (Kp.out.old (.cells (X.map (Value.int .u8)).toArray 23 (0, 0)))
        have Kaa := hid (Ka.out.old (.cells (X.map (Value.int .u8)).toArray 23 (0, 0)))
        have Kra := hid (Kr.out.old (.cells (X.map (Value.int .u8)).toArray 23 (0, 0)))
        go_wp2_with (first
         | (refine wpList_index_digs rfl 28 _ _ rfl Tryd.underlying28 size_digest xs xo n c rfl _ _ rfl (n - 1) (by omega) (by omega) ?_)
         | (refine wpList_load_mid rfl 23 _ rfl xs (xo + (n - 1) * 32) rfl _ _ Hc.out Tryd.underlying23 rfl (by rw [List.length_map, HX.out.len]; exact size_digest) ?_)
         | (refine wpList_build_one rfl _ rfl rfl HX.out ?_)
         | (
          at_builtin
          refine wpList_append_dig rfl _ _ rfl Tryd.underlying28 hi hz0 zD_cells32 hz1 hz2 rfl HO1.out rfl HK1.out HX.out (by rw [HLl.out]; omega) (by rw [World.size_alloc]; omega) ?_
          intro v5 w5 own5 hg5 b5
          have Ho5 := hid own5
          have HB5 := hid (HBa.out.trans (b5.mono (by omega)))
          have Kp5 := hid (Kpa.out.belowB (by omega) b5)
          have Ka5 := hid (Kaa.out.belowB (by omega) b5)
          have Kr5 := hid (Kra.out.belowB (by omega) b5)
          clear own5 hg5 b5)
         | (refine wpList_load_blk rfl 23 _ rfl (w.heap.size) rfl _ 23 Kp5.out _ Tryd.underlying23 rfl 32 size_digest hpub.size ?_)
         | (refine wpList_load_blk rfl 26 _ rfl (w.heap.size + 1) rfl _ 26 Ka5.out _ Tryd.underlying26 rfl 8 sizeAdrs had.size ?_))
        rw [← HAb.out] at Ho5
        obtain ⟨a5, c5, hv5, hD5, _⟩ := Ho5.out.digs
        rw [Hal.out] at hv5 hD5
        subst hv5
        have hC := Hih.out (aboveZ pub ad lev ds) a5 ((n + 1) / 2) c5 w5 hD5 (by omega) (by omega)
        rw [← HMore.out] at hC
        have HC := hid hC
        clear hC hD5
        refine HC.out.mono ?_
        rintro e w6 ⟨rfl, b6⟩
        have HB6 := hid (Below.on HB5.out b6)
        have Kr6 := hid (Kr5.out.below b6)
        clear b6
        generalize hR : compZ pub ad (f + 1) lev ds = R at *
        go_wp2_with (refine wpList_store_blk rfl 23 _ _ rfl (w.heap.size + 1 + 1) _ rfl rfl _ 23 Kr6.out 32 size_digest HzA.out HDr.out.size (ints_one _ _) ?_; intro w7 hbut7 hk7)
        exact bodyPost_ret (v := (.agg (R.map (Value.int .u8)).toArray)) (results_blk Tryd.results86 _ (w.heap.size + 1 + 1) rfl _ 23 hk7 _ Tryd.underlying23 rfl 32 size_digest HDr.out.size) rfl ⟨by rw [hR], hbut7.below HB6.out HB6.out.size (by omega)⟩
      · have hoi : ¬ ((n : Int) % 2 = 1) := by omega
        have HAb : Hid (aboveZ pub ad lev ds = ((List.range (n / 2)).map fun (i : Nat) => joinZ (ds.getD (2 * i) []) (ds.getD (2 * i + 1) []) pub (setAd ad lev i 0))) := hid (by
          unfold aboveZ
          rw [Hnl.out, show n % 2 = 0 by omega, List.drop_eq_nil_of_le (by rw [Hnl.out]; omega), List.append_nil])
        rw [← HAb.out] at HO
        obtain ⟨a5, c5, hv5, hD5, _⟩ := HO.out.digs
        rw [Hal.out] at hv5 hD5
        subst hv5
        have hC := Hih.out (aboveZ pub ad lev ds) a5 ((n + 1) / 2) c5 wr hD5 (by omega) (by omega)
        rw [← HMore.out] at hC
        have HC := hid hC
        clear hC hD5
        go_wp2_with (first | (refine wpList_load_blk rfl 23 _ rfl (w.heap.size) rfl _ 23 Kp.out _ Tryd.underlying23 rfl 32 size_digest hpub.size ?_) | (refine wpList_load_blk rfl 26 _ rfl (w.heap.size + 1) rfl _ 26 Ka.out _ Tryd.underlying26 rfl 8 sizeAdrs had.size ?_))
        refine HC.out.mono ?_
        rintro e w6 ⟨rfl, b6⟩
        have HB6 := hid (Below.on HB.out b6)
        have Kr6 := hid (Kr.out.below b6)
        clear b6
        generalize hR : compZ pub ad (f + 1) lev ds = R at *
        go_wp2_with (refine wpList_store_blk rfl 23 _ _ rfl (w.heap.size + 1 + 1) _ rfl rfl _ 23 Kr6.out 32 size_digest HzA.out HDr.out.size (ints_one _ _) ?_; intro w7 hbut7 hk7)
        exact bodyPost_ret (v := (.agg (R.map (Value.int .u8)).toArray)) (results_blk Tryd.results86 _ (w.heap.size + 1 + 1) rfl _ 23 hk7 _ Tryd.underlying23 rfl 32 size_digest HDr.out.size) rfl ⟨by rw [hR], hbut7.below HB6.out HB6.out.size (by omega)⟩

set_option maxHeartbeats 4000000 in
set_option maxRecDepth 100000 in
theorem up_one (pub ad : List Int) (f lev : Nat) (ds : List (List Int)) (a : Option Addr) (c : Nat) (w : World) (hN : DigsAt w a 1 c ds) :
    Calls Tryd.prog 86 #[.slice a 1 c, .int .u32 lev, (.agg (pub.map (Value.int .u8)).toArray), (.agg (ad.map (Value.int .u32)).toArray)] w fun e w' => e = .returned (.agg ((compZ pub ad f lev ds).map (Value.int .u8)).toArray) ∧ Below w.heap.size w w' := by
  have hone := compZ_one pub ad f lev (ds := ds) (by rw [hN.length]; exact Nat.le_refl _)
  rw [hone]
  have HX := hid (hN.get (j := 0) (by omega))
  have HN := hid hN
  clear hN hone
  have b1 := (Below.refl w.heap.size w).alloc (Nat.le_refl _) (.cells (pub.map (Value.int .u8)).toArray 23 (0, 0))
  have b2 := b1.alloc b1.size (.cells (ad.map (Value.int .u32)).toArray 26 (0, 0))
  have b3 := b2.alloc b2.size (.cells (byteCells 32 []) 23 (0, 0))
  have Kp := hid (((Blk.new (w := w) (n := w.heap.size) rfl (pub.map (Value.int .u8)).toArray 23).old (.cells (ad.map (Value.int .u32)).toArray 26 (0, 0))).old (.cells (byteCells 32 []) 23 (0, 0)))
  have Kad := hid ((Blk.new (w := (w.alloc (.cells (pub.map (Value.int .u8)).toArray 23 (0, 0)))) (n := w.heap.size + 1) (by simp only [World.size_alloc]) (ad.map (Value.int .u32)).toArray 26).old (.cells (byteCells 32 []) 23 (0, 0)))
  have Kr0 := hid (Blk.new (w := ((w.alloc (.cells (pub.map (Value.int .u8)).toArray 23 (0, 0))).alloc (.cells (ad.map (Value.int .u32)).toArray 26 (0, 0)))) (n := w.heap.size + 1 + 1) (by simp only [World.size_alloc]) (byteCells 32 []) 23)
  have Hb := hid b3
  have HzA := hid zsize
  have hbz := b3.size
  have Hbs := hid (show w.heap.size + 1 + 1 + 1 = (((w.alloc (.cells (pub.map (Value.int .u8)).toArray 23 (0, 0))).alloc (.cells (ad.map (Value.int .u32)).toArray 26 (0, 0))).alloc (.cells (byteCells 32 []) 23 (0, 0))).heap.size by simp only [World.size_alloc])
  clear b1 b2 b3
  have HN1 := HN.out.below Hb.out
  obtain ⟨xs, xo, rfl, hxs, hcell⟩ := HN1.at_ (by omega)
  have Hc := hid (hcell 0 (by omega))
  clear HN1 hcell
  generalize ds.getD 0 [] = X at *
  go_enter Tryd.func86, Tryd.ntmps86
  go_wp2_with (first
   | (refine wpList_index_digs rfl 28 _ _ rfl Tryd.underlying28 size_digest xs xo 1 c rfl _ _ rfl 0 rfl (by omega) ?_)
   | (refine wpList_load_mid rfl 23 _ rfl xs (xo + 0 * 32) rfl _ _ Hc.out Tryd.underlying23 rfl (by rw [List.length_map, HX.out.len]; exact size_digest) ?_)
   | (refine wpList_store_blk rfl 23 _ _ rfl (w.heap.size + 1 + 1) _ rfl rfl _ 23 Kr0.out 32 size_digest HzA.out HX.out.size (ints_one _ _) ?_; intro w7 hbut7 hk7))
  exact bodyPost_ret (v := (.agg (X.map (Value.int .u8)).toArray)) (results_blk Tryd.results86 _ (w.heap.size + 1 + 1) rfl _ 23 hk7 _ Tryd.underlying23 rfl 32 size_digest HX.out.size) rfl ⟨rfl, hbut7.below Hb.out Hb.out.size (by omega)⟩

theorem up_any (pub ad : List Int) (hpub : Dg pub) (had : Aw ad) : ∀ (f lev : Nat) (ds : List (List Int)) (a : Option Addr) (n c : Nat) (w : World), DigsAt w a n c ds → 1 ≤ n → n ≤ f → lev + f ≤ 100 →
    Calls Tryd.prog 86 #[.slice a n c, .int .u32 lev, (.agg (pub.map (Value.int .u8)).toArray), (.agg (ad.map (Value.int .u32)).toArray)] w fun e w' => e = .returned (.agg ((compZ pub ad f lev ds).map (Value.int .u8)).toArray) ∧ Below w.heap.size w w'
  | 0, _, _, _, _, _, _, _, h1, h2, _ => by omega
  | f + 1, lev, ds, a, n, c, w, hN, h1, h2, h3 => by
    by_cases hn : 2 ≤ n
    · exact up_more pub ad hpub had f lev ds a n c w hN hn h2 (by omega) (fun ds a n c w hN h1 h2 => up_any pub ad hpub had f (lev + 1) ds a n c w hN h1 h2 (by omega))
    · obtain rfl : n = 1 := by omega
      exact up_one pub ad (f + 1) lev ds a c w hN

set_option maxHeartbeats 4000000 in
set_option maxRecDepth 100000 in
theorem refcompress_any (na : Option Addr) (n nc : Nat) (ds : List (List Int)) (pub ad : List Int) (w : World) (hN : DigsAt w na n nc ds) (hn : 1 ≤ n ∧ n ≤ 67) (hpub : Dg pub) (had : Aw ad) :
    Calls Tryd.prog 31 #[.slice na n nc, (.agg (pub.map (Value.int .u8)).toArray), (.agg (ad.map (Value.int .u32)).toArray)] w fun e w' => e = .returned (.agg ((compZ pub ad n 0 ds).map (Value.int .u8)).toArray) ∧ Below w.heap.size w w' := by
  have HD := hid (compZ_dg pub ad n 0 ds hN.each (by rw [hN.length]; omega) (by rw [hN.length]; exact Nat.le_refl _))
  have HN := hid hN
  have C := hid (fun (W : World) (h : DigsAt W na n nc ds) => up_any pub ad hpub had n 0 ds na n nc W h hn.1 (Nat.le_refl _) (by omega))
  clear hN
  generalize compZ pub ad n 0 ds = R at *
  have b1 := (Below.refl w.heap.size w).alloc (Nat.le_refl _) (.cells (pub.map (Value.int .u8)).toArray 23 (0, 0))
  have b2 := b1.alloc b1.size (.cells (ad.map (Value.int .u32)).toArray 26 (0, 0))
  have b3 := b2.alloc b2.size (.cells (byteCells 32 []) 23 (0, 0))
  have Kp := hid (((Blk.new (w := w) (n := w.heap.size) rfl (pub.map (Value.int .u8)).toArray 23).old (.cells (ad.map (Value.int .u32)).toArray 26 (0, 0))).old (.cells (byteCells 32 []) 23 (0, 0)))
  have Kad := hid ((Blk.new (w := (w.alloc (.cells (pub.map (Value.int .u8)).toArray 23 (0, 0)))) (n := w.heap.size + 1) (by simp only [World.size_alloc]) (ad.map (Value.int .u32)).toArray 26).old (.cells (byteCells 32 []) 23 (0, 0)))
  have Kr0 := hid (Blk.new (w := ((w.alloc (.cells (pub.map (Value.int .u8)).toArray 23 (0, 0))).alloc (.cells (ad.map (Value.int .u32)).toArray 26 (0, 0)))) (n := w.heap.size + 1 + 1) (by simp only [World.size_alloc]) (byteCells 32 []) 23)
  have Hb := hid b3
  have HzA := hid zsize
  have hbz := b3.size
  have Hbs := hid (show w.heap.size + 1 + 1 + 1 = (((w.alloc (.cells (pub.map (Value.int .u8)).toArray 23 (0, 0))).alloc (.cells (ad.map (Value.int .u32)).toArray 26 (0, 0))).alloc (.cells (byteCells 32 []) 23 (0, 0))).heap.size by simp only [World.size_alloc])
  clear b1 b2 b3
  go_enter Tryd.func31, Tryd.ntmps31
  go_wp2_with (first | (refine wpList_load_blk rfl 23 _ rfl (w.heap.size) rfl _ 23 Kp.out _ Tryd.underlying23 rfl 32 size_digest hpub.size ?_) | (refine wpList_load_blk rfl 26 _ rfl (w.heap.size + 1) rfl _ 26 Kad.out _ Tryd.underlying26 rfl 8 sizeAdrs had.size ?_))
  refine (C.out _ (HN.out.below Hb.out)).mono ?_
  rintro e w6 ⟨rfl, b6⟩
  have HB6 := hid (Below.on Hb.out b6)
  have Kr6 := hid (Kr0.out.below b6)
  clear b6
  go_wp2_with (refine wpList_store_blk rfl 23 _ _ rfl (w.heap.size + 1 + 1) _ rfl rfl _ 23 Kr6.out 32 size_digest HzA.out HD.out.size (ints_one _ _) ?_; intro w7 hbut7 hk7)
  exact bodyPost_ret (v := (.agg (R.map (Value.int .u8)).toArray)) (results_blk Tryd.results31 _ (w.heap.size + 1 + 1) rfl _ 23 hk7 _ Tryd.underlying23 rfl 32 size_digest HD.out.size) rfl ⟨rfl, hbut7.below HB6.out HB6.out.size (by omega)⟩
end Go.Proofs.YtjkfbeillmeomaaDoor
