/-
  Layer 9: an L-tree, as the program computes it.
-/
import Derived.Test.YtjkfbeillmeomaaDoorAbove
namespace Go.Proofs.YtjkfbeillmeomaaDoor
open Go.ChangeShapes Go.WideShapes Go.ChangeAt Go.RowKit

def compZ (pub ad : List Int) : Nat → Nat → List (List Int) → List Int
  | 0, _, ds => ds.getD 0 []
  | f + 1, lev, ds => if ds.length ≤ 1 then ds.getD 0 [] else compZ pub ad f (lev + 1) (aboveZ pub ad lev ds)
theorem compZ_one (pub ad : List Int) (f lev : Nat) {ds : List (List Int)} (h : ds.length ≤ 1) : compZ pub ad f lev ds = ds.getD 0 [] := by
  cases f with
  | zero => rfl
  | succ f => rw [compZ, if_pos h]
theorem compZ_more (pub ad : List Int) (f lev : Nat) {ds : List (List Int)} (h : 1 < ds.length) : compZ pub ad (f + 1) lev ds = compZ pub ad f (lev + 1) (aboveZ pub ad lev ds) := by
  rw [compZ, if_neg (by omega)]
theorem compZ_dg (pub ad : List Int) : ∀ (f lev : Nat) (ds : List (List Int)), (∀ d ∈ ds, Dg d) → 1 ≤ ds.length → ds.length ≤ f → Dg (compZ pub ad f lev ds)
  | 0, _, ds, h, h1, hf => by omega
  | f + 1, lev, ds, h, h1, hf => by
    by_cases hl : ds.length ≤ 1
    · rw [compZ_one _ _ _ _ hl]; exact Dg.getD h (by omega)
    · rw [compZ_more _ _ _ _ (by omega)]
      exact compZ_dg pub ad f (lev + 1) _ (aboveZ_each h) (by rw [aboveZ_length]; omega) (by rw [aboveZ_length]; omega)

set_option maxHeartbeats 4000000 in
set_option maxRecDepth 100000 in
theorem compress_bad (na : Option Addr) (n nc : Nat) (pub ad : List Int) (w : World) (hbad : n = 0 ∨ 67 < n) :
    Calls Tryd.prog 28 #[.slice na n nc, (.agg (pub.map (Value.int .u8)).toArray), (.agg (ad.map (Value.int .u32)).toArray)] w fun e w' => e = .returned (.tuple #[(.agg (zD.map (Value.int .u8)).toArray), .int .i64 1]) ∧ Below w.heap.size w w' := by
  have Hz32 := hid Dg.zero.size
  have H1 := hid (ints_one .u8 zD)
  have b1 := (Below.refl w.heap.size w).alloc (Nat.le_refl _) (.cells (pub.map (Value.int .u8)).toArray 23 (0, 0))
  have b2 := b1.alloc b1.size (.cells (ad.map (Value.int .u32)).toArray 26 (0, 0))
  have b3 := b2.alloc b2.size (.cells (byteCells 32 []) 23 (0, 0))
  have Kp := hid (((Blk.new (w := w) (n := w.heap.size) rfl (pub.map (Value.int .u8)).toArray 23).old (.cells (ad.map (Value.int .u32)).toArray 26 (0, 0))).old (.cells (byteCells 32 []) 23 (0, 0)))
  have Kad := hid ((Blk.new (w := (w.alloc (.cells (pub.map (Value.int .u8)).toArray 23 (0, 0)))) (n := w.heap.size + 1) (by simp only [World.size_alloc]) (ad.map (Value.int .u32)).toArray 26).old (.cells (byteCells 32 []) 23 (0, 0)))
  have Kr0 := hid (Blk.new (w := ((w.alloc (.cells (pub.map (Value.int .u8)).toArray 23 (0, 0))).alloc (.cells (ad.map (Value.int .u32)).toArray 26 (0, 0)))) (n := w.heap.size + 1 + 1) (by simp only [World.size_alloc]) (byteCells 32 []) 23)
  have Hb := hid b3
  have HzA := hid zsize
  have hbz := b3.size
  have Hbs := hid (show w.heap.size + 1 + 1 + 1 = (((w.alloc (.cells (pub.map (Value.int .u8)).toArray 23 (0, 0))).alloc (.cells (ad.map (Value.int .u32)).toArray 26 (0, 0))).alloc (.cells (byteCells 32 []) 23 (0, 0))).heap.size by simp only [World.size_alloc])
  clear b1 b2 b3
  rcases (show n = 0 ∨ 67 < n by omega) with rfl | h
  · clear hbad
    go_enter Tryd.func28, Tryd.ntmps28
    go_wp2_with (refine wpList_store_blk rfl 23 _ _ rfl (w.heap.size + 1 + 1) (zD.map (Value.int .u8)).toArray rfl rfl _ 23 Kr0.out 32 size_digest HzA.out Hz32.out H1.out ?_; intro w7 hbut7 hk7)
    exact bodyPost_ret (v := .tuple #[(.agg (zD.map (Value.int .u8)).toArray), .int .i64 1]) (results_blk_tmp Tryd.results28 _ (w.heap.size + 1 + 1) rfl _ rfl _ 23 hk7 _ Tryd.underlying23 rfl 32 size_digest Hz32.out) rfl ⟨rfl, hbut7.below Hb.out Hb.out.size (by omega)⟩
  · have hq0 : ¬ ((n : Int) = 0) := by omega
    have hq1 : (67 : Int) < n := by omega
    clear hbad
    go_enter Tryd.func28, Tryd.ntmps28
    go_wp2_with (refine wpList_store_blk rfl 23 _ _ rfl (w.heap.size + 1 + 1) (zD.map (Value.int .u8)).toArray rfl rfl _ 23 Kr0.out 32 size_digest HzA.out Hz32.out H1.out ?_; intro w7 hbut7 hk7)
    exact bodyPost_ret (v := .tuple #[(.agg (zD.map (Value.int .u8)).toArray), .int .i64 1]) (results_blk_tmp Tryd.results28 _ (w.heap.size + 1 + 1) rfl _ rfl _ 23 hk7 _ Tryd.underlying23 rfl 32 size_digest Hz32.out) rfl ⟨rfl, hbut7.below Hb.out Hb.out.size (by omega)⟩

set_option maxHeartbeats 4000000 in
set_option maxRecDepth 100000 in
theorem compress_good (na : Option Addr) (n nc : Nat) (ds : List (List Int)) (pub ad : List Int) (w : World) (hN : DigsAt w na n nc ds) (hn : 1 ≤ n ∧ n ≤ 67) (hpub : Dg pub) (had : Aw ad) (tab : ShaTab w) :
    Calls Tryd.prog 28 #[.slice na n nc, (.agg (pub.map (Value.int .u8)).toArray), (.agg (ad.map (Value.int .u32)).toArray)] w fun e w' => e = .returned (.tuple #[(.agg ((compZ pub ad n 0 ds).map (Value.int .u8)).toArray), .int .i64 0]) ∧ Below w.heap.size w w' := by
  have HN := hid hN
  have hle := hN.le
  have hmx := hN.max
  have Hnl := hid hN.length
  obtain ⟨hn0, hn1⟩ := hn
  clear hN
  have b1 := (Below.refl w.heap.size w).alloc (Nat.le_refl _) (.cells (pub.map (Value.int .u8)).toArray 23 (0, 0))
  have b2 := b1.alloc b1.size (.cells (ad.map (Value.int .u32)).toArray 26 (0, 0))
  have b3 := b2.alloc b2.size (.cells (byteCells 32 []) 23 (0, 0))
  have Kp := hid (((Blk.new (w := w) (n := w.heap.size) rfl (pub.map (Value.int .u8)).toArray 23).old (.cells (ad.map (Value.int .u32)).toArray 26 (0, 0))).old (.cells (byteCells 32 []) 23 (0, 0)))
  have Kad := hid ((Blk.new (w := (w.alloc (.cells (pub.map (Value.int .u8)).toArray 23 (0, 0)))) (n := w.heap.size + 1) (by simp only [World.size_alloc]) (ad.map (Value.int .u32)).toArray 26).old (.cells (byteCells 32 []) 23 (0, 0)))
  have Kr0 := hid (Blk.new (w := ((w.alloc (.cells (pub.map (Value.int .u8)).toArray 23 (0, 0))).alloc (.cells (ad.map (Value.int .u32)).toArray 26 (0, 0)))) (n := w.heap.size + 1 + 1) (by simp only [World.size_alloc]) (byteCells 32 []) 23)
  have Hb := hid b3
  have HzA := hid zsize
  have hbz := b3.size
  have Hbs := hid (show w.heap.size + 1 + 1 + 1 = (((w.alloc (.cells (pub.map (Value.int .u8)).toArray 23 (0, 0))).alloc (.cells (ad.map (Value.int .u32)).toArray 26 (0, 0))).alloc (.cells (byteCells 32 []) 23 (0, 0))).heap.size by simp only [World.size_alloc])
  have Htab := hid tab
  clear b1 b2 b3 tab
  have hb2 := Hb.out
  have b3 := hb2.alloc hb2.size (.cells (dcs (List.replicate n zD)) 23 (0, 0))
  have Kg3 := hid (Blk.new (w := (((w.alloc (.cells (pub.map (Value.int .u8)).toArray 23 (0, 0))).alloc (.cells (ad.map (Value.int .u32)).toArray 26 (0, 0))).alloc (.cells (byteCells 32 []) 23 (0, 0)))) (n := (w.heap.size + 1 + 1 + 1)) (by simp only [World.size_alloc]) (dcs (List.replicate n zD)) 23)
  have Kp3 := hid (Kp.out.old (.cells (dcs (List.replicate n zD)) 23 (0, 0)))
  have Ka3 := hid (Kad.out.old (.cells (dcs (List.replicate n zD)) 23 (0, 0)))
  have Kr3 := hid (Kr0.out.old (.cells (dcs (List.replicate n zD)) 23 (0, 0)))
  have Hb3 := hid b3
  have HN3 := hid (HN.out.below b3)
  clear b3 hb2
  have hmk := fun W : World => make_digs n n rfl (by omega) W
  have hq0 : ¬ ((n : Int) = 0) := by omega
  have hq1 : ¬ ((67 : Int) < n) := by omega
  go_enter Tryd.func28, Tryd.ntmps28
  go_wp2_with (
    refine wpList_copy_digs rfl _ _ _ _ rfl 23 Tryd.underlying28 size_digest (w.heap.size + 1 + 1 + 1) 0 n n (some ⟨(w.heap.size + 1 + 1 + 1), 0, none⟩) rfl (fun _ => rfl) na n nc rfl _ _ 23 Kg3.out (zRow _) HN3.out (by rw [List.length_replicate]; omega) ?_
    intro w2 hb2 hk2
    have Kg2 := hid hk2
    have HB2 := hid (hb2.below Hb3.out Hb3.out.size (by omega))
    have Kp2 := hid (hb2.blk Kp3.out (by omega))
    have Ka2 := hid (hb2.blk Ka3.out (by omega))
    have Kr2 := hid (hb2.blk Kr3.out (by omega))
    clear hb2 hk2)
  have hrow : (List.replicate n zD).take 0 ++ (ds.take (Nat.min n n) ++ (List.replicate n zD).drop (0 + Nat.min n n)) = ds := by
    rw [show Nat.min n n = n from Nat.min_self n, List.take_zero, List.nil_append, List.take_of_length_le (by rw [Hnl.out]; exact Nat.le_refl _), List.drop_eq_nil_of_le (by rw [List.length_replicate]; omega), List.append_nil]
  rw [hrow] at Kg2
  have HD0 := hid (DigsAt.of_blk Kg2.out HN.out.each Hnl.out (Nat.le_refl _) (by omega))
  have HR0 := hid (rfl : compZ pub ad n 0 ds = compZ pub ad n 0 ds)
  clear hrow Kg2
  go_loopw [8, 9] (fun v lv wr => ∃ (f lev m : Nat) (a : Option Addr) (c : Nat) (row : List (List Int)), v = .slice a m c ∧ lv = .int .u32 lev ∧ lev + f = n ∧ 1 ≤ m ∧ m ≤ f ∧ DigsAt wr a m c row ∧ compZ pub ad f lev row = compZ pub ad n 0 ds ∧ Blk wr (w.heap.size) (pub.map (Value.int .u8)).toArray 23 ∧ Blk wr (w.heap.size + 1) (ad.map (Value.int .u32)).toArray 26 ∧ Blk wr (w.heap.size + 1 + 1) (byteCells 32 []) 23 ∧ Below w.heap.size w wr) (fun v _ _ => match v with | .slice _ m _ => m | _ => 0)
  case atStart => exact ⟨n, 0, n, _, _, ds, rfl, rfl, by omega, by omega, Nat.le_refl _, HD0.out, rfl, Kp2.out, Ka2.out, Kr2.out, HB2.out⟩
  case round =>
    clear Kp2 Ka2 Kr2 HB2 HD0 HR0 Kg3 Kp3 Ka3 Kr3 Hb3 HN3
    obtain ⟨f, lev, m, a, c, row, rfl, rfl, hlf, hm1, hmf, hD, hR, kp, ka, kr, bel⟩ := hrel
    have HD := hid hD
    have HR := hid hR
    have Kp := hid kp
    have Ka := hid ka
    have Kr := hid kr
    have HB := hid bel
    have hml := hD.length
    have Hml := hid hml
    clear hD hR kp ka kr bel hml
    by_cases hlt : 1 < m
    · obtain ⟨f, rfl⟩ : ∃ g, f = g + 1 := ⟨f - 1, by omega⟩
      have hmi : (1 : Int) < m := by omega
      have CA := hid (fun (t : ShaTab wr) => above_any a m c row pub ad lev wr HD.out ⟨by omega, by omega⟩ hpub had ⟨by omega, by omega⟩ t)
      go_wp2_with (first | (refine wpList_load_blk rfl 23 _ rfl (w.heap.size) rfl _ 23 Kp.out _ Tryd.underlying23 rfl 32 size_digest hpub.size ?_) | (refine wpList_load_blk rfl 26 _ rfl (w.heap.size + 1) rfl _ 26 Ka.out _ Tryd.underlying26 rfl 8 sizeAdrs had.size ?_))
      refine (CA.out (Htab.out.below HB.out)).mono ?_
      rintro e w4 ⟨v, rfl, b4, o4⟩
      obtain ⟨a4, c4, rfl, hD4, _⟩ := o4.digs
      have hal := aboveZ_length pub ad lev row
      rw [Hml.out] at hal
      rw [hal] at hD4 ⊢
      have hR4 := compZ_more pub ad f lev (ds := row) (by rw [Hml.out]; exact hlt)
      rw [HR.out] at hR4
      have H4 := hid (And.intro hD4 (And.intro hR4.symm (And.intro (Kp.out.below b4) (And.intro (Ka.out.below b4) (And.intro (Kr.out.below b4) (Below.on HB.out b4))))))
      clear hD4 o4 b4 hal hR4
      go_wp2_with fail
      exact ⟨⟨f, lev + 1, (m + 1) / 2, a4, c4, _, rfl, by go_num, by omega, by omega, by omega, H4.out.1, H4.out.2.1, H4.out.2.2.1, H4.out.2.2.2.1, H4.out.2.2.2.2.1, H4.out.2.2.2.2.2⟩, by simp; omega⟩
    · have hm : m = 1 := by omega
      subst hm
      have hone := compZ_one pub ad f lev (ds := row) (by rw [Hml.out]; exact Nat.le_refl _)
      rw [HR.out] at hone
      have HX := hid (HD.out.get (j := 0) (by omega))
      obtain ⟨xs, xo, rfl, hxs, hcell⟩ := HD.out.at_ (by omega)
      have Hc := hid (hcell 0 (by omega))
      have HOne := hid hone
      clear hone hcell HD
      generalize hX : row.getD 0 [] = X at *
      go_wp2_with (first
       | (refine wpList_index_digs rfl 28 _ _ rfl Tryd.underlying28 size_digest xs xo 1 c rfl _ _ rfl 0 rfl (by omega) ?_)
       | (refine wpList_load_mid rfl 23 _ rfl xs (xo + 0 * 32) rfl _ _ Hc.out Tryd.underlying23 rfl (by rw [List.length_map, HX.out.len]; exact size_digest) ?_)
       | (refine wpList_store_blk rfl 23 _ _ rfl (w.heap.size + 1 + 1) _ rfl rfl _ 23 Kr.out 32 size_digest HzA.out HX.out.size (ints_one _ _) ?_; intro w7 hbut7 hk7))
      exact bodyPost_ret (v := .tuple #[(.agg (X.map (Value.int .u8)).toArray), .int .i64 0]) (results_blk_tmp Tryd.results28 _ (w.heap.size + 1 + 1) rfl _ rfl _ 23 hk7 _ Tryd.underlying23 rfl 32 size_digest HX.out.size) rfl ⟨by rw [HOne.out], hbut7.below HB.out HB.out.size (by omega)⟩
end Go.Proofs.YtjkfbeillmeomaaDoor
