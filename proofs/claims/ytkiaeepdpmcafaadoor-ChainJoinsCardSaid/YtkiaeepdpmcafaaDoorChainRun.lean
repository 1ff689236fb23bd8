/-
  Contract of chain.Run.
-/
import Derived.Test.YtkiaeepdpmcafaaDoorChain
import Derived.Test.YtkiaeepdpmcafaaDoorKeyedLaws
namespace Go.Proofs.YtkiaeepdpmcafaaDoor
open Go.ChangeShapes Go.WideShapes Go.ChangeAt Go.RowKit

set_option maxHeartbeats 2000000 in
set_option maxRecDepth 100000 in
theorem run_bad (x pub ad : List Int) (from_ steps : Int) (w : World) (hf : -9223372036854775808 ≤ from_ ∧ from_ < 9223372036854775808) (hs : -9223372036854775808 ≤ steps ∧ steps < 9223372036854775808) (hbad : from_ < 0 ∨ steps < 0 ∨ 15 < from_ ∨ 15 - from_ < steps) :
    Calls Tryd.prog 37 #[.agg (x.map (Value.int .u8)).toArray, .int .i64 from_, .int .i64 steps, .agg (pub.map (Value.int .u8)).toArray, .agg (ad.map (Value.int .u32)).toArray] w fun e w' => e = .returned (.tuple #[.agg (zD.map (Value.int .u8)).toArray, .int .i64 1]) ∧ Below w.heap.size w w' := by
  obtain ⟨hf0, hf1⟩ := hf
  obtain ⟨hs0, hs1⟩ := hs
  have b1 := (Below.refl w.heap.size w).alloc (Nat.le_refl _) (.cells (x.map (Value.int .u8)).toArray 26 (0, 0))
  have b2 := b1.alloc b1.size (.cells (pub.map (Value.int .u8)).toArray 26 (0, 0))
  have b3 := b2.alloc b2.size (.cells (ad.map (Value.int .u32)).toArray 45 (0, 0))
  have bz := b3.alloc b3.size (.cells (byteCells 32 []) 26 (0, 0))
  have K0 := hid ((((Blk.new (w := w) (n := w.heap.size) rfl (x.map (Value.int .u8)).toArray 26).old (.cells (pub.map (Value.int .u8)).toArray 26 (0, 0))).old (.cells (ad.map (Value.int .u32)).toArray 45 (0, 0))).old (.cells (byteCells 32 []) 26 (0, 0)))
  have K1 := hid (((Blk.new (w := (w.alloc (.cells (x.map (Value.int .u8)).toArray 26 (0, 0)))) (n := w.heap.size + 1) (by simp only [World.size_alloc]) (pub.map (Value.int .u8)).toArray 26).old (.cells (ad.map (Value.int .u32)).toArray 45 (0, 0))).old (.cells (byteCells 32 []) 26 (0, 0)))
  have K2 := hid ((Blk.new (w := ((w.alloc (.cells (x.map (Value.int .u8)).toArray 26 (0, 0))).alloc (.cells (pub.map (Value.int .u8)).toArray 26 (0, 0)))) (n := w.heap.size + 1 + 1) (by simp only [World.size_alloc]) (ad.map (Value.int .u32)).toArray 45).old (.cells (byteCells 32 []) 26 (0, 0)))
  have Kr := hid (Blk.new (w := (((w.alloc (.cells (x.map (Value.int .u8)).toArray 26 (0, 0))).alloc (.cells (pub.map (Value.int .u8)).toArray 26 (0, 0))).alloc (.cells (ad.map (Value.int .u32)).toArray 45 (0, 0)))) (n := w.heap.size + 1 + 1 + 1) (by simp only [World.size_alloc]) (byteCells 32 []) 26)
  have Hb := hid bz
  have HzA := hid zsize
  have hbz := bz.size
  have hbs : w.heap.size + 1 + 1 + 1 + 1 = ((((w.alloc (.cells (x.map (Value.int .u8)).toArray 26 (0, 0))).alloc (.cells (pub.map (Value.int .u8)).toArray 26 (0, 0))).alloc (.cells (ad.map (Value.int .u32)).toArray 45 (0, 0))).alloc (.cells (byteCells 32 []) 26 (0, 0))).heap.size := by simp only [World.size_alloc]
  have Hbs := hid hbs
  clear bz hbs b1 b2 b3
  have Hz32 := hid Dg.zero.size
  have H1 := hid (ints_one .u8 zD)
  have hcase : from_ < 0 ∨ (0 ≤ from_ ∧ steps < 0) ∨ (0 ≤ from_ ∧ 0 ≤ steps ∧ 15 < from_) ∨ (0 ≤ from_ ∧ 0 ≤ steps ∧ from_ ≤ 15 ∧ 15 - from_ < steps) := by omega
  clear hbad
  rcases hcase with hc | ⟨hc1, hc⟩ | ⟨hc1, hc2, hc⟩ | ⟨hc1, hc2, hc3, hc⟩
  all_goals
    go_enter Tryd.func37, Tryd.ntmps37
    go_wp2_with (refine wpList_store_blk rfl 26 _ _ rfl (w.heap.size + 1 + 1 + 1) (zD.map (Value.int .u8)).toArray rfl rfl _ 26 Kr.out 32 size_digest HzA.out Hz32.out H1.out ?_; intro w7 hbut7 hk7)
    exact bodyPost_ret (v := .tuple #[.agg (zD.map (Value.int .u8)).toArray, .int .i64 1]) (results_blk_tmp Tryd.results37 _ (w.heap.size + 1 + 1 + 1) rfl _ rfl _ 26 hk7 _ Tryd.underlying26 rfl 32 size_digest Hz32.out) rfl ⟨rfl, hbut7.below Hb.out Hb.out.size (by omega)⟩

set_option maxHeartbeats 4000000 in
set_option maxRecDepth 100000 in
theorem run_good (x pub ad : List Int) (from_ steps : Nat) (w : World) (hx : Dg x) (hpub : Dg pub) (had : Aw ad) (hf : from_ + steps ≤ 15) (tab : ShaTab w) :
    Calls Tryd.prog 37 #[.agg (x.map (Value.int .u8)).toArray, .int .i64 from_, .int .i64 steps, .agg (pub.map (Value.int .u8)).toArray, .agg (ad.map (Value.int .u32)).toArray] w fun e w' => e = .returned (.tuple #[.agg ((runZ pub ad x from_ steps).map (Value.int .u8)).toArray, .int .i64 0]) ∧ Below w.heap.size w w' := by
  have b1 := (Below.refl w.heap.size w).alloc (Nat.le_refl _) (.cells (x.map (Value.int .u8)).toArray 26 (0, 0))
  have b2 := b1.alloc b1.size (.cells (pub.map (Value.int .u8)).toArray 26 (0, 0))
  have b3 := b2.alloc b2.size (.cells (ad.map (Value.int .u32)).toArray 45 (0, 0))
  have bz := b3.alloc b3.size (.cells (byteCells 32 []) 26 (0, 0))
  have K0 := hid ((((Blk.new (w := w) (n := w.heap.size) rfl (x.map (Value.int .u8)).toArray 26).old (.cells (pub.map (Value.int .u8)).toArray 26 (0, 0))).old (.cells (ad.map (Value.int .u32)).toArray 45 (0, 0))).old (.cells (byteCells 32 []) 26 (0, 0)))
  have K1 := hid (((Blk.new (w := (w.alloc (.cells (x.map (Value.int .u8)).toArray 26 (0, 0)))) (n := w.heap.size + 1) (by simp only [World.size_alloc]) (pub.map (Value.int .u8)).toArray 26).old (.cells (ad.map (Value.int .u32)).toArray 45 (0, 0))).old (.cells (byteCells 32 []) 26 (0, 0)))
  have K2 := hid ((Blk.new (w := ((w.alloc (.cells (x.map (Value.int .u8)).toArray 26 (0, 0))).alloc (.cells (pub.map (Value.int .u8)).toArray 26 (0, 0)))) (n := w.heap.size + 1 + 1) (by simp only [World.size_alloc]) (ad.map (Value.int .u32)).toArray 45).old (.cells (byteCells 32 []) 26 (0, 0)))
  have Kr := hid (Blk.new (w := (((w.alloc (.cells (x.map (Value.int .u8)).toArray 26 (0, 0))).alloc (.cells (pub.map (Value.int .u8)).toArray 26 (0, 0))).alloc (.cells (ad.map (Value.int .u32)).toArray 45 (0, 0)))) (n := w.heap.size + 1 + 1 + 1) (by simp only [World.size_alloc]) (byteCells 32 []) 26)
  have Hb := hid bz
  have HzA := hid zsize
  have hbz := bz.size
  have hbs : w.heap.size + 1 + 1 + 1 + 1 = ((((w.alloc (.cells (x.map (Value.int .u8)).toArray 26 (0, 0))).alloc (.cells (pub.map (Value.int .u8)).toArray 26 (0, 0))).alloc (.cells (ad.map (Value.int .u32)).toArray 45 (0, 0))).alloc (.cells (byteCells 32 []) 26 (0, 0))).heap.size := by simp only [World.size_alloc]
  have Hbs := hid hbs
  clear bz hbs b1 b2 b3
  have Htab := hid tab
  clear tab
  have hc2 : ¬ ((15 : Int) - from_ < steps) := by omega
  go_enter Tryd.func37, Tryd.ntmps37
  go_wp2_with fail
  go_loopw [33] (fun v wr => ∃ k : Nat, k ≤ steps ∧ v = .int .i64 k ∧ Blk wr (w.heap.size) ((runZ pub ad x from_ k).map (Value.int .u8)).toArray 26 ∧ Blk wr (w.heap.size + 1) (pub.map (Value.int .u8)).toArray 26 ∧ Blk wr (w.heap.size + 1 + 1) (ad.map (Value.int .u32)).toArray 45 ∧ Blk wr (w.heap.size + 1 + 1 + 1) (byteCells 32 []) 26 ∧ Below w.heap.size w wr) (fun v _ => steps - (intOf v).toNat)
  case atStart => exact ⟨0, Nat.zero_le _, rfl, K0.out, K1.out, K2.out, Kr.out, Hb.out⟩
  case round =>
    clear K0 K1 K2 Kr Hb
    obtain ⟨k, hk, rfl, kx, kp, ka, kr, bel⟩ := hrel
    have HDk := hid (Dg.run (pub := pub) (ad := ad) hx from_ k)
    by_cases hlt : k < steps
    · have hst := step_any pub ad (runZ pub ad x from_ k) (from_ + k) _ _ _ wr hpub had HDk.out (by omega) ka kp kx (Htab.out.below bel)
      rw [show ((from_ + k : Nat) : Int) = (from_ : Int) + k by omega] at hst
      have Hst := hid hst
      have Kp := hid kp
      have Ka := hid ka
      have Kr := hid kr
      have Hbel := hid bel
      clear kx kp ka kr bel hst
      go_wp2_with fail
      refine Hst.out.mono ?_
      rintro e w4 ⟨rfl, b4, k4⟩
      have H4 := hid (And.intro k4 (And.intro (b4.blk Kp.out (by omega)) (And.intro (b4.blk Ka.out (by omega)) (And.intro (b4.blk Kr.out (by omega)) (b4.below Hbel.out Hbel.out.size (Nat.le_refl _))))))
      clear b4 k4 Hst
      go_wp2_with fail
      exact ⟨⟨k + 1, by omega, by go_num, H4.out.1, H4.out.2.1, H4.out.2.2.1, H4.out.2.2.2.1, H4.out.2.2.2.2⟩, by simp [intOf]; omega⟩
    · have hks : k = steps := by omega
      subst hks
      have Kx := hid kx
      have Kr := hid kr
      have Hbel := hid bel
      clear kx kp ka kr bel
      generalize hR : runZ pub ad x from_ k = R at *
      go_wp2_with (first | (refine wpList_load_blk rfl 26 _ rfl (w.heap.size) rfl _ 26 Kx.out _ Tryd.underlying26 rfl 32 size_digest HDk.out.size ?_) | (refine wpList_store_blk rfl 26 _ _ rfl (w.heap.size + 1 + 1 + 1) _ rfl rfl _ 26 Kr.out 32 size_digest HzA.out HDk.out.size (ints_one _ _) ?_; intro w7 hbut7 hk7))
      exact bodyPost_ret (v := .tuple #[.agg (R.map (Value.int .u8)).toArray, .int .i64 0]) (results_blk_tmp Tryd.results37 _ (w.heap.size + 1 + 1 + 1) rfl _ rfl _ 26 hk7 _ Tryd.underlying26 rfl 32 size_digest HDk.out.size) rfl ⟨by rw [hR], hbut7.below Hbel.out Hbel.out.size (by omega)⟩
end Go.Proofs.YtkiaeepdpmcafaaDoor
