import Derived.Test.YtkiaeepdpmcafaaDoorChainRun
import Derived.Test.YtkiaeepdpmcafaaDoorChainRef
import Derived.Test.YtkiaeepdpmcafaaDoorKeyedLaws
import Derived.Test.YtkiaeepdpmcafaaDoorFrameT
import Derived.Test.YtkiaeepdpmcafaaDoorFive
/-
  The rows of the document's examples for layer 7.
-/
namespace Go.Proofs.YtkiaeepdpmcafaaDoor
open Go.ChangeShapes Go.WideShapes Go.ChangeAt Go.RowKit

def sD : List Int := 7 :: List.replicate 31 0
def zA : List Int := List.replicate 8 0
theorem Dg.seven : Dg sD := ⟨by simp [sD], fun x hx => by
  unfold sD at hx
  rcases List.mem_cons.1 hx with h | h
  · omega
  · have := List.eq_of_mem_replicate h; omega⟩
theorem Aw.zero : Aw zA := ⟨by simp [zA], fun x hx => by have := List.eq_of_mem_replicate hx; omega⟩
theorem run_seven_ne : ¬ runZ zD zA sD 0 1 = sD := by
  have h : (runZ zD zA sD 0 1).getD 1 0 ≠ 0 := by decide +kernel
  intro e
  rw [e] at h
  exact h (by decide)

set_option maxHeartbeats 1000000 in
set_option maxRecDepth 100000 in
theorem knows07 (w : World) (tab : ShaTab w) : Calls Tryd.prog 38 #[] w fun e w' => e = .returned (.bool true) ∧ Below w.heap.size w w' := by
  have Htab := hid tab
  have HzA := hid zsize
  have HX := hid (Dg.run (pub := zD) (ad := zA) Dg.seven 0 1)
  have Hne := hid run_seven_ne
  have C1 := hid (show ∀ W : World, ShaTab W → Calls Tryd.prog 37 #[.agg (sD.map (Value.int .u8)).toArray, .int .i64 15, .int .i64 0, .agg (zD.map (Value.int .u8)).toArray, .agg (zA.map (Value.int .u32)).toArray] W fun e w' => e = .returned (.tuple #[.agg (sD.map (Value.int .u8)).toArray, .int .i64 0]) ∧ Below W.heap.size W w' from fun W t => run_good sD zD zA 15 0 W Dg.seven Dg.zero Aw.zero (by omega) t)
  have C2 := hid (show ∀ W : World, ShaTab W → Calls Tryd.prog 37 #[.agg (sD.map (Value.int .u8)).toArray, .int .i64 15, .int .i64 1, .agg (zD.map (Value.int .u8)).toArray, .agg (zA.map (Value.int .u32)).toArray] W fun e w' => e = .returned (.tuple #[.agg (zD.map (Value.int .u8)).toArray, .int .i64 1]) ∧ Below W.heap.size W w' from fun W t => run_bad sD zD zA 15 1 W (by omega) (by omega) (by omega))
  have C3 := hid (show ∀ W : World, ShaTab W → Calls Tryd.prog 37 #[.agg (sD.map (Value.int .u8)).toArray, .int .i64 0, .int .i64 1, .agg (zD.map (Value.int .u8)).toArray, .agg (zA.map (Value.int .u32)).toArray] W fun e w' => e = .returned (.tuple #[.agg ((runZ zD zA sD 0 1).map (Value.int .u8)).toArray, .int .i64 0]) ∧ Below W.heap.size W w' from fun W t => run_good sD zD zA 0 1 W Dg.seven Dg.zero Aw.zero (by omega) t)
  have bz := Below.refl w.heap.size w
  clear tab bz
  generalize runZ zD zA sD 0 1 = X at *
  go_enter Tryd.func38, Tryd.ntmps38
  go_wp2_with (first
   | (refine wpList_store_blk rfl 26 _ _ rfl w.heap.size (sD.map (Value.int .u8)).toArray rfl rfl _ 26 (Blk.new rfl (byteCells 32 []) _) 32 size_digest HzA.out Dg.seven.size (ints_one _ _) ?_
      intro w0 hbw0 hkw0
      have HBw0 := hid (hbw0.below ((Below.refl w.heap.size w).alloc (Nat.le_refl _) _) (by rw [World.size_alloc]; omega) (Nat.le_refl _))
      have Kxw0 := hid hkw0
      clear hbw0 hkw0)
   | (refine wpList_load_blk rfl 26 _ rfl (w.heap.size) rfl _ 26 Kxw0.out _ Tryd.underlying26 rfl 32 size_digest Dg.seven.size ?_))
  refine (C1.out _ (Htab.out.below HBw0.out)).mono ?_
  rintro e w1 ⟨rfl, bw1⟩
  have HBw1 := hid (Below.on HBw0.out bw1)
  have hsw1 := HBw1.out.size
  have Kxw1 := hid (Kxw0.out.below bw1)
  clear bw1
  have hl1 := Kxw1.out.lt
  go_wp2_with (first
   |
    (refine wpList_store_blk rfl 26 _ _ rfl w1.heap.size _ rfl rfl _ 26 (Blk.new rfl (byteCells 32 []) _) 32 size_digest HzA.out Dg.seven.size (ints_one _ _) ?_
     intro w2 hbw2 hkw2
     have HBw2 := hid (hbw2.below (HBw1.out.alloc HBw1.out.size _) (by rw [World.size_alloc]; omega) HBw1.out.size)
     have Kyw2 := hid hkw2
     have Kxw2 := hid (hbw2.blk (Kxw1.out.old _) (Nat.ne_of_lt Kxw1.out.lt))
     clear hbw2 hkw2)
   |
    (refine wpList_load_blk rfl 26 _ rfl (w.heap.size) rfl _ 26 Kxw2.out _ Tryd.underlying26 rfl 32 size_digest Dg.seven.size ?_))
  refine (C2.out _ (Htab.out.below HBw2.out)).mono ?_
  rintro e w3 ⟨rfl, bw3⟩
  have HBw3 := hid (Below.on HBw2.out bw3)
  have hsw3 := HBw3.out.size
  have Kxw3 := hid (Kxw2.out.below bw3)
  have Kyw3 := hid (Kyw2.out.below bw3)
  clear bw3
  go_wp2_with (first
   |
    (refine wpList_store_blk rfl 26 _ _ rfl w3.heap.size _ rfl rfl _ 26 (Blk.new rfl (byteCells 32 []) _) 32 size_digest HzA.out Dg.zero.size (ints_one _ _) ?_
     intro w4 hbw4 hkw4
     have HBw4 := hid (hbw4.below (HBw3.out.alloc HBw3.out.size _) (by rw [World.size_alloc]; omega) HBw3.out.size)
     have Kfw4 := hid hkw4
     have Kxw4 := hid (hbw4.blk (Kxw3.out.old _) (Nat.ne_of_lt Kxw3.out.lt))
     have Kyw4 := hid (hbw4.blk (Kyw3.out.old _) (Nat.ne_of_lt Kyw3.out.lt))
     clear hbw4 hkw4)
   |
    (refine wpList_load_blk rfl 26 _ rfl (w.heap.size) rfl _ 26 Kxw4.out _ Tryd.underlying26 rfl 32 size_digest Dg.seven.size ?_))
  refine (C3.out _ (Htab.out.below HBw4.out)).mono ?_
  rintro e w5 ⟨rfl, bw5⟩
  have HBw5 := hid (Below.on HBw4.out bw5)
  have hsw5 := HBw5.out.size
  have Kxw5 := hid (Kxw4.out.below bw5)
  have Kyw5 := hid (Kyw4.out.below bw5)
  clear bw5
  have q1 := fun W => neD X sD HX.out.len Dg.seven.len W
  have q2 := eqD_self sD Dg.seven.len
  rw [decide_eq_false Hne.out] at q1
  have hlx5 := Kxw5.out.lt
  have hly5 := Kyw5.out.lt
  go_wp2_with (first
   |
    (refine wpList_store_blk rfl 26 _ _ rfl w5.heap.size _ rfl rfl _ 26 (Blk.new rfl (byteCells 32 []) _) 32 size_digest HzA.out HX.out.size (ints_one _ _) ?_
     intro w6 hbw6 hkw6
     have HBw6 := hid (hbw6.below (HBw5.out.alloc HBw5.out.size _) (by rw [World.size_alloc]; omega) HBw5.out.size)
     have Kzw6 := hid hkw6
     have Kxw6 := hid (hbw6.blk (Kxw5.out.old _) (Nat.ne_of_lt Kxw5.out.lt))
     have Kyw6 := hid (hbw6.blk (Kyw5.out.old _) (Nat.ne_of_lt Kyw5.out.lt))
     clear hbw6 hkw6)
   |
    (refine wpList_load_blk rfl 26 _ rfl (w.heap.size) rfl _ 26 Kxw6.out _ Tryd.underlying26 rfl 32 size_digest Dg.seven.size ?_)
   |(refine wpList_load_blk rfl 26 _ rfl (w1.heap.size) rfl _ 26 Kyw6.out _ Tryd.underlying26 rfl 32 size_digest Dg.seven.size ?_)
   |(refine wpList_load_blk_if (by first | rfl | go_simp) 26 _ rfl (w.heap.size) rfl _ 26 Kxw6.out _ Tryd.underlying26 rfl 32 size_digest Dg.seven.size ?_)
   |(refine wpList_load_blk_if (by first | rfl | go_simp) 26 _ rfl (w5.heap.size) rfl _ 26 Kzw6.out _ Tryd.underlying26 rfl 32 size_digest HX.out.size ?_))
  go_returns
  exact ⟨rfl, HBw6.out⟩
end Go.Proofs.YtkiaeepdpmcafaaDoor

/-
  Joins of layer 7.
-/
namespace Go.Proofs.YtkiaeepdpmcafaaDoor
open Go.ChangeShapes Go.WideShapes Go.ChangeAt Go.RowKit


theorem run_goodI (x pub ad : List Int) (from_ steps : Int) (w : World) (hx : Dg x) (hpub : Dg pub) (had : Aw ad) (h0 : 0 ≤ from_) (h1 : 0 ≤ steps) (hf : from_ + steps ≤ 15) (tab : ShaTab w) :
    Calls Tryd.prog 37 #[.agg (x.map (Value.int .u8)).toArray, .int .i64 from_, .int .i64 steps, .agg (pub.map (Value.int .u8)).toArray, .agg (ad.map (Value.int .u32)).toArray] w fun e w' => e = .returned (.tuple #[.agg ((runZ pub ad x from_.toNat steps.toNat).map (Value.int .u8)).toArray, .int .i64 0]) ∧ Below w.heap.size w w' := by
  obtain ⟨f, rfl⟩ := Int.eq_ofNat_of_zero_le h0
  obtain ⟨s, rfl⟩ := Int.eq_ofNat_of_zero_le h1
  exact run_good x pub ad f s w hx hpub had (by omega) tab

set_option maxHeartbeats 4000000 in
set_option maxRecDepth 100000 in
theorem chainJoins_walk (x pub ad : List Int) (a b c : Int) (w : World) (tab : ShaTab w) (hx : Dg x) (hpub : Dg pub) (had : Aw ad) (ha : 0 ≤ a ∧ a < 256) (hb : 0 ≤ b ∧ b < 256) (hc : 0 ≤ c ∧ c < 256) :
    Calls Tryd.prog 11 #[.agg (x.map (Value.int .u8)).toArray, .int .u8 a, .int .u8 b, .int .u8 c, .agg (pub.map (Value.int .u8)).toArray, .agg (ad.map (Value.int .u32)).toArray] w fun e w' => e = .returned (.bool true) ∧ Below w.heap.size w w' := by
  have b1 := (Below.refl w.heap.size w).alloc (Nat.le_refl _) (.cells (x.map (Value.int .u8)).toArray 26 (0, 0))
  have b2 := b1.alloc b1.size (.cells (pub.map (Value.int .u8)).toArray 26 (0, 0))
  have b3 := b2.alloc b2.size (.cells (ad.map (Value.int .u32)).toArray 45 (0, 0))
  have K0 := hid (((Blk.new (w := w) (n := w.heap.size) rfl (x.map (Value.int .u8)).toArray 26).old (.cells (pub.map (Value.int .u8)).toArray 26 (0, 0))).old (.cells (ad.map (Value.int .u32)).toArray 45 (0, 0)))
  have K1 := hid ((Blk.new (w := (w.alloc (.cells (x.map (Value.int .u8)).toArray 26 (0, 0)))) (n := w.heap.size + 1) (by simp only [World.size_alloc]) (pub.map (Value.int .u8)).toArray 26).old (.cells (ad.map (Value.int .u32)).toArray 45 (0, 0)))
  have K2 := hid (Blk.new (w := ((w.alloc (.cells (x.map (Value.int .u8)).toArray 26 (0, 0))).alloc (.cells (pub.map (Value.int .u8)).toArray 26 (0, 0)))) (n := w.heap.size + 1 + 1) (by simp only [World.size_alloc]) (ad.map (Value.int .u32)).toArray 45)
  have Hb := hid b3
  have HzA := hid zsize
  have Htab := hid tab
  clear b1 b2 b3 tab
  obtain ⟨ha0, ha1⟩ := ha
  obtain ⟨hb0, hb1⟩ := hb
  obtain ⟨hc0, hc1⟩ := hc
  have hi0 : 0 ≤ a % 16 := by omega
  have hi1 : a % 16 < 16 := by omega
  have hk0 : 0 ≤ b % (16 - a % 16) := Int.emod_nonneg _ (by omega)
  have hk1 : b % (16 - a % 16) < 16 - a % 16 := Int.emod_lt_of_pos _ (by omega)
  have hn0 : 0 ≤ c % (16 - a % 16 - b % (16 - a % 16)) := Int.emod_nonneg _ (by omega)
  have hn1 : c % (16 - a % 16 - b % (16 - a % 16)) < 16 - a % 16 - b % (16 - a % 16) := Int.emod_lt_of_pos _ (by omega)
  have hz1 : ¬ ((16 : Int) - a % 16 = 0) := by omega
  have hz2 : ¬ ((16 : Int) - a % 16 - b % (16 - a % 16) = 0) := by omega
  go_enter Tryd.func11, Tryd.ntmps11
  go_wp2_with (first | (refine wpList_load_blk rfl 26 _ rfl (w.heap.size) rfl _ 26 K0.out _ Tryd.underlying26 rfl 32 size_digest hx.size ?_) | (refine wpList_load_blk rfl 26 _ rfl (w.heap.size + 1) rfl _ 26 K1.out _ Tryd.underlying26 rfl 32 size_digest hpub.size ?_) | (refine wpList_load_blk rfl 45 _ rfl (w.heap.size + 1 + 1) rfl _ 45 K2.out _ Tryd.underlying45 rfl 8 sizeAdrs had.size ?_))
  generalize a % 16 = I at *
  generalize b % (16 - I) = K at *
  generalize c % (16 - I - K) = N at *
  have hZ : runZ pub ad (runZ pub ad x I.toNat K.toNat) (I + K).toNat N.toNat = runZ pub ad x I.toNat (K + N).toNat := by
    rw [show (I + K).toNat = I.toNat + K.toNat by omega, show (K + N).toNat = K.toNat + N.toNat by omega]
    exact runZ_add _ _ _ _ _ _
  have HY := hid (Dg.run (pub := pub) (ad := ad) hx I.toNat K.toNat)
  have HR := hid (Dg.run (pub := pub) (ad := ad) hx I.toNat (K + N).toNat)
  have C1 := hid (fun (W : World) (t : ShaTab W) => run_goodI x pub ad I K W hx hpub had (by omega) (by omega) (by omega) t)
  have C2 := hid (fun (W : World) (t : ShaTab W) => run_goodI (runZ pub ad x I.toNat K.toNat) pub ad (I + K) N W HY.out hpub had (by omega) (by omega) (by omega) t)
  have C3 := hid (fun (W : World) (t : ShaTab W) => run_goodI x pub ad I (K + N) W hx hpub had (by omega) (by omega) (by omega) t)
  rw [hZ] at C2
  clear hZ
  generalize runZ pub ad x I.toNat (K + N).toNat = R at *
  generalize runZ pub ad x I.toNat K.toNat = Y at *
  have q1 := eqD_self R HR.out.len
  refine (C1.out _ (Htab.out.below Hb.out)).mono ?_
  rintro e w1 ⟨rfl, bw1⟩
  have HBw1 := hid (Below.on Hb.out bw1)
  have hsw1 := HBw1.out.size
  have K0w1 := hid (K0.out.below bw1)
  have K1w1 := hid (K1.out.below bw1)
  have K2w1 := hid (K2.out.below bw1)
  clear bw1
  go_wp2_with (first
   | (refine wpList_store_blk rfl 26 _ _ rfl w1.heap.size (Y.map (Value.int .u8)).toArray rfl rfl _ 26 (Blk.new rfl (byteCells 32 []) _) 32 size_digest HzA.out HY.out.size (ints_one _ _) ?_
      intro w2 hbw2 hkw2
      have HBw2 := hid (hbw2.below (HBw1.out.alloc HBw1.out.size _) (by rw [World.size_alloc]; omega) HBw1.out.size)
      have Kyw2 := hid hkw2
      have K0w2 := hid (hbw2.blk (K0w1.out.old _) (Nat.ne_of_lt K0w1.out.lt))
      have K1w2 := hid (hbw2.blk (K1w1.out.old _) (Nat.ne_of_lt K1w1.out.lt))
      have K2w2 := hid (hbw2.blk (K2w1.out.old _) (Nat.ne_of_lt K2w1.out.lt))
      clear hbw2 hkw2)
   | (refine wpList_load_blk rfl 26 _ rfl (w1.heap.size) rfl _ 26 Kyw2.out _ Tryd.underlying26 rfl 32 size_digest HY.out.size ?_) | (refine wpList_load_blk rfl 26 _ rfl (w.heap.size) rfl _ 26 K0w2.out _ Tryd.underlying26 rfl 32 size_digest hx.size ?_) | (refine wpList_load_blk rfl 26 _ rfl (w.heap.size + 1) rfl _ 26 K1w2.out _ Tryd.underlying26 rfl 32 size_digest hpub.size ?_) | (refine wpList_load_blk rfl 45 _ rfl (w.heap.size + 1 + 1) rfl _ 45 K2w2.out _ Tryd.underlying45 rfl 8 sizeAdrs had.size ?_))
  refine (C2.out _ (Htab.out.below HBw2.out)).mono ?_
  rintro e w3 ⟨rfl, bw3⟩
  have HBw3 := hid (Below.on HBw2.out bw3)
  have hsw3 := HBw3.out.size
  have K0w3 := hid (K0w2.out.below bw3)
  have K1w3 := hid (K1w2.out.below bw3)
  have K2w3 := hid (K2w2.out.below bw3)
  clear bw3
  go_wp2_with (first
   | (refine wpList_store_blk rfl 26 _ _ rfl w3.heap.size (R.map (Value.int .u8)).toArray rfl rfl _ 26 (Blk.new rfl (byteCells 32 []) _) 32 size_digest HzA.out HR.out.size (ints_one _ _) ?_
      intro w4 hbw4 hkw4
      have HBw4 := hid (hbw4.below (HBw3.out.alloc HBw3.out.size _) (by rw [World.size_alloc]; omega) HBw3.out.size)
      have Kzw4 := hid hkw4
      have K0w4 := hid (hbw4.blk (K0w3.out.old _) (Nat.ne_of_lt K0w3.out.lt))
      have K1w4 := hid (hbw4.blk (K1w3.out.old _) (Nat.ne_of_lt K1w3.out.lt))
      have K2w4 := hid (hbw4.blk (K2w3.out.old _) (Nat.ne_of_lt K2w3.out.lt))
      clear hbw4 hkw4)
   | (refine wpList_load_blk rfl 26 _ rfl (w.heap.size) rfl _ 26 K0w4.out _ Tryd.underlying26 rfl 32 size_digest hx.size ?_) | (refine wpList_load_blk rfl 26 _ rfl (w.heap.size + 1) rfl _ 26 K1w4.out _ Tryd.underlying26 rfl 32 size_digest hpub.size ?_) | (refine wpList_load_blk rfl 45 _ rfl (w.heap.size + 1 + 1) rfl _ 45 K2w4.out _ Tryd.underlying45 rfl 8 sizeAdrs had.size ?_))
  refine (C3.out _ (Htab.out.below HBw4.out)).mono ?_
  rintro e w5 ⟨rfl, bw5⟩
  have HBw5 := hid (Below.on HBw4.out bw5)
  have hsw5 := HBw5.out.size
  have Kzw5 := hid (Kzw4.out.below bw5)
  clear bw5
  go_wp2_with (first
   | (refine wpList_store_blk rfl 26 _ _ rfl w5.heap.size (R.map (Value.int .u8)).toArray rfl rfl _ 26 (Blk.new rfl (byteCells 32 []) _) 32 size_digest HzA.out HR.out.size (ints_one _ _) ?_
      intro w6 hbw6 hkw6
      have HBw6 := hid (hbw6.below (HBw5.out.alloc HBw5.out.size _) (by rw [World.size_alloc]; omega) HBw5.out.size)
      have Kvw6 := hid hkw6
      have Kzw6 := hid (hbw6.blk (Kzw5.out.old _) (Nat.ne_of_lt Kzw5.out.lt))
      clear hbw6 hkw6)
   | (refine wpList_load_blk_if (by first | rfl | go_simp) 26 _ rfl (w3.heap.size) rfl _ 26 Kzw6.out _ Tryd.underlying26 rfl 32 size_digest HR.out.size ?_) | (refine wpList_load_blk_if (by first | rfl | go_simp) 26 _ rfl (w5.heap.size) rfl _ 26 Kvw6.out _ Tryd.underlying26 rfl 32 size_digest HR.out.size ?_))
  refine (knows07 _ (Htab.out.below HBw6.out)).mono ?_
  rintro e w7 ⟨rfl, bw7⟩
  have HBw7 := hid (Below.on HBw6.out bw7)
  have hsw7 := HBw7.out.size
  clear bw7
  go_wp2_with fail
  go_returns
  exact ⟨rfl, HBw7.out⟩
end Go.Proofs.YtkiaeepdpmcafaaDoor

/-
  ChainJoins returns true for every input, and leaves all that was there. No condition beside the package's tables, which the card ties to the program's text.
-/
namespace Go.Proofs.YtkiaeepdpmcafaaDoor.chainJoins
open Go.ChangeShapes Go.WideShapes Go.ChangeAt Go.RowKit

set_option maxRecDepth 100000 in
theorem lifted (os : Os) (started : os.Started) (H : Type) (enc : TypeId × Value → H) :
    ReturnsInHanded {} Tryd.checked os 11 .any (fun w args => (Rows.chainJoinsSpec.pre enc Tryd.prog Tryd.f11 [] false w args ∧ laidMetH Tryd.prog laid2 w) ∧ sizedMet enc Tryd.prog Tryd.f11 (OpenSpec.ofChange Rows.chainJoinsSpec) false w args) (Rows.chainJoinsSpec.post enc Tryd.prog Tryd.f11 false true false false) := by
  refine lift_tied (conds := []) started (by kernel_rfl) Tryd.func11 rfl (by kernel_rfl) (by kernel_rfl : Tryd.f11.resultTypes = #[4]) Tryd.underlying4
    (fun ds hds => by
      match ds, hds with
      | [d0, d1, d2, d3, d4, d5], _ => exact ⟨rfl, rfl, rfl⟩)
    (ChangeSpec.witness_shaped (enc := enc) (C := Tryd.checked) (os := os) (X := fun w _ => laidMetH Tryd.prog laid2 w) false (World.doorLaid Tryd.prog 19 os) #[.agg #[.int .u8 0, .int .u8 0, .int .u8 0, .int .u8 0, .int .u8 0, .int .u8 0, .int .u8 0, .int .u8 0, .int .u8 0, .int .u8 0, .int .u8 0, .int .u8 0, .int .u8 0, .int .u8 0, .int .u8 0, .int .u8 0, .int .u8 0, .int .u8 0, .int .u8 0, .int .u8 0, .int .u8 0, .int .u8 0, .int .u8 0, .int .u8 0, .int .u8 0, .int .u8 0, .int .u8 0, .int .u8 0, .int .u8 0, .int .u8 0, .int .u8 0, .int .u8 0], .int .u8 0, .int .u8 0, .int .u8 0, .agg #[.int .u8 0, .int .u8 0, .int .u8 0, .int .u8 0, .int .u8 0, .int .u8 0, .int .u8 0, .int .u8 0, .int .u8 0, .int .u8 0, .int .u8 0, .int .u8 0, .int .u8 0, .int .u8 0, .int .u8 0, .int .u8 0, .int .u8 0, .int .u8 0, .int .u8 0, .int .u8 0, .int .u8 0, .int .u8 0, .int .u8 0, .int .u8 0, .int .u8 0, .int .u8 0, .int .u8 0, .int .u8 0, .int .u8 0, .int .u8 0, .int .u8 0, .int .u8 0], .agg #[.int .u32 0, .int .u32 0, .int .u32 0, .int .u32 0, .int .u32 0, .int .u32 0, .int .u32 0, .int .u32 0]] 8 rfl (World.shaped_of_RefB (by kernel_rfl) (by kernel_rfl)) (by kernel_rfl) (by kernel_rfl) (by kernel_rfl) (door_met os _)) ?_
  intro W base args ds p hval hA hsz tab
  have hval : ∀ (j : Nat) t v, Tryd.f11.params[j]? = some t → args[j]? = some v → Value.okWide Tryd.prog W .any base t v := hval
  have hA : DataW.TrodAll enc Tryd.prog W 0 (fun _ => true) true Tryd.f11.params.toList args.toList ds p := hA
  have hsz : (DataW.weightsEach Tryd.prog Tryd.f11.params.toList ds).all (· ≤ reachBytes) = true := hsz
  rw [Tryd.params11] at hA hval hsz
  obtain ⟨v0, v1, v2, v3, v4, v5, d0, d1, d2, d3, d4, d5, p0, p1, p2, p3, p4, p5, rfl, rfl, rfl, h0, h1, h2, h3, h4, h5⟩ := trodAll_six hA
  obtain ⟨hw0, hsz⟩ := weights_cons hsz
  obtain ⟨hw1, hsz⟩ := weights_cons hsz
  obtain ⟨hw2, hsz⟩ := weights_cons hsz
  obtain ⟨hw3, hsz⟩ := weights_cons hsz
  obtain ⟨hw4, hsz⟩ := weights_cons hsz
  have hw5 := (weights_cons hsz).1
  obtain ⟨xs0, hx0, rfl, wf0⟩ := open_array_ints Tryd.underlying26 Tryd.underlying5 (by kernel_rfl) (by kernel_rfl) (hval 0 26 v0 rfl rfl) h0
  have wf0 := fun x h => wf_u8 (wf0 x h)
  obtain ⟨x1, rfl, rfl, rfl, wf1⟩ := open_int Tryd.underlying5 (hval 1 5 v1 rfl rfl) h1
  have wf1 := wf_u8 wf1
  obtain ⟨x2, rfl, rfl, rfl, wf2⟩ := open_int Tryd.underlying5 (hval 2 5 v2 rfl rfl) h2
  have wf2 := wf_u8 wf2
  obtain ⟨x3, rfl, rfl, rfl, wf3⟩ := open_int Tryd.underlying5 (hval 3 5 v3 rfl rfl) h3
  have wf3 := wf_u8 wf3
  obtain ⟨xs4, hx4, rfl, wf4⟩ := open_array_ints Tryd.underlying26 Tryd.underlying5 (by kernel_rfl) (by kernel_rfl) (hval 4 26 v4 rfl rfl) h4
  have wf4 := fun x h => wf_u8 (wf4 x h)
  obtain ⟨xs5, hx5, rfl, wf5⟩ := open_array_ints Tryd.underlying45 Tryd.underlying43 (by kernel_rfl) (by kernel_rfl) (hval 5 45 v5 rfl rfl) h5
  have wf5 := fun x h => wf_u32 (wf5 x h)
  exact chainJoins_walk xs0 xs4 xs5 x1 x2 x3 W tab ⟨hx0, wf0⟩ ⟨hx4, wf4⟩ ⟨hx5, wf5⟩ (by omega) (by omega) (by omega)

theorem over : Rows.chainJoinsRow.holds Tryd.pinned (OpenSpec.ofChange Rows.chainJoinsSpec) :=
  OpenClaim.holds_of_wide 11 Tryd.f11 rfl rfl rfl rfl rfl rfl rfl ⟨rfl, rfl, rfl, rfl, rfl⟩ rfl rfl rfl rfl rfl (by kernel_rfl) Tryd.func11 (by kernel_rfl)
    (of_decide_eq_true (by kernel_rfl)) (by unfold Func.isWrapper; first | (rw [if_pos (by decide +kernel)]; kernel_rfl) | (rw [if_neg (by decide +kernel)]; exact ⟨rfl, rfl⟩))
    (fun os started H enc _ => lifted os started H enc)

theorem proved : Rows.ChainJoinsCardSaid :=
  Claim7.holds_tied_plain_at .later [] [.data, .data] true (true, "dcd9bc4b9cdbc8b4050e4ced7aa4ae2acb6720869895b9499e61431c42bb3d58") false
    over (fun _ h => by cases h) (by kernel_rfl) (fun _ h => by cases h) chainJoins_row_tie rfl ⟨rfl, rfl⟩ (by kernel_rfl) rfl
    (fun f fn hf hfn => by
      obtain rfl : f = 11 := Option.some.inj ((show Tryd.prog.funcNamed Rows.chainJoinsRow.func = some 11 by kernel_rfl).symm.trans hf) |>.symm
      obtain rfl : fn = Tryd.f11 := (Option.some.inj (Tryd.func11.symm.trans hfn)).symm
      exact ⟨by kernel_rfl, fun j t ht => by
        rw [Tryd.params11] at ht
        have hm : t ∈ [26, 5, 5, 5, 26, 45] := by simpa using Array.mem_of_getElem? ht
        have hall : ([26, 5, 5, 5, 26, 45].all fun u => !Tryd.prog.wantsStandIn u) = true := by kernel_rfl
        exact (show Tryd.prog.wantsStandIn t = false by simpa using List.all_eq_true.1 hall t hm)⟩)
    (by kernel_rfl)
#print axioms proved
end Go.Proofs.YtkiaeepdpmcafaaDoor.chainJoins

