/-
  Layer 16: the rows of the document's examples.
-/
import Derived.Test.YtjkfbeillmeomaaDoorCommitRef
namespace Go.Proofs.YtjkfbeillmeomaaDoor
open Go.ChangeShapes Go.WideShapes Go.ChangeAt Go.RowKit

theorem conv_a (W : World) : (convert 81 81 (.slice (some ⟨W.heap.size, 0, none⟩) 1 1)).run Tryd.prog (W.alloc (.cells #[.int .u8 97] 5)) = .ok (.slice (some ⟨W.heap.size, 0, none⟩) 1 1) (W.alloc (.cells #[.int .u8 97] 5 (1, 2))) := by
  have h := Go.Lib.run_convert_bytes_const (P := Tryd.prog) W 81 5 #[.int .u8 97] 1 1 Tryd.underlying81 Tryd.underlying5
  simpa using h
theorem make_65 (w0 : World) : (Instr.makeSlice 81 (.int .i64 65) (.int .i64 65)).run Tryd.prog w0 = .ok (.slice (some ⟨w0.heap.size, 0, none⟩) 65 65) (w0.alloc (.cells (byteCells 65 []) 5)) := by
  obtain ⟨i0, hi, hz0, hz1, hz2⟩ := info_parts info_byte
  have hr := run_makeSlice (P := Tryd.prog) w0 81 5 i0 (.int .u8 0) Tryd.underlying81 hi hz0 .i64 .i64 65 65 (by omega) (by omega) (by rw [hz1]; decide) (by rw [hz2]; decide) (by omega)
  rw [hz1] at hr
  rw [hr, ← make_cells]; rfl

set_option maxHeartbeats 4000000 in
set_option maxRecDepth 100000 in
theorem knows16 (w : World) (tab : ShaTab w) : Calls Tryd.prog 55 #[] w fun e w' => e = .returned (.bool true) ∧ Below w.heap.size w w' := by
  have Hb := hid (Below.refl w.heap.size w)
  have HzA := hid zsize
  have Htab := hid tab
  clear tab
  have hcv := conv_a
  have hmk := make_65
  have HA0 := hid (Dg.nonce zD 1 [97])
  have HA1 := hid (Dg.idx (nonceZ zD 1 [97]) 1 [97])
  go_enter Tryd.func55, Tryd.ntmps55
  go_wp2_with fail
  refine (cindex_bad zD 1 none 0 0 _ Dg.zero (by omega)).mono ?_
  rintro e w1 ⟨rfl, bw1⟩
  have HBw1 := hid (Below.on Hb.out bw1)
  have hsw1 := HBw1.out.size
  clear bw1
  go_wp2_with (first
     | (
        refine wpList_store_blk rfl 23 _ _ rfl (w1.heap.size) (zD.map (Value.int .u8)).toArray rfl rfl _ 23 ((Blk.new rfl (byteCells 32 []) _).old _) 32 size_digest HzA.out Dg.zero.size (ints_one _ _) ?_
        intro w2 hbw2 hkw2
        have HBw2 := hid (hbw2.below ((HBw1.out.alloc HBw1.out.size _).alloc ((HBw1.out.alloc HBw1.out.size _)).size _) (by simp only [World.size_alloc]; omega) (by have := HBw1.out.size; omega))
        have hsw2 := HBw2.out.size
        have Kaw2 := hid hkw2
        have Kzbw2 := hid (hbw2.blk (b' := w1.heap.size + 1) (cs := byteCells 32 []) (T := 23) (Blk.new (by simp only [World.size_alloc]) (byteCells 32 []) _) (by omega))
        clear hbw2 hkw2)
     | (
        refine wpList_store_blk rfl 23 _ _ rfl (w1.heap.size + 1) (zD.map (Value.int .u8)).toArray rfl rfl _ 23 Kzbw2.out 32 size_digest HzA.out Dg.zero.size (ints_one _ _) ?_
        intro w3 hbw3 hkw3
        have HBw3 := hid (hbw3.below HBw2.out HBw2.out.size (by have := HBw1.out.size; omega))
        have hsw3 := HBw3.out.size
        have Kbw3 := hid hkw3
        have Kaw3 := hid (hbw3.blk Kaw2.out (by omega))
        clear hbw3 hkw3))
  have bAw3 := hid (HBw3.out.alloc HBw3.out.size (Obj.cells #[Value.int IntKind.u8 97] 5 (1, 2)))
  refine (cindex_bad zD 0 _ 1 1 _ Dg.zero (by omega)).mono ?_
  rintro e w4 ⟨rfl, bw4⟩
  have HBw4 := hid (Below.on bAw3.out bw4)
  have hsw4 := HBw4.out.size
  clear bw4
  go_wp2_with (first
     | (
        refine wpList_store_blk rfl 23 _ _ rfl (w4.heap.size) (zD.map (Value.int .u8)).toArray rfl rfl _ 23 ((Blk.new rfl (byteCells 32 []) _).old _) 32 size_digest HzA.out Dg.zero.size (ints_one _ _) ?_
        intro w5 hbw5 hkw5
        have HBw5 := hid (hbw5.below ((HBw4.out.alloc HBw4.out.size _).alloc ((HBw4.out.alloc HBw4.out.size _)).size _) (by simp only [World.size_alloc]; omega) (by have := HBw4.out.size; omega))
        have hsw5 := HBw5.out.size
        have Kaw5 := hid hkw5
        have Kzbw5 := hid (hbw5.blk (b' := w4.heap.size + 1) (cs := byteCells 32 []) (T := 23) (Blk.new (by simp only [World.size_alloc]) (byteCells 32 []) _) (by omega))
        clear hbw5 hkw5)
     | (
        refine wpList_store_blk rfl 23 _ _ rfl (w4.heap.size + 1) (zD.map (Value.int .u8)).toArray rfl rfl _ 23 Kzbw5.out 32 size_digest HzA.out Dg.zero.size (ints_one _ _) ?_
        intro w6 hbw6 hkw6
        have HBw6 := hid (hbw6.below HBw5.out HBw5.out.size (by have := HBw4.out.size; omega))
        have hsw6 := HBw6.out.size
        have Kbw6 := hid hkw6
        have Kaw6 := hid (hbw6.blk Kaw5.out (by omega))
        clear hbw6 hkw6))
  have bAw6 := hid (HBw6.out.alloc HBw6.out.size (.cells (byteCells 65 []) 5 (0, 0)))
  refine (cvalue_bad zD zD _ 65 65 _ Dg.zero Dg.zero (by omega)).mono ?_
  rintro e w7 ⟨rfl, bw7⟩
  have HBw7 := hid (Below.on bAw6.out bw7)
  have hsw7 := HBw7.out.size
  clear bw7
  go_wp2_with (first
     | (
        refine wpList_store_blk rfl 23 _ _ rfl (w7.heap.size) (zD.map (Value.int .u8)).toArray rfl rfl _ 23 ((Blk.new rfl (byteCells 32 []) _).old _) 32 size_digest HzA.out Dg.zero.size (ints_one _ _) ?_
        intro w8 hbw8 hkw8
        have HBw8 := hid (hbw8.below ((HBw7.out.alloc HBw7.out.size _).alloc ((HBw7.out.alloc HBw7.out.size _)).size _) (by simp only [World.size_alloc]; omega) (by have := HBw7.out.size; omega))
        have hsw8 := HBw8.out.size
        have Kaw8 := hid hkw8
        have Kzbw8 := hid (hbw8.blk (b' := w7.heap.size + 1) (cs := byteCells 32 []) (T := 23) (Blk.new (by simp only [World.size_alloc]) (byteCells 32 []) _) (by omega))
        clear hbw8 hkw8)
     | (
        refine wpList_store_blk rfl 23 _ _ rfl (w7.heap.size + 1) (zD.map (Value.int .u8)).toArray rfl rfl _ 23 Kzbw8.out 32 size_digest HzA.out Dg.zero.size (ints_one _ _) ?_
        intro w9 hbw9 hkw9
        have HBw9 := hid (hbw9.below HBw8.out HBw8.out.size (by have := HBw7.out.size; omega))
        have hsw9 := HBw9.out.size
        have Kbw9 := hid hkw9
        have Kaw9 := hid (hbw9.blk Kaw8.out (by omega))
        clear hbw9 hkw9))
  have hA4 := TextAt.made (w := w9) (bs := [97]) (n := 1) (T := 5) (1, 2) rfl (by omega) (by simp)
  have bAw9 := hid (HBw9.out.alloc HBw9.out.size (Obj.cells #[Value.int IntKind.u8 97] 5 (1, 2)))
  refine (cindex_good zD [97] 1 _ 1 1 _ Dg.zero hA4 (by omega) (by omega) (by omega) (Htab.out.below bAw9.out)).mono ?_
  rintro e w10 ⟨rfl, bw10⟩
  have HBw10 := hid (Below.on bAw9.out bw10)
  have hsw10 := HBw10.out.size
  clear bw10
  generalize hIZ : idxZ (nonceZ zD 1 [97]) 1 [97] = IZ at *
  generalize hNZ : nonceZ zD 1 [97] = NZ at *
  clear hA4
  go_wp2_with (first
     | (
        refine wpList_store_blk rfl 23 _ _ rfl (w10.heap.size) (IZ.map (Value.int .u8)).toArray rfl rfl _ 23 ((Blk.new rfl (byteCells 32 []) _).old _) 32 size_digest HzA.out HA1.out.size (ints_one _ _) ?_
        intro w11 hbw11 hkw11
        have HBw11 := hid (hbw11.below ((HBw10.out.alloc HBw10.out.size _).alloc ((HBw10.out.alloc HBw10.out.size _)).size _) (by simp only [World.size_alloc]; omega) (by have := HBw10.out.size; omega))
        have hsw11 := HBw11.out.size
        have Kiw11 := hid hkw11
        have Kznw11 := hid (hbw11.blk (b' := w10.heap.size + 1) (cs := byteCells 32 []) (T := 23) (Blk.new (by simp only [World.size_alloc]) (byteCells 32 []) _) (by omega))
        clear hbw11 hkw11)
     | (
        refine wpList_store_blk rfl 23 _ _ rfl (w10.heap.size + 1) (NZ.map (Value.int .u8)).toArray rfl rfl _ 23 Kznw11.out 32 size_digest HzA.out HA0.out.size (ints_one _ _) ?_
        intro w12 hbw12 hkw12
        have HBw12 := hid (hbw12.below HBw11.out HBw11.out.size (by have := HBw10.out.size; omega))
        have hsw12 := HBw12.out.size
        have Knw12 := hid hkw12
        have Kiw12 := hid (hbw12.blk Kiw11.out (by omega))
        clear hbw12 hkw12)
     | (refine wpList_load_blk_if (by first | rfl | go_simp) 23 _ rfl (w10.heap.size) rfl _ 23 Kiw12.out _ Tryd.underlying23 rfl 32 size_digest HA1.out.size ?_)
     | (refine wpList_load_blk_if (by first | rfl | go_simp) 23 _ rfl (w10.heap.size + 1) rfl _ 23 Knw12.out _ Tryd.underlying23 rfl 32 size_digest HA0.out.size ?_))
  have hA5 := TextAt.made (w := w12) (bs := [97]) (n := 1) (T := 5) (1, 2) rfl (by omega) (by simp)
  have bAw12 := hid (HBw12.out.alloc HBw12.out.size (Obj.cells #[Value.int IntKind.u8 97] 5 (1, 2)))
  have hIN : IZ = idxZ NZ 1 [97] := hIZ.symm
  have HIN := hid hIN
  clear hIN
  refine (cisindex_good IZ NZ [97] 1 _ 1 1 _ HA1.out HA0.out hA5 (by omega) (by omega) (by omega) (Htab.out.below bAw12.out)).mono ?_
  rintro e w13 ⟨rfl, bw13⟩
  have HBw13 := hid (Below.on bAw12.out bw13)
  have hsw13 := HBw13.out.size
  clear bw13
  rw [← HIN.out, decide_eq_true rfl]
  clear hA5
  go_wp2_with fail
  go_returns
  exact ⟨rfl, HBw13.out⟩

set_option maxHeartbeats 4000000 in
set_option maxRecDepth 100000 in
theorem commitI_long (key index nonce name : List Int) (v : Int) (a : Option Addr) (n c : Nat) (w : World) (tab : ShaTab w) (_hK : Dg key) (_hI : Dg index) (_hN : Dg nonce) (hT : TextAt w a n c name) (hn : 200 < n) :
    Calls Tryd.prog 15 #[(.agg (key.map (Value.int .u8)).toArray), (.agg (index.map (Value.int .u8)).toArray), (.agg (nonce.map (Value.int .u8)).toArray), .slice a n c, .int .i64 v] w fun e w' => e = .returned (.bool true) ∧ Below w.heap.size w w' := by
  have HT0 := hid hT
  have hle := hT.le
  have hmx := hT.max
  have hz9 := fun W => eqD_self zD Dg.zero.len W
  have hz8 := fun W => neD_self zD Dg.zero.len W
  have b1 := (Below.refl w.heap.size w).alloc (Nat.le_refl _) (.cells (key.map (Value.int .u8)).toArray 23 (0, 0))
  have b2 := b1.alloc b1.size (.cells (index.map (Value.int .u8)).toArray 23 (0, 0))
  have b3 := b2.alloc b2.size (.cells (nonce.map (Value.int .u8)).toArray 23 (0, 0))
  have K0 := hid (((Blk.new (w := w) (n := w.heap.size) rfl (key.map (Value.int .u8)).toArray 23).old (.cells (index.map (Value.int .u8)).toArray 23 (0, 0))).old (.cells (nonce.map (Value.int .u8)).toArray 23 (0, 0)))
  have K1 := hid ((Blk.new (w := (w.alloc (.cells (key.map (Value.int .u8)).toArray 23 (0, 0)))) (n := w.heap.size + 1) (by simp only [World.size_alloc]) (index.map (Value.int .u8)).toArray 23).old (.cells (nonce.map (Value.int .u8)).toArray 23 (0, 0)))
  have K2 := hid (Blk.new (w := ((w.alloc (.cells (key.map (Value.int .u8)).toArray 23 (0, 0))).alloc (.cells (index.map (Value.int .u8)).toArray 23 (0, 0)))) (n := w.heap.size + 1 + 1) (by simp only [World.size_alloc]) (nonce.map (Value.int .u8)).toArray 23)
  have Hb := hid b3
  have HzA := hid zsize
  have hbz := b3.size
  have Hbs := hid (show w.heap.size + 1 + 1 + 1 = (((w.alloc (.cells (key.map (Value.int .u8)).toArray 23 (0, 0))).alloc (.cells (index.map (Value.int .u8)).toArray 23 (0, 0))).alloc (.cells (nonce.map (Value.int .u8)).toArray 23 (0, 0))).heap.size by simp only [World.size_alloc])
  have Htab := hid tab
  clear b1 b2 b3 tab
  go_enter Tryd.func15, Tryd.ntmps15
  go_wp2_with fail
  refine (knows16 _ (Htab.out.below Hb.out)).mono ?_
  rintro e w1 ⟨rfl, bw1⟩
  have HBw1 := hid (Below.on Hb.out bw1)
  have hsw1 := HBw1.out.size
  have K0w1 := hid (K0.out.below bw1)
  have K1w1 := hid (K1.out.below bw1)
  have K2w1 := hid (K2.out.below bw1)
  clear bw1
  go_wp2_with fail
  go_returns
  exact ⟨rfl, HBw1.out⟩

set_option maxHeartbeats 4000000 in
set_option maxRecDepth 100000 in
theorem commitI_bad (key index nonce name : List Int) (v : Int) (a : Option Addr) (n c : Nat) (w : World) (tab : ShaTab w) (hK : Dg key) (hI : Dg index) (hN : Dg nonce) (hT : TextAt w a n c name) (hn200 : n ≤ 200) (hbad : (n = 0 ∨ 64 < n) ∨ v < 1) :
    Calls Tryd.prog 15 #[(.agg (key.map (Value.int .u8)).toArray), (.agg (index.map (Value.int .u8)).toArray), (.agg (nonce.map (Value.int .u8)).toArray), .slice a n c, .int .i64 v] w fun e w' => e = .returned (.bool true) ∧ Below w.heap.size w w' := by
  have HT0 := hid hT
  have hle := hT.le
  have hmx := hT.max
  have hz9 := fun W => eqD_self zD Dg.zero.len W
  have hz8 := fun W => neD_self zD Dg.zero.len W
  have hn2 : ¬ ((200 : Int) < (n : Int)) := by omega
  have q1 : ∀ W : World, (binOp .eql 23 (.agg (zD.map (Value.int .u8)).toArray) (.agg #[.int .u8 0, .int .u8 0, .int .u8 0, .int .u8 0, .int .u8 0, .int .u8 0, .int .u8 0, .int .u8 0, .int .u8 0, .int .u8 0, .int .u8 0, .int .u8 0, .int .u8 0, .int .u8 0, .int .u8 0, .int .u8 0, .int .u8 0, .int .u8 0, .int .u8 0, .int .u8 0, .int .u8 0, .int .u8 0, .int .u8 0, .int .u8 0, .int .u8 0, .int .u8 0, .int .u8 0, .int .u8 0, .int .u8 0, .int .u8 0, .int .u8 0, .int .u8 0])).run Tryd.prog W = .ok (.bool true) W := eqD_self zD Dg.zero.len
  have q2 : ∀ W : World, (binOp .neq 23 (.agg (zD.map (Value.int .u8)).toArray) (.agg #[.int .u8 0, .int .u8 0, .int .u8 0, .int .u8 0, .int .u8 0, .int .u8 0, .int .u8 0, .int .u8 0, .int .u8 0, .int .u8 0, .int .u8 0, .int .u8 0, .int .u8 0, .int .u8 0, .int .u8 0, .int .u8 0, .int .u8 0, .int .u8 0, .int .u8 0, .int .u8 0, .int .u8 0, .int .u8 0, .int .u8 0, .int .u8 0, .int .u8 0, .int .u8 0, .int .u8 0, .int .u8 0, .int .u8 0, .int .u8 0, .int .u8 0, .int .u8 0])).run Tryd.prog W = .ok (.bool false) W := neD_self zD Dg.zero.len
  have b1 := (Below.refl w.heap.size w).alloc (Nat.le_refl _) (.cells (key.map (Value.int .u8)).toArray 23 (0, 0))
  have b2 := b1.alloc b1.size (.cells (index.map (Value.int .u8)).toArray 23 (0, 0))
  have b3 := b2.alloc b2.size (.cells (nonce.map (Value.int .u8)).toArray 23 (0, 0))
  have K0 := hid (((Blk.new (w := w) (n := w.heap.size) rfl (key.map (Value.int .u8)).toArray 23).old (.cells (index.map (Value.int .u8)).toArray 23 (0, 0))).old (.cells (nonce.map (Value.int .u8)).toArray 23 (0, 0)))
  have K1 := hid ((Blk.new (w := (w.alloc (.cells (key.map (Value.int .u8)).toArray 23 (0, 0)))) (n := w.heap.size + 1) (by simp only [World.size_alloc]) (index.map (Value.int .u8)).toArray 23).old (.cells (nonce.map (Value.int .u8)).toArray 23 (0, 0)))
  have K2 := hid (Blk.new (w := ((w.alloc (.cells (key.map (Value.int .u8)).toArray 23 (0, 0))).alloc (.cells (index.map (Value.int .u8)).toArray 23 (0, 0)))) (n := w.heap.size + 1 + 1) (by simp only [World.size_alloc]) (nonce.map (Value.int .u8)).toArray 23)
  have Hb := hid b3
  have HzA := hid zsize
  have hbz := b3.size
  have Hbs := hid (show w.heap.size + 1 + 1 + 1 = (((w.alloc (.cells (key.map (Value.int .u8)).toArray 23 (0, 0))).alloc (.cells (index.map (Value.int .u8)).toArray 23 (0, 0))).alloc (.cells (nonce.map (Value.int .u8)).toArray 23 (0, 0))).heap.size by simp only [World.size_alloc])
  have Htab := hid tab
  clear b1 b2 b3 tab
  go_enter Tryd.func15, Tryd.ntmps15
  go_wp2_with (refine wpList_load_blk rfl 23 _ rfl (w.heap.size) rfl _ 23 K0.out _ Tryd.underlying23 rfl 32 size_digest hK.size ?_)
  refine (cindex_bad key v a n c _ hK hbad).mono ?_
  rintro e w1 ⟨rfl, bw1⟩
  have HBw1 := hid (Below.on Hb.out bw1)
  have hsw1 := HBw1.out.size
  have K0w1 := hid (K0.out.below bw1)
  have K1w1 := hid (K1.out.below bw1)
  have K2w1 := hid (K2.out.below bw1)
  clear bw1
  have hl0w1 := K0w1.out.lt
  have hl1w1 := K1w1.out.lt
  have hl2w1 := K2w1.out.lt
  go_wp2_with (first
     | (
        refine wpList_store_blk rfl 23 _ _ rfl (w1.heap.size) (zD.map (Value.int .u8)).toArray rfl rfl _ 23 ((Blk.new rfl (byteCells 32 []) _).old _) 32 size_digest HzA.out Dg.zero.size (ints_one _ _) ?_
        intro w2 hbw2 hkw2
        have HBw2 := hid (hbw2.below ((HBw1.out.alloc HBw1.out.size _).alloc ((HBw1.out.alloc HBw1.out.size _)).size _) (by simp only [World.size_alloc]; omega) (by have := HBw1.out.size; omega))
        have hsw2 := HBw2.out.size
        have Kiw2 := hid hkw2
        have K0w2 := hid (hbw2.blk ((K0w1.out.old _).old _) (by have := K0w1.out.lt; omega))
        have K1w2 := hid (hbw2.blk ((K1w1.out.old _).old _) (by have := K1w1.out.lt; omega))
        have K2w2 := hid (hbw2.blk ((K2w1.out.old _).old _) (by have := K2w1.out.lt; omega))
        have Kznw2 := hid (hbw2.blk (b' := w1.heap.size + 1) (cs := byteCells 32 []) (T := 23) (Blk.new (by simp only [World.size_alloc]) (byteCells 32 []) _) (by omega))
        clear hbw2 hkw2)
     | (
        refine wpList_store_blk rfl 23 _ _ rfl (w1.heap.size + 1) (zD.map (Value.int .u8)).toArray rfl rfl _ 23 Kznw2.out 32 size_digest HzA.out Dg.zero.size (ints_one _ _) ?_
        intro w3 hbw3 hkw3
        have HBw3 := hid (hbw3.below HBw2.out HBw2.out.size (by have := HBw1.out.size; omega))
        have hsw3 := HBw3.out.size
        have Knw3 := hid hkw3
        have K0w3 := hid (hbw3.blk K0w2.out (by have := K0w2.out.lt; omega))
        have K1w3 := hid (hbw3.blk K1w2.out (by have := K1w2.out.lt; omega))
        have K2w3 := hid (hbw3.blk K2w2.out (by have := K2w2.out.lt; omega))
        have Kiw3 := hid (hbw3.blk Kiw2.out (by omega))
        clear hbw3 hkw3))
  refine (may_f a n c v hbad _).mono ?_
  rintro e wm ⟨rfl, rfl⟩
  go_wp2_with fail
  refine wp_region_flow 15 (List.range 15) [] [] (by kernel_rfl) (by kernel_rfl) ?_
  apply Exists.intro
  refine ⟨fun w0 hb0 hF0 => ?_, ?_⟩
  · skip
    have x0 : ∀ w', (∃ x : Ext w0, w' = x.at_) → ∃ T, Blk w' (w.heap.size + 1) (index.map (Value.int .u8)).toArray T := fun w' ⟨x, hx⟩ => ⟨_, hx ▸ (K1w3.out.below hb0).below x.same⟩
    have x1 : ∀ w', (∃ x : Ext w0, w' = x.at_) → ∃ T, Blk w' (w.heap.size + 1 + 1) (nonce.map (Value.int .u8)).toArray T := fun w' ⟨x, hx⟩ => ⟨_, hx ▸ (K2w3.out.below hb0).below x.same⟩
    have c0 := fun e : Ext w0 => cisindex_bad index nonce v a n c e.at_ hI hN hbad
    simp only [pick, List.range, List.range.loop, List.getElem?_toArray, List.getElem?_cons_succ, List.getElem?_cons_zero, Option.toList_some, List.cons_append, List.nil_append]
    repeat (first | (go_big_quiet_want; refine quiet_load_blk 23 _ rfl (w.heap.size + 1) rfl _ x0 _ Tryd.underlying23 rfl 32 size_digest hI.size ?_; go_big_quiet_on; simp only [Act.put, List.setIfInBounds_toArray, List.set_cons_zero, List.set_cons_succ]) | (go_big_quiet_want; refine quiet_load_blk 23 _ rfl (w.heap.size + 1 + 1) rfl _ x1 _ Tryd.underlying23 rfl 32 size_digest hN.size ?_; go_big_quiet_on; simp only [Act.put, List.setIfInBounds_toArray, List.set_cons_zero, List.set_cons_succ]) | go_big_quiet_step (first | (go_at_call 58; with_reducible exact Calls.ext (c0 _))))
    exact wpQuiet_nil rfl
  refine AlChk.nil ?_
  refine Walk.fin fun w4 hw4 _ _ => ?_
  simp only [List.drop_succ_cons, List.drop_zero]
  have HBw4 := hid (Below.on HBw3.out hw4)
  have hsw4 := HBw4.out.size
  have K0w4 := hid (K0w3.out.below hw4)
  have K1w4 := hid (K1w3.out.below hw4)
  have K2w4 := hid (K2w3.out.below hw4)
  have Kiw4 := hid (Kiw3.out.below hw4)
  have Knw4 := hid (Knw3.out.below hw4)
  clear hw4
  go_wp2_with (refine wpList_load_blk rfl 23 _ rfl (w.heap.size + 1 + 1) rfl _ 23 K2w4.out _ Tryd.underlying23 rfl 32 size_digest hN.size ?_)
  refine (cfrom_bad nonce v a n c _ hN hbad).mono ?_
  rintro e w5 ⟨rfl, bw5⟩
  have HBw5 := hid (Below.on HBw4.out bw5)
  have hsw5 := HBw5.out.size
  have K0w5 := hid (K0w4.out.below bw5)
  have K1w5 := hid (K1w4.out.below bw5)
  have K2w5 := hid (K2w4.out.below bw5)
  have Kiw5 := hid (Kiw4.out.below bw5)
  have Knw5 := hid (Knw4.out.below bw5)
  clear bw5
  go_wp2_with (
        refine wpList_store_blk rfl 23 _ _ rfl (w5.heap.size) (zD.map (Value.int .u8)).toArray rfl rfl _ 23 (Blk.new rfl (byteCells 32 []) _) 32 size_digest HzA.out Dg.zero.size (ints_one _ _) ?_
        intro w6 hbw6 hkw6
        have HBw6 := hid (hbw6.below (HBw5.out.alloc HBw5.out.size _) (by simp only [World.size_alloc]; omega) (by have := HBw5.out.size; omega))
        have hsw6 := HBw6.out.size
        have Kxw6 := hid hkw6
        have K0w6 := hid (hbw6.blk (K0w5.out.old _) (by have := K0w5.out.lt; omega))
        have K1w6 := hid (hbw6.blk (K1w5.out.old _) (by have := K1w5.out.lt; omega))
        have K2w6 := hid (hbw6.blk (K2w5.out.old _) (by have := K2w5.out.lt; omega))
        have Kiw6 := hid (hbw6.blk (Kiw5.out.old _) (by have := Kiw5.out.lt; omega))
        have Knw6 := hid (hbw6.blk (Knw5.out.old _) (by have := Knw5.out.lt; omega))
        clear hbw6 hkw6)
  refine wp_region_flow 26 (List.range 26) [] [] (by kernel_rfl) (by kernel_rfl) ?_
  apply Exists.intro
  refine ⟨fun w0 hb0 hF0 => ?_, ?_⟩
  · skip
    have x0 : ∀ w', (∃ x : Ext w0, w' = x.at_) → ∃ T, Blk w' (w.heap.size + 1 + 1) (nonce.map (Value.int .u8)).toArray T := fun w' ⟨x, hx⟩ => ⟨_, hx ▸ (K2w6.out.below hb0).below x.same⟩
    have x1 : ∀ w', (∃ x : Ext w0, w' = x.at_) → ∃ T, Blk w' (w5.heap.size) (zD.map (Value.int .u8)).toArray T := fun w' ⟨x, hx⟩ => ⟨_, hx ▸ (Kxw6.out.below hb0).below x.same⟩
    simp only [pick, List.range, List.range.loop, List.getElem?_toArray, List.getElem?_cons_succ, List.getElem?_cons_zero, Option.toList_some, List.cons_append, List.nil_append]
    repeat (first | (go_big_quiet_want; refine quiet_load_blk 23 _ rfl (w.heap.size + 1 + 1) rfl _ x0 _ Tryd.underlying23 rfl 32 size_digest hN.size ?_; go_big_quiet_on; simp only [Act.put, List.setIfInBounds_toArray, List.set_cons_zero, List.set_cons_succ]) | (go_big_quiet_want; refine quiet_load_blk 23 _ rfl (w5.heap.size) rfl _ x1 _ Tryd.underlying23 rfl 32 size_digest Dg.zero.size ?_; go_big_quiet_on; simp only [Act.put, List.setIfInBounds_toArray, List.set_cons_zero, List.set_cons_succ]) | go_big_quiet_step (fail))
    exact wpQuiet_nil rfl
  refine AlChk.nil ?_
  refine Walk.fin fun w7 hw7 _ _ => ?_
  simp only [List.drop_succ_cons, List.drop_zero]
  have HBw7 := hid (Below.on HBw6.out hw7)
  have hsw7 := HBw7.out.size
  have K0w7 := hid (K0w6.out.below hw7)
  have K1w7 := hid (K1w6.out.below hw7)
  have K2w7 := hid (K2w6.out.below hw7)
  have Kiw7 := hid (Kiw6.out.below hw7)
  have Knw7 := hid (Knw6.out.below hw7)
  have Kxw7 := hid (Kxw6.out.below hw7)
  clear hw7
  go_wp2_with (first
     | (refine wpList_load_blk rfl 23 _ rfl (w1.heap.size) rfl _ 23 Kiw7.out _ Tryd.underlying23 rfl 32 size_digest Dg.zero.size ?_)
     | (refine wpList_load_blk_if (by first | rfl | go_simp) 23 _ rfl (w1.heap.size) rfl _ 23 Kiw7.out _ Tryd.underlying23 rfl 32 size_digest Dg.zero.size ?_)
     | (refine wpList_load_blk_if (by first | rfl | go_simp) 23 _ rfl (w1.heap.size + 1) rfl _ 23 Knw7.out _ Tryd.underlying23 rfl 32 size_digest Dg.zero.size ?_))
  refine (cisindex_bad zD zD v a n c _ Dg.zero Dg.zero hbad).mono ?_
  rintro e w8 ⟨rfl, bw8⟩
  have HBw8 := hid (Below.on HBw7.out bw8)
  have hsw8 := HBw8.out.size
  have K0w8 := hid (K0w7.out.below bw8)
  have K1w8 := hid (K1w7.out.below bw8)
  have K2w8 := hid (K2w7.out.below bw8)
  have Kiw8 := hid (Kiw7.out.below bw8)
  have Knw8 := hid (Knw7.out.below bw8)
  have Kxw8 := hid (Kxw7.out.below bw8)
  clear bw8
  go_wp2_with fail
  refine (knows16 _ (Htab.out.below HBw8.out)).mono ?_
  rintro e w9 ⟨rfl, bw9⟩
  have HBw9 := hid (Below.on HBw8.out bw9)
  have hsw9 := HBw9.out.size
  have K0w9 := hid (K0w8.out.below bw9)
  have K1w9 := hid (K1w8.out.below bw9)
  have K2w9 := hid (K2w8.out.below bw9)
  have Kiw9 := hid (Kiw8.out.below bw9)
  have Knw9 := hid (Knw8.out.below bw9)
  have Kxw9 := hid (Kxw8.out.below bw9)
  clear bw9
  go_wp2_with fail
  go_returns
  exact ⟨rfl, HBw9.out⟩

set_option maxHeartbeats 4000000 in
set_option maxRecDepth 100000 in
theorem commitI_good (key index nonce name : List Int) (v : Int) (a : Option Addr) (n c : Nat) (w : World) (tab : ShaTab w) (hK : Dg key) (hI : Dg index) (hN : Dg nonce) (hT : TextAt w a n c name) (hn : 1 ≤ n ∧ n ≤ 64) (hv0 : 1 ≤ v) (hv1 : v < 9223372036854775808) :
    Calls Tryd.prog 15 #[(.agg (key.map (Value.int .u8)).toArray), (.agg (index.map (Value.int .u8)).toArray), (.agg (nonce.map (Value.int .u8)).toArray), .slice a n c, .int .i64 v] w fun e w' => e = .returned (.bool true) ∧ Below w.heap.size w w' := by
  have HT0 := hid hT
  have hle := hT.le
  have hmx := hT.max
  have hz9 := fun W => eqD_self zD Dg.zero.len W
  have hz8 := fun W => neD_self zD Dg.zero.len W
  have hn2 : ¬ ((200 : Int) < (n : Int)) := by omega
  have b1 := (Below.refl w.heap.size w).alloc (Nat.le_refl _) (.cells (key.map (Value.int .u8)).toArray 23 (0, 0))
  have b2 := b1.alloc b1.size (.cells (index.map (Value.int .u8)).toArray 23 (0, 0))
  have b3 := b2.alloc b2.size (.cells (nonce.map (Value.int .u8)).toArray 23 (0, 0))
  have K0 := hid (((Blk.new (w := w) (n := w.heap.size) rfl (key.map (Value.int .u8)).toArray 23).old (.cells (index.map (Value.int .u8)).toArray 23 (0, 0))).old (.cells (nonce.map (Value.int .u8)).toArray 23 (0, 0)))
  have K1 := hid ((Blk.new (w := (w.alloc (.cells (key.map (Value.int .u8)).toArray 23 (0, 0)))) (n := w.heap.size + 1) (by simp only [World.size_alloc]) (index.map (Value.int .u8)).toArray 23).old (.cells (nonce.map (Value.int .u8)).toArray 23 (0, 0)))
  have K2 := hid (Blk.new (w := ((w.alloc (.cells (key.map (Value.int .u8)).toArray 23 (0, 0))).alloc (.cells (index.map (Value.int .u8)).toArray 23 (0, 0)))) (n := w.heap.size + 1 + 1) (by simp only [World.size_alloc]) (nonce.map (Value.int .u8)).toArray 23)
  have Hb := hid b3
  have HzA := hid zsize
  have hbz := b3.size
  have Hbs := hid (show w.heap.size + 1 + 1 + 1 = (((w.alloc (.cells (key.map (Value.int .u8)).toArray 23 (0, 0))).alloc (.cells (index.map (Value.int .u8)).toArray 23 (0, 0))).alloc (.cells (nonce.map (Value.int .u8)).toArray 23 (0, 0))).heap.size by simp only [World.size_alloc])
  have Htab := hid tab
  clear b1 b2 b3 tab
  go_enter Tryd.func15, Tryd.ntmps15
  go_wp2_with (refine wpList_load_blk rfl 23 _ rfl (w.heap.size) rfl _ 23 K0.out _ Tryd.underlying23 rfl 32 size_digest hK.size ?_)
  refine (cindex_good key name v a n c _ hK (HT0.out.below Hb.out) hn hv0 hv1 (Htab.out.below Hb.out)).mono ?_
  rintro e w1 ⟨rfl, bw1⟩
  have HBw1 := hid (Below.on Hb.out bw1)
  have hsw1 := HBw1.out.size
  have K0w1 := hid (K0.out.below bw1)
  have K1w1 := hid (K1.out.below bw1)
  have K2w1 := hid (K2.out.below bw1)
  clear bw1
  have HA0 := hid (Dg.nonce key v name)
  have HA1 := hid (Dg.idx (nonceZ key v name) v name)
  have HX := hid (Dg.idx nonce v name)
  have HX2 := hid (rfl : idxZ (nonceZ key v name) v name = idxZ (nonceZ key v name) v name)
  have CR := hid (fun (W : World) (hT : TextAt W a n c name) => refcindex_any key name v a n c W hK hT (by omega) (by omega) hv1)
  have CI := hid (fun (W : World) (hT : TextAt W a n c name) (t : ShaTab W) => cisindex_good index nonce name v a n c W hI hN hT hn hv0 hv1 t)
  have CF := hid (fun (W : World) (hT : TextAt W a n c name) => refcfrom_any nonce name v a n c W hN hT (by omega) (by omega) hv1)
  have CG := hid (fun (W : World) (hT : TextAt W a n c name) (t : ShaTab W) => cfrom_good nonce name v a n c W hN hT hn hv0 hv1 t)
  have CJ := hid (fun (W : World) (hT : TextAt W a n c name) (t : ShaTab W) => cisindex_good (idxZ (nonceZ key v name) v name) (nonceZ key v name) name v a n c W HA1.out HA0.out hT hn hv0 hv1 t)
  rw [decide_eq_true rfl] at CJ
  clear HX2
  generalize idxZ (nonceZ key v name) v name = I0 at *
  generalize nonceZ key v name = N0 at *
  generalize idxZ nonce v name = X0 at *
  have p1 := fun W => eqD index X0 hI.len HX.out.len W
  have p2 := fun W => neD_self X0 HX.out.len W
  have p3 := fun W => eqD_self I0 HA1.out.len W
  have p4 := fun W => eqD_self N0 HA0.out.len W
  have hl0w1 := K0w1.out.lt
  have hl1w1 := K1w1.out.lt
  have hl2w1 := K2w1.out.lt
  go_wp2_with (first
     | (
        refine wpList_store_blk rfl 23 _ _ rfl (w1.heap.size) (I0.map (Value.int .u8)).toArray rfl rfl _ 23 ((Blk.new rfl (byteCells 32 []) _).old _) 32 size_digest HzA.out HA1.out.size (ints_one _ _) ?_
        intro w2 hbw2 hkw2
        have HBw2 := hid (hbw2.below ((HBw1.out.alloc HBw1.out.size _).alloc ((HBw1.out.alloc HBw1.out.size _)).size _) (by simp only [World.size_alloc]; omega) (by have := HBw1.out.size; omega))
        have hsw2 := HBw2.out.size
        have Kiw2 := hid hkw2
        have K0w2 := hid (hbw2.blk ((K0w1.out.old _).old _) (by have := K0w1.out.lt; omega))
        have K1w2 := hid (hbw2.blk ((K1w1.out.old _).old _) (by have := K1w1.out.lt; omega))
        have K2w2 := hid (hbw2.blk ((K2w1.out.old _).old _) (by have := K2w1.out.lt; omega))
        have Kznw2 := hid (hbw2.blk (b' := w1.heap.size + 1) (cs := byteCells 32 []) (T := 23) (Blk.new (by simp only [World.size_alloc]) (byteCells 32 []) _) (by omega))
        clear hbw2 hkw2)
     | (
        refine wpList_store_blk rfl 23 _ _ rfl (w1.heap.size + 1) (N0.map (Value.int .u8)).toArray rfl rfl _ 23 Kznw2.out 32 size_digest HzA.out HA0.out.size (ints_one _ _) ?_
        intro w3 hbw3 hkw3
        have HBw3 := hid (hbw3.below HBw2.out HBw2.out.size (by have := HBw1.out.size; omega))
        have hsw3 := HBw3.out.size
        have Knw3 := hid hkw3
        have K0w3 := hid (hbw3.blk K0w2.out (by have := K0w2.out.lt; omega))
        have K1w3 := hid (hbw3.blk K1w2.out (by have := K1w2.out.lt; omega))
        have K2w3 := hid (hbw3.blk K2w2.out (by have := K2w2.out.lt; omega))
        have Kiw3 := hid (hbw3.blk Kiw2.out (by omega))
        clear hbw3 hkw3))
  refine (may_t a n c v hn.1 hn.2 hv0 _).mono ?_
  rintro e wm ⟨rfl, rfl⟩
  go_wp2_with fail
  refine wp_region_flow 15 (List.range 15) [] [] (by kernel_rfl) (by kernel_rfl) ?_
  apply Exists.intro
  refine ⟨fun w0 hb0 hF0 => ?_, ?_⟩
  · skip
    have x0 : ∀ w', (∃ x : Ext w0, w' = x.at_) → ∃ T, Blk w' (w.heap.size + 1) (index.map (Value.int .u8)).toArray T := fun w' ⟨x, hx⟩ => ⟨_, hx ▸ (K1w3.out.below hb0).below x.same⟩
    have x1 : ∀ w', (∃ x : Ext w0, w' = x.at_) → ∃ T, Blk w' (w.heap.size + 1 + 1) (nonce.map (Value.int .u8)).toArray T := fun w' ⟨x, hx⟩ => ⟨_, hx ▸ (K2w3.out.below hb0).below x.same⟩
    have c0 := fun e : Ext w0 => CI.out e.at_ ((HT0.out.below (Below.on HBw3.out hb0)).below e.same) ((Htab.out.below (Below.on HBw3.out hb0)).below e.same)
    have c1 := fun e : Ext w0 => CF.out e.at_ ((HT0.out.below (Below.on HBw3.out hb0)).below e.same)
    simp only [pick, List.range, List.range.loop, List.getElem?_toArray, List.getElem?_cons_succ, List.getElem?_cons_zero, Option.toList_some, List.cons_append, List.nil_append]
    repeat (first | (go_big_quiet_want; refine quiet_load_blk 23 _ rfl (w.heap.size + 1) rfl _ x0 _ Tryd.underlying23 rfl 32 size_digest hI.size ?_; go_big_quiet_on; simp only [Act.put, List.setIfInBounds_toArray, List.set_cons_zero, List.set_cons_succ]) | (go_big_quiet_want; refine quiet_load_blk 23 _ rfl (w.heap.size + 1 + 1) rfl _ x1 _ Tryd.underlying23 rfl 32 size_digest hN.size ?_; go_big_quiet_on; simp only [Act.put, List.setIfInBounds_toArray, List.set_cons_zero, List.set_cons_succ]) | go_big_quiet_step (first | (go_at_call 58; with_reducible exact Calls.ext (c0 _)) | (go_at_call 59; with_reducible exact Calls.ext (c1 _))))
    exact wpQuiet_nil rfl
  refine AlChk.nil ?_
  refine Walk.fin fun w4 hw4 _ _ => ?_
  simp only [List.drop_succ_cons, List.drop_zero]
  have HBw4 := hid (Below.on HBw3.out hw4)
  have hsw4 := HBw4.out.size
  have K0w4 := hid (K0w3.out.below hw4)
  have K1w4 := hid (K1w3.out.below hw4)
  have K2w4 := hid (K2w3.out.below hw4)
  have Kiw4 := hid (Kiw3.out.below hw4)
  have Knw4 := hid (Knw3.out.below hw4)
  clear hw4
  go_wp2_with (refine wpList_load_blk rfl 23 _ rfl (w.heap.size + 1 + 1) rfl _ 23 K2w4.out _ Tryd.underlying23 rfl 32 size_digest hN.size ?_)
  refine (CG.out _ (HT0.out.below HBw4.out) (Htab.out.below HBw4.out)).mono ?_
  rintro e w5 ⟨rfl, bw5⟩
  have HBw5 := hid (Below.on HBw4.out bw5)
  have hsw5 := HBw5.out.size
  have K0w5 := hid (K0w4.out.below bw5)
  have K1w5 := hid (K1w4.out.below bw5)
  have K2w5 := hid (K2w4.out.below bw5)
  have Kiw5 := hid (Kiw4.out.below bw5)
  have Knw5 := hid (Knw4.out.below bw5)
  clear bw5
  go_wp2_with (
        refine wpList_store_blk rfl 23 _ _ rfl (w5.heap.size) (X0.map (Value.int .u8)).toArray rfl rfl _ 23 (Blk.new rfl (byteCells 32 []) _) 32 size_digest HzA.out HX.out.size (ints_one _ _) ?_
        intro w6 hbw6 hkw6
        have HBw6 := hid (hbw6.below (HBw5.out.alloc HBw5.out.size _) (by simp only [World.size_alloc]; omega) (by have := HBw5.out.size; omega))
        have hsw6 := HBw6.out.size
        have Kxw6 := hid hkw6
        have K0w6 := hid (hbw6.blk (K0w5.out.old _) (by have := K0w5.out.lt; omega))
        have K1w6 := hid (hbw6.blk (K1w5.out.old _) (by have := K1w5.out.lt; omega))
        have K2w6 := hid (hbw6.blk (K2w5.out.old _) (by have := K2w5.out.lt; omega))
        have Kiw6 := hid (hbw6.blk (Kiw5.out.old _) (by have := Kiw5.out.lt; omega))
        have Knw6 := hid (hbw6.blk (Knw5.out.old _) (by have := Knw5.out.lt; omega))
        clear hbw6 hkw6)
  refine wp_region_flow 26 (List.range 26) [] [] (by kernel_rfl) (by kernel_rfl) ?_
  apply Exists.intro
  refine ⟨fun w0 hb0 hF0 => ?_, ?_⟩
  · skip
    have x0 : ∀ w', (∃ x : Ext w0, w' = x.at_) → ∃ T, Blk w' (w.heap.size + 1 + 1) (nonce.map (Value.int .u8)).toArray T := fun w' ⟨x, hx⟩ => ⟨_, hx ▸ (K2w6.out.below hb0).below x.same⟩
    have x1 : ∀ w', (∃ x : Ext w0, w' = x.at_) → ∃ T, Blk w' (w5.heap.size) (X0.map (Value.int .u8)).toArray T := fun w' ⟨x, hx⟩ => ⟨_, hx ▸ (Kxw6.out.below hb0).below x.same⟩
    have c0 := fun e : Ext w0 => CF.out e.at_ ((HT0.out.below (Below.on HBw6.out hb0)).below e.same)
    simp only [pick, List.range, List.range.loop, List.getElem?_toArray, List.getElem?_cons_succ, List.getElem?_cons_zero, Option.toList_some, List.cons_append, List.nil_append]
    repeat (first | (go_big_quiet_want; refine quiet_load_blk 23 _ rfl (w.heap.size + 1 + 1) rfl _ x0 _ Tryd.underlying23 rfl 32 size_digest hN.size ?_; go_big_quiet_on; simp only [Act.put, List.setIfInBounds_toArray, List.set_cons_zero, List.set_cons_succ]) | (go_big_quiet_want; refine quiet_load_blk 23 _ rfl (w5.heap.size) rfl _ x1 _ Tryd.underlying23 rfl 32 size_digest HX.out.size ?_; go_big_quiet_on; simp only [Act.put, List.setIfInBounds_toArray, List.set_cons_zero, List.set_cons_succ]) | go_big_quiet_step (first | (go_at_call 59; with_reducible exact Calls.ext (c0 _))))
    exact wpQuiet_nil rfl
  refine AlChk.nil ?_
  refine Walk.fin fun w7 hw7 _ _ => ?_
  simp only [List.drop_succ_cons, List.drop_zero]
  have HBw7 := hid (Below.on HBw6.out hw7)
  have hsw7 := HBw7.out.size
  have K0w7 := hid (K0w6.out.below hw7)
  have K1w7 := hid (K1w6.out.below hw7)
  have K2w7 := hid (K2w6.out.below hw7)
  have Kiw7 := hid (Kiw6.out.below hw7)
  have Knw7 := hid (Knw6.out.below hw7)
  have Kxw7 := hid (Kxw6.out.below hw7)
  clear hw7
  go_wp2_with (refine wpList_load_blk rfl 23 _ rfl (w.heap.size) rfl _ 23 K0w7.out _ Tryd.underlying23 rfl 32 size_digest hK.size ?_)
  refine (CR.out _ (HT0.out.below HBw7.out)).mono ?_
  rintro e w8 ⟨rfl, bw8⟩
  have HBw8 := hid (Below.on HBw7.out bw8)
  have hsw8 := HBw8.out.size
  have K0w8 := hid (K0w7.out.below bw8)
  have K1w8 := hid (K1w7.out.below bw8)
  have K2w8 := hid (K2w7.out.below bw8)
  have Kiw8 := hid (Kiw7.out.below bw8)
  have Knw8 := hid (Knw7.out.below bw8)
  have Kxw8 := hid (Kxw7.out.below bw8)
  clear bw8
  have hl0w8 := K0w8.out.lt
  have hl1w8 := K1w8.out.lt
  have hl2w8 := K2w8.out.lt
  have hliw8 := Kiw8.out.lt
  have hlnw8 := Knw8.out.lt
  have hlxw8 := Kxw8.out.lt
  go_wp2_with (first
     | (
        refine wpList_store_blk rfl 23 _ _ rfl (w8.heap.size) (I0.map (Value.int .u8)).toArray rfl rfl _ 23 ((Blk.new rfl (byteCells 32 []) _).old _) 32 size_digest HzA.out HA1.out.size (ints_one _ _) ?_
        intro w9 hbw9 hkw9
        have HBw9 := hid (hbw9.below ((HBw8.out.alloc HBw8.out.size _).alloc ((HBw8.out.alloc HBw8.out.size _)).size _) (by simp only [World.size_alloc]; omega) (by have := HBw8.out.size; omega))
        have hsw9 := HBw9.out.size
        have Kyw9 := hid hkw9
        have K0w9 := hid (hbw9.blk ((K0w8.out.old _).old _) (by have := K0w8.out.lt; omega))
        have K1w9 := hid (hbw9.blk ((K1w8.out.old _).old _) (by have := K1w8.out.lt; omega))
        have K2w9 := hid (hbw9.blk ((K2w8.out.old _).old _) (by have := K2w8.out.lt; omega))
        have Kiw9 := hid (hbw9.blk ((Kiw8.out.old _).old _) (by have := Kiw8.out.lt; omega))
        have Knw9 := hid (hbw9.blk ((Knw8.out.old _).old _) (by have := Knw8.out.lt; omega))
        have Kxw9 := hid (hbw9.blk ((Kxw8.out.old _).old _) (by have := Kxw8.out.lt; omega))
        have Kzz9w9 := hid (hbw9.blk (b' := w8.heap.size + 1) (cs := byteCells 32 []) (T := 23) (Blk.new (by simp only [World.size_alloc]) (byteCells 32 []) _) (by omega))
        clear hbw9 hkw9)
     | (
        refine wpList_store_blk rfl 23 _ _ rfl (w8.heap.size + 1) (N0.map (Value.int .u8)).toArray rfl rfl _ 23 Kzz9w9.out 32 size_digest HzA.out HA0.out.size (ints_one _ _) ?_
        intro w10 hbw10 hkw10
        have HBw10 := hid (hbw10.below HBw9.out HBw9.out.size (by have := HBw8.out.size; omega))
        have hsw10 := HBw10.out.size
        have Kz9w10 := hid hkw10
        have K0w10 := hid (hbw10.blk K0w9.out (by have := K0w9.out.lt; omega))
        have K1w10 := hid (hbw10.blk K1w9.out (by have := K1w9.out.lt; omega))
        have K2w10 := hid (hbw10.blk K2w9.out (by have := K2w9.out.lt; omega))
        have Kiw10 := hid (hbw10.blk Kiw9.out (by have := Kiw9.out.lt; omega))
        have Knw10 := hid (hbw10.blk Knw9.out (by have := Knw9.out.lt; omega))
        have Kxw10 := hid (hbw10.blk Kxw9.out (by have := Kxw9.out.lt; omega))
        have Kyw10 := hid (hbw10.blk Kyw9.out (by omega))
        clear hbw10 hkw10)
     | (refine wpList_load_blk rfl 23 _ rfl (w1.heap.size) rfl _ 23 Kiw10.out _ Tryd.underlying23 rfl 32 size_digest HA1.out.size ?_)
     | (refine wpList_load_blk rfl 23 _ rfl (w8.heap.size) rfl _ 23 Kyw10.out _ Tryd.underlying23 rfl 32 size_digest HA1.out.size ?_)
     | (refine wpList_load_blk_if (by first | rfl | go_simp) 23 _ rfl (w1.heap.size) rfl _ 23 Kiw10.out _ Tryd.underlying23 rfl 32 size_digest HA1.out.size ?_)
     | (refine wpList_load_blk_if (by first | rfl | go_simp) 23 _ rfl (w1.heap.size + 1) rfl _ 23 Knw10.out _ Tryd.underlying23 rfl 32 size_digest HA0.out.size ?_)
     | (refine wpList_load_blk_if (by first | rfl | go_simp) 23 _ rfl (w8.heap.size + 1) rfl _ 23 Kz9w10.out _ Tryd.underlying23 rfl 32 size_digest HA0.out.size ?_))
  refine (CJ.out _ (HT0.out.below HBw10.out) (Htab.out.below HBw10.out)).mono ?_
  rintro e w11 ⟨rfl, bw11⟩
  have HBw11 := hid (Below.on HBw10.out bw11)
  have hsw11 := HBw11.out.size
  have K0w11 := hid (K0w10.out.below bw11)
  have K1w11 := hid (K1w10.out.below bw11)
  have K2w11 := hid (K2w10.out.below bw11)
  have Kiw11 := hid (Kiw10.out.below bw11)
  have Knw11 := hid (Knw10.out.below bw11)
  have Kxw11 := hid (Kxw10.out.below bw11)
  have Kyw11 := hid (Kyw10.out.below bw11)
  have Kz9w11 := hid (Kz9w10.out.below bw11)
  clear bw11
  go_wp2_with fail
  refine (knows16 _ (Htab.out.below HBw11.out)).mono ?_
  rintro e w12 ⟨rfl, bw12⟩
  have HBw12 := hid (Below.on HBw11.out bw12)
  have hsw12 := HBw12.out.size
  have K0w12 := hid (K0w11.out.below bw12)
  have K1w12 := hid (K1w11.out.below bw12)
  have K2w12 := hid (K2w11.out.below bw12)
  have Kiw12 := hid (Kiw11.out.below bw12)
  have Knw12 := hid (Knw11.out.below bw12)
  have Kxw12 := hid (Kxw11.out.below bw12)
  have Kyw12 := hid (Kyw11.out.below bw12)
  have Kz9w12 := hid (Kz9w11.out.below bw12)
  clear bw12
  go_wp2_with fail
  go_returns
  exact ⟨rfl, HBw12.out⟩

set_option maxHeartbeats 4000000 in
set_option maxRecDepth 100000 in
theorem commitV_long (key index nonce name : List Int) (a : Option Addr) (n c : Nat) (w : World) (tab : ShaTab w) (_hK : Dg key) (_hI : Dg index) (_hN : Dg nonce) (hT : TextAt w a n c name) (hn : 200 < n) :
    Calls Tryd.prog 16 #[(.agg (key.map (Value.int .u8)).toArray), (.agg (index.map (Value.int .u8)).toArray), (.agg (nonce.map (Value.int .u8)).toArray), .slice a n c] w fun e w' => e = .returned (.bool true) ∧ Below w.heap.size w w' := by
  have HT0 := hid hT
  have hle := hT.le
  have hmx := hT.max
  have hz9 := fun W => eqD_self zD Dg.zero.len W
  have hz8 := fun W => neD_self zD Dg.zero.len W
  have b1 := (Below.refl w.heap.size w).alloc (Nat.le_refl _) (.cells (key.map (Value.int .u8)).toArray 23 (0, 0))
  have b2 := b1.alloc b1.size (.cells (index.map (Value.int .u8)).toArray 23 (0, 0))
  have b3 := b2.alloc b2.size (.cells (nonce.map (Value.int .u8)).toArray 23 (0, 0))
  have K0 := hid (((Blk.new (w := w) (n := w.heap.size) rfl (key.map (Value.int .u8)).toArray 23).old (.cells (index.map (Value.int .u8)).toArray 23 (0, 0))).old (.cells (nonce.map (Value.int .u8)).toArray 23 (0, 0)))
  have K1 := hid ((Blk.new (w := (w.alloc (.cells (key.map (Value.int .u8)).toArray 23 (0, 0)))) (n := w.heap.size + 1) (by simp only [World.size_alloc]) (index.map (Value.int .u8)).toArray 23).old (.cells (nonce.map (Value.int .u8)).toArray 23 (0, 0)))
  have K2 := hid (Blk.new (w := ((w.alloc (.cells (key.map (Value.int .u8)).toArray 23 (0, 0))).alloc (.cells (index.map (Value.int .u8)).toArray 23 (0, 0)))) (n := w.heap.size + 1 + 1) (by simp only [World.size_alloc]) (nonce.map (Value.int .u8)).toArray 23)
  have Hb := hid b3
  have HzA := hid zsize
  have hbz := b3.size
  have Hbs := hid (show w.heap.size + 1 + 1 + 1 = (((w.alloc (.cells (key.map (Value.int .u8)).toArray 23 (0, 0))).alloc (.cells (index.map (Value.int .u8)).toArray 23 (0, 0))).alloc (.cells (nonce.map (Value.int .u8)).toArray 23 (0, 0))).heap.size by simp only [World.size_alloc])
  have Htab := hid tab
  clear b1 b2 b3 tab
  go_enter Tryd.func16, Tryd.ntmps16
  go_wp2_with fail
  refine (knows16 _ (Htab.out.below Hb.out)).mono ?_
  rintro e w1 ⟨rfl, bw1⟩
  have HBw1 := hid (Below.on Hb.out bw1)
  have hsw1 := HBw1.out.size
  have K0w1 := hid (K0.out.below bw1)
  have K1w1 := hid (K1.out.below bw1)
  have K2w1 := hid (K2.out.below bw1)
  clear bw1
  go_wp2_with fail
  go_returns
  exact ⟨rfl, HBw1.out⟩

set_option maxHeartbeats 4000000 in
set_option maxRecDepth 100000 in
theorem commitV_bad (key index nonce name : List Int) (a : Option Addr) (n c : Nat) (w : World) (tab : ShaTab w) (hK : Dg key) (hI : Dg index) (hN : Dg nonce) (hT : TextAt w a n c name) (hn200 : n ≤ 200) (hbad : 64 < n) :
    Calls Tryd.prog 16 #[(.agg (key.map (Value.int .u8)).toArray), (.agg (index.map (Value.int .u8)).toArray), (.agg (nonce.map (Value.int .u8)).toArray), .slice a n c] w fun e w' => e = .returned (.bool true) ∧ Below w.heap.size w w' := by
  have HT0 := hid hT
  have hle := hT.le
  have hmx := hT.max
  have hz9 := fun W => eqD_self zD Dg.zero.len W
  have hz8 := fun W => neD_self zD Dg.zero.len W
  have hn2 : ¬ ((200 : Int) < (n : Int)) := by omega
  have hm6 : decide ((n : Int) ≤ 64) = false := decide_eq_false (by omega)
  have q1 : ∀ W : World, (binOp .eql 23 (.agg (zD.map (Value.int .u8)).toArray) (.agg #[.int .u8 0, .int .u8 0, .int .u8 0, .int .u8 0, .int .u8 0, .int .u8 0, .int .u8 0, .int .u8 0, .int .u8 0, .int .u8 0, .int .u8 0, .int .u8 0, .int .u8 0, .int .u8 0, .int .u8 0, .int .u8 0, .int .u8 0, .int .u8 0, .int .u8 0, .int .u8 0, .int .u8 0, .int .u8 0, .int .u8 0, .int .u8 0, .int .u8 0, .int .u8 0, .int .u8 0, .int .u8 0, .int .u8 0, .int .u8 0, .int .u8 0, .int .u8 0])).run Tryd.prog W = .ok (.bool true) W := eqD_self zD Dg.zero.len
  have q2 : ∀ W : World, (binOp .neq 23 (.agg (zD.map (Value.int .u8)).toArray) (.agg #[.int .u8 0, .int .u8 0, .int .u8 0, .int .u8 0, .int .u8 0, .int .u8 0, .int .u8 0, .int .u8 0, .int .u8 0, .int .u8 0, .int .u8 0, .int .u8 0, .int .u8 0, .int .u8 0, .int .u8 0, .int .u8 0, .int .u8 0, .int .u8 0, .int .u8 0, .int .u8 0, .int .u8 0, .int .u8 0, .int .u8 0, .int .u8 0, .int .u8 0, .int .u8 0, .int .u8 0, .int .u8 0, .int .u8 0, .int .u8 0, .int .u8 0, .int .u8 0])).run Tryd.prog W = .ok (.bool false) W := neD_self zD Dg.zero.len
  have b1 := (Below.refl w.heap.size w).alloc (Nat.le_refl _) (.cells (key.map (Value.int .u8)).toArray 23 (0, 0))
  have b2 := b1.alloc b1.size (.cells (index.map (Value.int .u8)).toArray 23 (0, 0))
  have b3 := b2.alloc b2.size (.cells (nonce.map (Value.int .u8)).toArray 23 (0, 0))
  have K0 := hid (((Blk.new (w := w) (n := w.heap.size) rfl (key.map (Value.int .u8)).toArray 23).old (.cells (index.map (Value.int .u8)).toArray 23 (0, 0))).old (.cells (nonce.map (Value.int .u8)).toArray 23 (0, 0)))
  have K1 := hid ((Blk.new (w := (w.alloc (.cells (key.map (Value.int .u8)).toArray 23 (0, 0)))) (n := w.heap.size + 1) (by simp only [World.size_alloc]) (index.map (Value.int .u8)).toArray 23).old (.cells (nonce.map (Value.int .u8)).toArray 23 (0, 0)))
  have K2 := hid (Blk.new (w := ((w.alloc (.cells (key.map (Value.int .u8)).toArray 23 (0, 0))).alloc (.cells (index.map (Value.int .u8)).toArray 23 (0, 0)))) (n := w.heap.size + 1 + 1) (by simp only [World.size_alloc]) (nonce.map (Value.int .u8)).toArray 23)
  have Hb := hid b3
  have HzA := hid zsize
  have hbz := b3.size
  have Hbs := hid (show w.heap.size + 1 + 1 + 1 = (((w.alloc (.cells (key.map (Value.int .u8)).toArray 23 (0, 0))).alloc (.cells (index.map (Value.int .u8)).toArray 23 (0, 0))).alloc (.cells (nonce.map (Value.int .u8)).toArray 23 (0, 0))).heap.size by simp only [World.size_alloc])
  have Htab := hid tab
  clear b1 b2 b3 tab
  go_enter Tryd.func16, Tryd.ntmps16
  go_wp2_with (first
     | (refine wpList_load_blk rfl 23 _ rfl (w.heap.size) rfl _ 23 K0.out _ Tryd.underlying23 rfl 32 size_digest hK.size ?_)
     | (refine wpList_load_blk rfl 23 _ rfl (w.heap.size + 1) rfl _ 23 K1.out _ Tryd.underlying23 rfl 32 size_digest hI.size ?_))
  refine (cvalue_bad key index a n c _ hK hI hbad).mono ?_
  rintro e w1 ⟨rfl, bw1⟩
  have HBw1 := hid (Below.on Hb.out bw1)
  have hsw1 := HBw1.out.size
  have K0w1 := hid (K0.out.below bw1)
  have K1w1 := hid (K1.out.below bw1)
  have K2w1 := hid (K2.out.below bw1)
  clear bw1
  have hl0w1 := K0w1.out.lt
  have hl1w1 := K1w1.out.lt
  have hl2w1 := K2w1.out.lt
  go_wp2_with (first
     | (
        refine wpList_store_blk rfl 23 _ _ rfl (w1.heap.size) (zD.map (Value.int .u8)).toArray rfl rfl _ 23 ((Blk.new rfl (byteCells 32 []) _).old _) 32 size_digest HzA.out Dg.zero.size (ints_one _ _) ?_
        intro w2 hbw2 hkw2
        have HBw2 := hid (hbw2.below ((HBw1.out.alloc HBw1.out.size _).alloc ((HBw1.out.alloc HBw1.out.size _)).size _) (by simp only [World.size_alloc]; omega) (by have := HBw1.out.size; omega))
        have hsw2 := HBw2.out.size
        have Kiw2 := hid hkw2
        have K0w2 := hid (hbw2.blk ((K0w1.out.old _).old _) (by have := K0w1.out.lt; omega))
        have K1w2 := hid (hbw2.blk ((K1w1.out.old _).old _) (by have := K1w1.out.lt; omega))
        have K2w2 := hid (hbw2.blk ((K2w1.out.old _).old _) (by have := K2w1.out.lt; omega))
        have Kznw2 := hid (hbw2.blk (b' := w1.heap.size + 1) (cs := byteCells 32 []) (T := 23) (Blk.new (by simp only [World.size_alloc]) (byteCells 32 []) _) (by omega))
        clear hbw2 hkw2)
     | (
        refine wpList_store_blk rfl 23 _ _ rfl (w1.heap.size + 1) (zD.map (Value.int .u8)).toArray rfl rfl _ 23 Kznw2.out 32 size_digest HzA.out Dg.zero.size (ints_one _ _) ?_
        intro w3 hbw3 hkw3
        have HBw3 := hid (hbw3.below HBw2.out HBw2.out.size (by have := HBw1.out.size; omega))
        have hsw3 := HBw3.out.size
        have Knw3 := hid hkw3
        have K0w3 := hid (hbw3.blk K0w2.out (by have := K0w2.out.lt; omega))
        have K1w3 := hid (hbw3.blk K1w2.out (by have := K1w2.out.lt; omega))
        have K2w3 := hid (hbw3.blk K2w2.out (by have := K2w2.out.lt; omega))
        have Kiw3 := hid (hbw3.blk Kiw2.out (by omega))
        clear hbw3 hkw3))
  refine wp_region_flow 13 (List.range 13) [] [] (by kernel_rfl) (by kernel_rfl) ?_
  apply Exists.intro
  refine ⟨fun w0 hb0 hF0 => ?_, ?_⟩
  · skip
    have x0 : ∀ w', (∃ x : Ext w0, w' = x.at_) → ∃ T, Blk w' (w.heap.size + 1) (index.map (Value.int .u8)).toArray T := fun w' ⟨x, hx⟩ => ⟨_, hx ▸ (K1w3.out.below hb0).below x.same⟩
    have x1 : ∀ w', (∃ x : Ext w0, w' = x.at_) → ∃ T, Blk w' (w.heap.size + 1 + 1) (nonce.map (Value.int .u8)).toArray T := fun w' ⟨x, hx⟩ => ⟨_, hx ▸ (K2w3.out.below hb0).below x.same⟩
    have c0 := fun e : Ext w0 => cisvalue_bad index nonce a n c e.at_ hI hN hbad
    simp only [pick, List.range, List.range.loop, List.getElem?_toArray, List.getElem?_cons_succ, List.getElem?_cons_zero, Option.toList_some, List.cons_append, List.nil_append]
    repeat (first | (go_big_quiet_want; refine quiet_load_blk 23 _ rfl (w.heap.size + 1) rfl _ x0 _ Tryd.underlying23 rfl 32 size_digest hI.size ?_; go_big_quiet_on; simp only [Act.put, List.setIfInBounds_toArray, List.set_cons_zero, List.set_cons_succ]) | (go_big_quiet_want; refine quiet_load_blk 23 _ rfl (w.heap.size + 1 + 1) rfl _ x1 _ Tryd.underlying23 rfl 32 size_digest hN.size ?_; go_big_quiet_on; simp only [Act.put, List.setIfInBounds_toArray, List.set_cons_zero, List.set_cons_succ]) | go_big_quiet_step (first | (go_at_call 63; with_reducible exact Calls.ext (c0 _))))
    exact wpQuiet_nil rfl
  refine AlChk.nil ?_
  refine Walk.fin fun w4 hw4 _ _ => ?_
  simp only [List.drop_succ_cons, List.drop_zero]
  have HBw4 := hid (Below.on HBw3.out hw4)
  have hsw4 := HBw4.out.size
  have K0w4 := hid (K0w3.out.below hw4)
  have K1w4 := hid (K1w3.out.below hw4)
  have K2w4 := hid (K2w3.out.below hw4)
  have Kiw4 := hid (Kiw3.out.below hw4)
  have Knw4 := hid (Knw3.out.below hw4)
  clear hw4
  go_wp2_with (refine wpList_load_blk rfl 23 _ rfl (w.heap.size + 1 + 1) rfl _ 23 K2w4.out _ Tryd.underlying23 rfl 32 size_digest hN.size ?_)
  refine (cmade_bad nonce a n c _ hN hbad).mono ?_
  rintro e w5 ⟨rfl, bw5⟩
  have HBw5 := hid (Below.on HBw4.out bw5)
  have hsw5 := HBw5.out.size
  have K0w5 := hid (K0w4.out.below bw5)
  have K1w5 := hid (K1w4.out.below bw5)
  have K2w5 := hid (K2w4.out.below bw5)
  have Kiw5 := hid (Kiw4.out.below bw5)
  have Knw5 := hid (Knw4.out.below bw5)
  clear bw5
  go_wp2_with (
        refine wpList_store_blk rfl 23 _ _ rfl (w5.heap.size) (zD.map (Value.int .u8)).toArray rfl rfl _ 23 (Blk.new rfl (byteCells 32 []) _) 32 size_digest HzA.out Dg.zero.size (ints_one _ _) ?_
        intro w6 hbw6 hkw6
        have HBw6 := hid (hbw6.below (HBw5.out.alloc HBw5.out.size _) (by simp only [World.size_alloc]; omega) (by have := HBw5.out.size; omega))
        have hsw6 := HBw6.out.size
        have Kxw6 := hid hkw6
        have K0w6 := hid (hbw6.blk (K0w5.out.old _) (by have := K0w5.out.lt; omega))
        have K1w6 := hid (hbw6.blk (K1w5.out.old _) (by have := K1w5.out.lt; omega))
        have K2w6 := hid (hbw6.blk (K2w5.out.old _) (by have := K2w5.out.lt; omega))
        have Kiw6 := hid (hbw6.blk (Kiw5.out.old _) (by have := Kiw5.out.lt; omega))
        have Knw6 := hid (hbw6.blk (Knw5.out.old _) (by have := Knw5.out.lt; omega))
        clear hbw6 hkw6)
  refine wp_region_flow 25 (List.range 25) [] [] (by kernel_rfl) (by kernel_rfl) ?_
  apply Exists.intro
  refine ⟨fun w0 hb0 hF0 => ?_, ?_⟩
  · skip
    have x0 : ∀ w', (∃ x : Ext w0, w' = x.at_) → ∃ T, Blk w' (w.heap.size + 1 + 1) (nonce.map (Value.int .u8)).toArray T := fun w' ⟨x, hx⟩ => ⟨_, hx ▸ (K2w6.out.below hb0).below x.same⟩
    have x1 : ∀ w', (∃ x : Ext w0, w' = x.at_) → ∃ T, Blk w' (w5.heap.size) (zD.map (Value.int .u8)).toArray T := fun w' ⟨x, hx⟩ => ⟨_, hx ▸ (Kxw6.out.below hb0).below x.same⟩
    simp only [pick, List.range, List.range.loop, List.getElem?_toArray, List.getElem?_cons_succ, List.getElem?_cons_zero, Option.toList_some, List.cons_append, List.nil_append]
    repeat (first | (go_big_quiet_want; refine quiet_load_blk 23 _ rfl (w.heap.size + 1 + 1) rfl _ x0 _ Tryd.underlying23 rfl 32 size_digest hN.size ?_; go_big_quiet_on; simp only [Act.put, List.setIfInBounds_toArray, List.set_cons_zero, List.set_cons_succ]) | (go_big_quiet_want; refine quiet_load_blk 23 _ rfl (w5.heap.size) rfl _ x1 _ Tryd.underlying23 rfl 32 size_digest Dg.zero.size ?_; go_big_quiet_on; simp only [Act.put, List.setIfInBounds_toArray, List.set_cons_zero, List.set_cons_succ]) | go_big_quiet_step (fail))
    exact wpQuiet_nil rfl
  refine AlChk.nil ?_
  refine Walk.fin fun w7 hw7 _ _ => ?_
  simp only [List.drop_succ_cons, List.drop_zero]
  have HBw7 := hid (Below.on HBw6.out hw7)
  have hsw7 := HBw7.out.size
  have K0w7 := hid (K0w6.out.below hw7)
  have K1w7 := hid (K1w6.out.below hw7)
  have K2w7 := hid (K2w6.out.below hw7)
  have Kiw7 := hid (Kiw6.out.below hw7)
  have Knw7 := hid (Knw6.out.below hw7)
  have Kxw7 := hid (Kxw6.out.below hw7)
  clear hw7
  go_wp2_with (first
     | (refine wpList_load_blk rfl 23 _ rfl (w1.heap.size) rfl _ 23 Kiw7.out _ Tryd.underlying23 rfl 32 size_digest Dg.zero.size ?_)
     | (refine wpList_load_blk_if (by first | rfl | go_simp) 23 _ rfl (w1.heap.size) rfl _ 23 Kiw7.out _ Tryd.underlying23 rfl 32 size_digest Dg.zero.size ?_)
     | (refine wpList_load_blk_if (by first | rfl | go_simp) 23 _ rfl (w1.heap.size + 1) rfl _ 23 Knw7.out _ Tryd.underlying23 rfl 32 size_digest Dg.zero.size ?_))
  refine (cisvalue_bad zD zD a n c _ Dg.zero Dg.zero hbad).mono ?_
  rintro e w8 ⟨rfl, bw8⟩
  have HBw8 := hid (Below.on HBw7.out bw8)
  have hsw8 := HBw8.out.size
  have K0w8 := hid (K0w7.out.below bw8)
  have K1w8 := hid (K1w7.out.below bw8)
  have K2w8 := hid (K2w7.out.below bw8)
  have Kiw8 := hid (Kiw7.out.below bw8)
  have Knw8 := hid (Knw7.out.below bw8)
  have Kxw8 := hid (Kxw7.out.below bw8)
  clear bw8
  go_wp2_with fail
  refine (knows16 _ (Htab.out.below HBw8.out)).mono ?_
  rintro e w9 ⟨rfl, bw9⟩
  have HBw9 := hid (Below.on HBw8.out bw9)
  have hsw9 := HBw9.out.size
  have K0w9 := hid (K0w8.out.below bw9)
  have K1w9 := hid (K1w8.out.below bw9)
  have K2w9 := hid (K2w8.out.below bw9)
  have Kiw9 := hid (Kiw8.out.below bw9)
  have Knw9 := hid (Knw8.out.below bw9)
  have Kxw9 := hid (Kxw8.out.below bw9)
  clear bw9
  go_wp2_with fail
  go_returns
  exact ⟨rfl, HBw9.out⟩

set_option maxHeartbeats 4000000 in
set_option maxRecDepth 100000 in
theorem commitV_good (key index nonce name : List Int) (a : Option Addr) (n c : Nat) (w : World) (tab : ShaTab w) (hK : Dg key) (hI : Dg index) (hN : Dg nonce) (hT : TextAt w a n c name) (hn : n ≤ 64) :
    Calls Tryd.prog 16 #[(.agg (key.map (Value.int .u8)).toArray), (.agg (index.map (Value.int .u8)).toArray), (.agg (nonce.map (Value.int .u8)).toArray), .slice a n c] w fun e w' => e = .returned (.bool true) ∧ Below w.heap.size w w' := by
  have HT0 := hid hT
  have hle := hT.le
  have hmx := hT.max
  have hz9 := fun W => eqD_self zD Dg.zero.len W
  have hz8 := fun W => neD_self zD Dg.zero.len W
  have hn2 : ¬ ((200 : Int) < (n : Int)) := by omega
  have hm6 : ((n : Int) ≤ 64) := by omega
  have b1 := (Below.refl w.heap.size w).alloc (Nat.le_refl _) (.cells (key.map (Value.int .u8)).toArray 23 (0, 0))
  have b2 := b1.alloc b1.size (.cells (index.map (Value.int .u8)).toArray 23 (0, 0))
  have b3 := b2.alloc b2.size (.cells (nonce.map (Value.int .u8)).toArray 23 (0, 0))
  have K0 := hid (((Blk.new (w := w) (n := w.heap.size) rfl (key.map (Value.int .u8)).toArray 23).old (.cells (index.map (Value.int .u8)).toArray 23 (0, 0))).old (.cells (nonce.map (Value.int .u8)).toArray 23 (0, 0)))
  have K1 := hid ((Blk.new (w := (w.alloc (.cells (key.map (Value.int .u8)).toArray 23 (0, 0)))) (n := w.heap.size + 1) (by simp only [World.size_alloc]) (index.map (Value.int .u8)).toArray 23).old (.cells (nonce.map (Value.int .u8)).toArray 23 (0, 0)))
  have K2 := hid (Blk.new (w := ((w.alloc (.cells (key.map (Value.int .u8)).toArray 23 (0, 0))).alloc (.cells (index.map (Value.int .u8)).toArray 23 (0, 0)))) (n := w.heap.size + 1 + 1) (by simp only [World.size_alloc]) (nonce.map (Value.int .u8)).toArray 23)
  have Hb := hid b3
  have HzA := hid zsize
  have hbz := b3.size
  have Hbs := hid (show w.heap.size + 1 + 1 + 1 = (((w.alloc (.cells (key.map (Value.int .u8)).toArray 23 (0, 0))).alloc (.cells (index.map (Value.int .u8)).toArray 23 (0, 0))).alloc (.cells (nonce.map (Value.int .u8)).toArray 23 (0, 0))).heap.size by simp only [World.size_alloc])
  have Htab := hid tab
  clear b1 b2 b3 tab
  go_enter Tryd.func16, Tryd.ntmps16
  go_wp2_with (first
     | (refine wpList_load_blk rfl 23 _ rfl (w.heap.size) rfl _ 23 K0.out _ Tryd.underlying23 rfl 32 size_digest hK.size ?_)
     | (refine wpList_load_blk rfl 23 _ rfl (w.heap.size + 1) rfl _ 23 K1.out _ Tryd.underlying23 rfl 32 size_digest hI.size ?_))
  refine (cvalue_good key index name a n c _ hK hI (HT0.out.below Hb.out) hn (Htab.out.below Hb.out)).mono ?_
  rintro e w1 ⟨rfl, bw1⟩
  have HBw1 := hid (Below.on Hb.out bw1)
  have hsw1 := HBw1.out.size
  have K0w1 := hid (K0.out.below bw1)
  have K1w1 := hid (K1.out.below bw1)
  have K2w1 := hid (K2.out.below bw1)
  clear bw1
  have HA0 := hid (Dg.salt key index name)
  have HA1 := hid (Dg.made (saltZ key index name) name)
  have HX := hid (Dg.made nonce name)
  have CR := hid (fun (W : World) (hT : TextAt W a n c name) => refcvalue_any key index name a n c W hK hI hT (by omega))
  have CI := hid (fun (W : World) (hT : TextAt W a n c name) (t : ShaTab W) => cisvalue_good index nonce name a n c W hI hN hT hn t)
  have CF := hid (fun (W : World) (hT : TextAt W a n c name) => refcmade_any nonce name a n c W hN hT (by omega))
  have CG := hid (fun (W : World) (hT : TextAt W a n c name) (t : ShaTab W) => cmade_good nonce name a n c W hN hT hn t)
  have CJ := hid (fun (W : World) (hT : TextAt W a n c name) (t : ShaTab W) => cisvalue_good (madeZ (saltZ key index name) name) (saltZ key index name) name a n c W HA1.out HA0.out hT hn t)
  rw [decide_eq_true rfl] at CJ
  generalize madeZ (saltZ key index name) name = I0 at *
  generalize saltZ key index name = N0 at *
  generalize madeZ nonce name = X0 at *
  have p1 := fun W => eqD index X0 hI.len HX.out.len W
  have p2 := fun W => neD_self X0 HX.out.len W
  have p3 := fun W => eqD_self I0 HA1.out.len W
  have p4 := fun W => eqD_self N0 HA0.out.len W
  have hl0w1 := K0w1.out.lt
  have hl1w1 := K1w1.out.lt
  have hl2w1 := K2w1.out.lt
  go_wp2_with (first
     | (
        refine wpList_store_blk rfl 23 _ _ rfl (w1.heap.size) (I0.map (Value.int .u8)).toArray rfl rfl _ 23 ((Blk.new rfl (byteCells 32 []) _).old _) 32 size_digest HzA.out HA1.out.size (ints_one _ _) ?_
        intro w2 hbw2 hkw2
        have HBw2 := hid (hbw2.below ((HBw1.out.alloc HBw1.out.size _).alloc ((HBw1.out.alloc HBw1.out.size _)).size _) (by simp only [World.size_alloc]; omega) (by have := HBw1.out.size; omega))
        have hsw2 := HBw2.out.size
        have Kiw2 := hid hkw2
        have K0w2 := hid (hbw2.blk ((K0w1.out.old _).old _) (by have := K0w1.out.lt; omega))
        have K1w2 := hid (hbw2.blk ((K1w1.out.old _).old _) (by have := K1w1.out.lt; omega))
        have K2w2 := hid (hbw2.blk ((K2w1.out.old _).old _) (by have := K2w1.out.lt; omega))
        have Kznw2 := hid (hbw2.blk (b' := w1.heap.size + 1) (cs := byteCells 32 []) (T := 23) (Blk.new (by simp only [World.size_alloc]) (byteCells 32 []) _) (by omega))
        clear hbw2 hkw2)
     | (
        refine wpList_store_blk rfl 23 _ _ rfl (w1.heap.size + 1) (N0.map (Value.int .u8)).toArray rfl rfl _ 23 Kznw2.out 32 size_digest HzA.out HA0.out.size (ints_one _ _) ?_
        intro w3 hbw3 hkw3
        have HBw3 := hid (hbw3.below HBw2.out HBw2.out.size (by have := HBw1.out.size; omega))
        have hsw3 := HBw3.out.size
        have Knw3 := hid hkw3
        have K0w3 := hid (hbw3.blk K0w2.out (by have := K0w2.out.lt; omega))
        have K1w3 := hid (hbw3.blk K1w2.out (by have := K1w2.out.lt; omega))
        have K2w3 := hid (hbw3.blk K2w2.out (by have := K2w2.out.lt; omega))
        have Kiw3 := hid (hbw3.blk Kiw2.out (by omega))
        clear hbw3 hkw3))
  refine wp_region_flow 13 (List.range 13) [] [] (by kernel_rfl) (by kernel_rfl) ?_
  apply Exists.intro
  refine ⟨fun w0 hb0 hF0 => ?_, ?_⟩
  · skip
    have x0 : ∀ w', (∃ x : Ext w0, w' = x.at_) → ∃ T, Blk w' (w.heap.size + 1) (index.map (Value.int .u8)).toArray T := fun w' ⟨x, hx⟩ => ⟨_, hx ▸ (K1w3.out.below hb0).below x.same⟩
    have x1 : ∀ w', (∃ x : Ext w0, w' = x.at_) → ∃ T, Blk w' (w.heap.size + 1 + 1) (nonce.map (Value.int .u8)).toArray T := fun w' ⟨x, hx⟩ => ⟨_, hx ▸ (K2w3.out.below hb0).below x.same⟩
    have c0 := fun e : Ext w0 => CI.out e.at_ ((HT0.out.below (Below.on HBw3.out hb0)).below e.same) ((Htab.out.below (Below.on HBw3.out hb0)).below e.same)
    have c1 := fun e : Ext w0 => CF.out e.at_ ((HT0.out.below (Below.on HBw3.out hb0)).below e.same)
    simp only [pick, List.range, List.range.loop, List.getElem?_toArray, List.getElem?_cons_succ, List.getElem?_cons_zero, Option.toList_some, List.cons_append, List.nil_append]
    repeat (first | (go_big_quiet_want; refine quiet_load_blk 23 _ rfl (w.heap.size + 1) rfl _ x0 _ Tryd.underlying23 rfl 32 size_digest hI.size ?_; go_big_quiet_on; simp only [Act.put, List.setIfInBounds_toArray, List.set_cons_zero, List.set_cons_succ]) | (go_big_quiet_want; refine quiet_load_blk 23 _ rfl (w.heap.size + 1 + 1) rfl _ x1 _ Tryd.underlying23 rfl 32 size_digest hN.size ?_; go_big_quiet_on; simp only [Act.put, List.setIfInBounds_toArray, List.set_cons_zero, List.set_cons_succ]) | go_big_quiet_step (first | (go_at_call 63; with_reducible exact Calls.ext (c0 _)) | (go_at_call 64; with_reducible exact Calls.ext (c1 _))))
    exact wpQuiet_nil rfl
  refine AlChk.nil ?_
  refine Walk.fin fun w4 hw4 _ _ => ?_
  simp only [List.drop_succ_cons, List.drop_zero]
  have HBw4 := hid (Below.on HBw3.out hw4)
  have hsw4 := HBw4.out.size
  have K0w4 := hid (K0w3.out.below hw4)
  have K1w4 := hid (K1w3.out.below hw4)
  have K2w4 := hid (K2w3.out.below hw4)
  have Kiw4 := hid (Kiw3.out.below hw4)
  have Knw4 := hid (Knw3.out.below hw4)
  clear hw4
  go_wp2_with (refine wpList_load_blk rfl 23 _ rfl (w.heap.size + 1 + 1) rfl _ 23 K2w4.out _ Tryd.underlying23 rfl 32 size_digest hN.size ?_)
  refine (CG.out _ (HT0.out.below HBw4.out) (Htab.out.below HBw4.out)).mono ?_
  rintro e w5 ⟨rfl, bw5⟩
  have HBw5 := hid (Below.on HBw4.out bw5)
  have hsw5 := HBw5.out.size
  have K0w5 := hid (K0w4.out.below bw5)
  have K1w5 := hid (K1w4.out.below bw5)
  have K2w5 := hid (K2w4.out.below bw5)
  have Kiw5 := hid (Kiw4.out.below bw5)
  have Knw5 := hid (Knw4.out.below bw5)
  clear bw5
  go_wp2_with (
        refine wpList_store_blk rfl 23 _ _ rfl (w5.heap.size) (X0.map (Value.int .u8)).toArray rfl rfl _ 23 (Blk.new rfl (byteCells 32 []) _) 32 size_digest HzA.out HX.out.size (ints_one _ _) ?_
        intro w6 hbw6 hkw6
        have HBw6 := hid (hbw6.below (HBw5.out.alloc HBw5.out.size _) (by simp only [World.size_alloc]; omega) (by have := HBw5.out.size; omega))
        have hsw6 := HBw6.out.size
        have Kxw6 := hid hkw6
        have K0w6 := hid (hbw6.blk (K0w5.out.old _) (by have := K0w5.out.lt; omega))
        have K1w6 := hid (hbw6.blk (K1w5.out.old _) (by have := K1w5.out.lt; omega))
        have K2w6 := hid (hbw6.blk (K2w5.out.old _) (by have := K2w5.out.lt; omega))
        have Kiw6 := hid (hbw6.blk (Kiw5.out.old _) (by have := Kiw5.out.lt; omega))
        have Knw6 := hid (hbw6.blk (Knw5.out.old _) (by have := Knw5.out.lt; omega))
        clear hbw6 hkw6)
  refine wp_region_flow 25 (List.range 25) [] [] (by kernel_rfl) (by kernel_rfl) ?_
  apply Exists.intro
  refine ⟨fun w0 hb0 hF0 => ?_, ?_⟩
  · skip
    have x0 : ∀ w', (∃ x : Ext w0, w' = x.at_) → ∃ T, Blk w' (w.heap.size + 1 + 1) (nonce.map (Value.int .u8)).toArray T := fun w' ⟨x, hx⟩ => ⟨_, hx ▸ (K2w6.out.below hb0).below x.same⟩
    have x1 : ∀ w', (∃ x : Ext w0, w' = x.at_) → ∃ T, Blk w' (w5.heap.size) (X0.map (Value.int .u8)).toArray T := fun w' ⟨x, hx⟩ => ⟨_, hx ▸ (Kxw6.out.below hb0).below x.same⟩
    have c0 := fun e : Ext w0 => CF.out e.at_ ((HT0.out.below (Below.on HBw6.out hb0)).below e.same)
    simp only [pick, List.range, List.range.loop, List.getElem?_toArray, List.getElem?_cons_succ, List.getElem?_cons_zero, Option.toList_some, List.cons_append, List.nil_append]
    repeat (first | (go_big_quiet_want; refine quiet_load_blk 23 _ rfl (w.heap.size + 1 + 1) rfl _ x0 _ Tryd.underlying23 rfl 32 size_digest hN.size ?_; go_big_quiet_on; simp only [Act.put, List.setIfInBounds_toArray, List.set_cons_zero, List.set_cons_succ]) | (go_big_quiet_want; refine quiet_load_blk 23 _ rfl (w5.heap.size) rfl _ x1 _ Tryd.underlying23 rfl 32 size_digest HX.out.size ?_; go_big_quiet_on; simp only [Act.put, List.setIfInBounds_toArray, List.set_cons_zero, List.set_cons_succ]) | go_big_quiet_step (first | (go_at_call 64; with_reducible exact Calls.ext (c0 _))))
    exact wpQuiet_nil rfl
  refine AlChk.nil ?_
  refine Walk.fin fun w7 hw7 _ _ => ?_
  simp only [List.drop_succ_cons, List.drop_zero]
  have HBw7 := hid (Below.on HBw6.out hw7)
  have hsw7 := HBw7.out.size
  have K0w7 := hid (K0w6.out.below hw7)
  have K1w7 := hid (K1w6.out.below hw7)
  have K2w7 := hid (K2w6.out.below hw7)
  have Kiw7 := hid (Kiw6.out.below hw7)
  have Knw7 := hid (Knw6.out.below hw7)
  have Kxw7 := hid (Kxw6.out.below hw7)
  clear hw7
  go_wp2_with (first
     | (refine wpList_load_blk rfl 23 _ rfl (w.heap.size) rfl _ 23 K0w7.out _ Tryd.underlying23 rfl 32 size_digest hK.size ?_)
     | (refine wpList_load_blk rfl 23 _ rfl (w.heap.size + 1) rfl _ 23 K1w7.out _ Tryd.underlying23 rfl 32 size_digest hI.size ?_))
  refine (CR.out _ (HT0.out.below HBw7.out)).mono ?_
  rintro e w8 ⟨rfl, bw8⟩
  have HBw8 := hid (Below.on HBw7.out bw8)
  have hsw8 := HBw8.out.size
  have K0w8 := hid (K0w7.out.below bw8)
  have K1w8 := hid (K1w7.out.below bw8)
  have K2w8 := hid (K2w7.out.below bw8)
  have Kiw8 := hid (Kiw7.out.below bw8)
  have Knw8 := hid (Knw7.out.below bw8)
  have Kxw8 := hid (Kxw7.out.below bw8)
  clear bw8
  have hl0w8 := K0w8.out.lt
  have hl1w8 := K1w8.out.lt
  have hl2w8 := K2w8.out.lt
  have hliw8 := Kiw8.out.lt
  have hlnw8 := Knw8.out.lt
  have hlxw8 := Kxw8.out.lt
  go_wp2_with (first
     | (
        refine wpList_store_blk rfl 23 _ _ rfl (w8.heap.size) (I0.map (Value.int .u8)).toArray rfl rfl _ 23 ((Blk.new rfl (byteCells 32 []) _).old _) 32 size_digest HzA.out HA1.out.size (ints_one _ _) ?_
        intro w9 hbw9 hkw9
        have HBw9 := hid (hbw9.below ((HBw8.out.alloc HBw8.out.size _).alloc ((HBw8.out.alloc HBw8.out.size _)).size _) (by simp only [World.size_alloc]; omega) (by have := HBw8.out.size; omega))
        have hsw9 := HBw9.out.size
        have Kyw9 := hid hkw9
        have K0w9 := hid (hbw9.blk ((K0w8.out.old _).old _) (by have := K0w8.out.lt; omega))
        have K1w9 := hid (hbw9.blk ((K1w8.out.old _).old _) (by have := K1w8.out.lt; omega))
        have K2w9 := hid (hbw9.blk ((K2w8.out.old _).old _) (by have := K2w8.out.lt; omega))
        have Kiw9 := hid (hbw9.blk ((Kiw8.out.old _).old _) (by have := Kiw8.out.lt; omega))
        have Knw9 := hid (hbw9.blk ((Knw8.out.old _).old _) (by have := Knw8.out.lt; omega))
        have Kxw9 := hid (hbw9.blk ((Kxw8.out.old _).old _) (by have := Kxw8.out.lt; omega))
        have Kzz9w9 := hid (hbw9.blk (b' := w8.heap.size + 1) (cs := byteCells 32 []) (T := 23) (Blk.new (by simp only [World.size_alloc]) (byteCells 32 []) _) (by omega))
        clear hbw9 hkw9)
     | (
        refine wpList_store_blk rfl 23 _ _ rfl (w8.heap.size + 1) (N0.map (Value.int .u8)).toArray rfl rfl _ 23 Kzz9w9.out 32 size_digest HzA.out HA0.out.size (ints_one _ _) ?_
        intro w10 hbw10 hkw10
        have HBw10 := hid (hbw10.below HBw9.out HBw9.out.size (by have := HBw8.out.size; omega))
        have hsw10 := HBw10.out.size
        have Kz9w10 := hid hkw10
        have K0w10 := hid (hbw10.blk K0w9.out (by have := K0w9.out.lt; omega))
        have K1w10 := hid (hbw10.blk K1w9.out (by have := K1w9.out.lt; omega))
        have K2w10 := hid (hbw10.blk K2w9.out (by have := K2w9.out.lt; omega))
        have Kiw10 := hid (hbw10.blk Kiw9.out (by have := Kiw9.out.lt; omega))
        have Knw10 := hid (hbw10.blk Knw9.out (by have := Knw9.out.lt; omega))
        have Kxw10 := hid (hbw10.blk Kxw9.out (by have := Kxw9.out.lt; omega))
        have Kyw10 := hid (hbw10.blk Kyw9.out (by omega))
        clear hbw10 hkw10)
     | (refine wpList_load_blk rfl 23 _ rfl (w1.heap.size) rfl _ 23 Kiw10.out _ Tryd.underlying23 rfl 32 size_digest HA1.out.size ?_)
     | (refine wpList_load_blk rfl 23 _ rfl (w8.heap.size) rfl _ 23 Kyw10.out _ Tryd.underlying23 rfl 32 size_digest HA1.out.size ?_)
     | (refine wpList_load_blk_if (by first | rfl | go_simp) 23 _ rfl (w1.heap.size) rfl _ 23 Kiw10.out _ Tryd.underlying23 rfl 32 size_digest HA1.out.size ?_)
     | (refine wpList_load_blk_if (by first | rfl | go_simp) 23 _ rfl (w1.heap.size + 1) rfl _ 23 Knw10.out _ Tryd.underlying23 rfl 32 size_digest HA0.out.size ?_)
     | (refine wpList_load_blk_if (by first | rfl | go_simp) 23 _ rfl (w8.heap.size + 1) rfl _ 23 Kz9w10.out _ Tryd.underlying23 rfl 32 size_digest HA0.out.size ?_))
  refine (CJ.out _ (HT0.out.below HBw10.out) (Htab.out.below HBw10.out)).mono ?_
  rintro e w11 ⟨rfl, bw11⟩
  have HBw11 := hid (Below.on HBw10.out bw11)
  have hsw11 := HBw11.out.size
  have K0w11 := hid (K0w10.out.below bw11)
  have K1w11 := hid (K1w10.out.below bw11)
  have K2w11 := hid (K2w10.out.below bw11)
  have Kiw11 := hid (Kiw10.out.below bw11)
  have Knw11 := hid (Knw10.out.below bw11)
  have Kxw11 := hid (Kxw10.out.below bw11)
  have Kyw11 := hid (Kyw10.out.below bw11)
  have Kz9w11 := hid (Kz9w10.out.below bw11)
  clear bw11
  go_wp2_with fail
  refine (knows16 _ (Htab.out.below HBw11.out)).mono ?_
  rintro e w12 ⟨rfl, bw12⟩
  have HBw12 := hid (Below.on HBw11.out bw12)
  have hsw12 := HBw12.out.size
  have K0w12 := hid (K0w11.out.below bw12)
  have K1w12 := hid (K1w11.out.below bw12)
  have K2w12 := hid (K2w11.out.below bw12)
  have Kiw12 := hid (Kiw11.out.below bw12)
  have Knw12 := hid (Knw11.out.below bw12)
  have Kxw12 := hid (Kxw11.out.below bw12)
  have Kyw12 := hid (Kyw11.out.below bw12)
  have Kz9w12 := hid (Kz9w11.out.below bw12)
  clear bw12
  go_wp2_with fail
  go_returns
  exact ⟨rfl, HBw12.out⟩
end Go.Proofs.YtjkfbeillmeomaaDoor
