/-
  Contracts of mac.blockOf, mac.masked.
-/
import Derived.Test.YtkiaeepdpmcafaaDoorMacFacts
import Derived.Test.YtkiaeepdpmcafaaDoorNumber
import Derived.Test.YtkiaeepdpmcafaaDoorFlow
namespace Go.Proofs.YtkiaeepdpmcafaaDoor
open Go.ChangeShapes Go.WideShapes Go.ChangeAt Go.RowKit

theorem size_64 : (Tryd.prog.info? 61).map (·.size) = some 64 := by kernel_rfl
theorem zsize64 : (byteCells 64 []).size = 64 := byteCells_size 64 [] (by simp)

set_option maxHeartbeats 2000000 in
set_option maxRecDepth 100000 in
theorem blockOf_short (a : Option Addr) (len cap : Nat) (key : List Int) (w : World) (hT : TextAt w a len cap key) (hn : len ≤ 64) :
    Calls Tryd.prog 46 #[.slice a len cap] w fun e w' => e = .returned (.agg ((blockZ key).map (Value.int .u8)).toArray) ∧ Below w.heap.size w w' := by
  have hl := hT.length
  have hle := hT.le
  have hm := hT.max
  have hB : byteCells 64 key = ((blockZ key).map (Value.int .u8)).toArray := by
    unfold blockZ
    rw [if_neg (by omega), byteCells_pad]
  have b1 := (Below.refl w.heap.size w).alloc (Nat.le_refl _) (.cells (byteCells 64 []) 61 (0, 0))
  have b2 := b1.alloc b1.size (.cells (byteCells 64 []) 61 (0, 0))
  have k1 := (Blk.new (w := w) rfl (byteCells 64 []) 61).old (.cells (byteCells 64 []) 61 (0, 0))
  have k2 : Blk ((w.alloc (.cells (byteCells 64 []) 61 (0, 0))).alloc (.cells (byteCells 64 []) 61 (0, 0))) (w.heap.size + 1) (byteCells 64 []) 61 := Blk.new (by rw [World.size_alloc]) _ _
  have HT2 := hid (hT.below b2)
  have Hb2 := hid b2
  have Hk1 := hid k1
  have Hk2 := hid k2
  have HB := hid hB
  have Hl := hid hl
  have Hs := hid (byteCells_size 64 key (by omega))
  have Hz := hid zsize64
  have Hmin : Hid (len = Nat.min len 64) := hid (Nat.min_eq_left hn).symm
  have H1 : Hid ((byteCells 64 key).all (·.oneCell') = true) := hid (by rw [hB]; exact ints_one _ _)
  clear hT b1 b2 k1 k2 hB hl
  go_enter Tryd.func46, Tryd.ntmps46
  go_wp2_with (first | (refine wpList_copy_front rfl _ _ _ _ rfl 5 Tryd.underlying29 size_byte8 (w.heap.size + 1) 64 rfl a len cap rfl 61 Hk2.out _ HT2.out hn ?_; intro w3 b3 k3; have Hk3 := hid k3; have Hr3 := hid (b3.blk Hk1.out (by omega)); have Hb3 := hid (b3.below Hb2.out Hb2.out.size (by omega)); clear b3 k3) | (refine wpList_load_blk rfl 61 _ rfl (w.heap.size + 1) rfl (byteCells 64 key) 61 Hk3.out _ Tryd.underlying61 rfl 64 size_64 Hs.out ?_) | (refine wpList_store_blk rfl 61 _ _ rfl w.heap.size _ rfl rfl _ 61 Hr3.out 64 size_64 Hz.out Hs.out H1.out ?_; intro w6 hbut6 hk6))
  rw [← HB.out]
  exact bodyPost_ret (v := .agg (byteCells 64 key)) (results_blk Tryd.results46 _ w.heap.size rfl _ 61 hk6 _ Tryd.underlying61 rfl 64 size_64 Hs.out) rfl ⟨rfl, hbut6.below Hb3.out Hb3.out.size (Nat.le_refl _)⟩

set_option maxHeartbeats 2000000 in
set_option maxRecDepth 100000 in
theorem blockOf_long (a : Option Addr) (len cap : Nat) (key : List Int) (w : World) (hT : TextAt w a len cap key) (hn : 64 < len) (hbnd : len < 1152921504606846976) (tab : ShaTab w) :
    Calls Tryd.prog 46 #[.slice a len cap] w fun e w' => e = .returned (.agg ((blockZ key).map (Value.int .u8)).toArray) ∧ Below w.heap.size w w' := by
  have hl := hT.length
  have hle := hT.le
  have hm := hT.max
  have hB : byteCells 64 (sumZ key) = ((blockZ key).map (Value.int .u8)).toArray := by
    unfold blockZ
    rw [if_pos (by omega), byteCells_pad, sumZ_length]
  have b1 := (Below.refl w.heap.size w).alloc (Nat.le_refl _) (.cells (byteCells 64 []) 61 (0, 0))
  have b2 := b1.alloc b1.size (.cells (byteCells 64 []) 61 (0, 0))
  have k1 := (Blk.new (w := w) rfl (byteCells 64 []) 61).old (.cells (byteCells 64 []) 61 (0, 0))
  have k2 : Blk ((w.alloc (.cells (byteCells 64 []) 61 (0, 0))).alloc (.cells (byteCells 64 []) 61 (0, 0))) (w.heap.size + 1) (byteCells 64 []) 61 := Blk.new (by rw [World.size_alloc]) _ _
  have b3 := b2.alloc b2.size (.cells #[.slice a len cap] 29 (0, 0))
  have k13 := k1.old (.cells #[.slice a len cap] 29 (0, 0))
  have k23 := k2.old (.cells #[.slice a len cap] 29 (0, 0))
  have hT3 := hT.below b3
  have hTs : TextsAt (((w.alloc (.cells (byteCells 64 []) 61 (0, 0))).alloc (.cells (byteCells 64 []) 61 (0, 0))).alloc (.cells #[.slice a len cap] 29 (0, 0))) (some ⟨w.heap.size + 2, 0, none⟩) 1 1 [key] :=
    TextsAt.of_blk (Blk.new (by rw [World.size_alloc, World.size_alloc]) _ _) rfl (Nat.le_refl _) (by omega) fun j hj => by
      obtain rfl : j = 0 := by omega
      exact ⟨_, _, _, rfl, hT3⟩
  have HTs := hid hTs
  have Hb3 := hid b3
  have Hk1 := hid k13
  have Hk2 := hid k23
  have HB := hid hB
  have Hl := hid hl
  have Htab := hid tab
  have Hs := hid (byteCells_size 64 (sumZ key) (by rw [sumZ_length]; omega))
  have Hz := hid zsize64
  have H1 : Hid ((byteCells 64 (sumZ key)).all (·.oneCell') = true) := hid (by rw [hB]; exact ints_one _ _)
  have HzA := hid zsize
  have Hl2 := hid (sumZ_length key)
  have HSs := hid (sumZ_small key)
  clear hT b1 b2 b3 k1 k2 k13 k23 hB hl hT3 hTs tab
  go_enter Tryd.func46, Tryd.ntmps46
  go_wp2_with fail
  refine (sum_any _ 1 1 [key] _ HTs.out (by simp only [sumLen, List.map_cons, List.map_nil, List.sum_cons, List.sum_nil]; have := Hl.out; omega) (Htab.out.below Hb3.out)).mono ?_
  rintro e w4 ⟨rfl, b4⟩
  rw [show ([key] : List (List Int)).flatten = key by simp]
  have Hb4 := hid (Below.on Hb3.out b4)
  have Hk14 := hid (Hk1.out.below b4)
  have Hk24 := hid (Hk2.out.below b4)
  have hz4 := Hb4.out.size
  have hlt2 := Hk24.out.lt
  clear b4 Hk1 Hk2 HTs Hb3
  generalize sumZ key = S at *
  go_wp2_with (
    refine wpList_store_blk rfl 26 _ _ rfl w4.heap.size _ rfl rfl _ 26 (Blk.new rfl (byteCells 32 []) _) 32 size_digest HzA.out (dsize Hl2.out) (ints_one _ _) ?_
    intro w5 b5 k5
    have Hb5 := hid (b5.below (Hb4.out.alloc hz4 _) (by rw [World.size_alloc]; omega) hz4)
    have Hk15 := hid (b5.blk (Hk14.out.old _) (by omega))
    have Hk25 := hid (b5.blk (Hk24.out.old _) (by omega))
    have Hk5 := hid k5
    clear b5 k5 Hk14 Hk24)
  simp only [Act.put]
  refine wp_region_flow 2 [0, 1] [] [] (by kernel_rfl) (by kernel_rfl) ?_
  apply Exists.intro
  refine ⟨fun w0 hb0 hF0 => ?_, ?_⟩
  · simp only [pick, List.getElem?_toArray, List.getElem?_cons_succ, List.getElem?_cons_zero, Option.toList_some, List.cons_append, List.nil_append]
    repeat (go_big_quiet_step (fail))
    exact wpQuiet_nil rfl
  refine AlChk.nil ?_
  refine Walk.fin fun w6 h6 _ _ => ?_
  simp only [List.drop_succ_cons, List.drop_zero]
  have Hb6 := hid (Below.on Hb5.out h6)
  have Hk16 := hid (Hk15.out.below h6)
  have Hk26 := hid (Hk25.out.below h6)
  have HT6 := hid (TextAt.of_ints (Hk5.out.below h6) Hl2.out (by omega) HSs.out)
  clear h6 Hb5 Hk15 Hk25 Hk5
  go_wp2_with (first | (refine wpList_copy_front rfl _ _ _ _ rfl 5 Tryd.underlying29 size_byte8 (w.heap.size + 1) 64 rfl _ 32 32 rfl 61 Hk26.out _ HT6.out (by omega) ?_; intro w7 b7 k7; have Hk7 := hid k7; have Hr7 := hid (b7.blk Hk16.out (by omega)); have Hb7 := hid (b7.below Hb6.out Hb6.out.size (by omega)); clear b7 k7) | (refine wpList_load_blk rfl 61 _ rfl (w.heap.size + 1) rfl (byteCells 64 S) 61 Hk7.out _ Tryd.underlying61 rfl 64 size_64 Hs.out ?_) | (refine wpList_store_blk rfl 61 _ _ rfl w.heap.size _ rfl rfl _ 61 Hr7.out 64 size_64 Hz.out Hs.out H1.out ?_; intro w8 hbut8 hk8))
  rw [← HB.out]
  exact bodyPost_ret (v := .agg (byteCells 64 S)) (results_blk Tryd.results46 _ w.heap.size rfl _ 61 hk8 _ Tryd.underlying61 rfl 64 size_64 Hs.out) rfl ⟨rfl, hbut8.below Hb7.out Hb7.out.size (Nat.le_refl _)⟩
theorem blockOf_any (a : Option Addr) (len cap : Nat) (key : List Int) (w : World) (hT : TextAt w a len cap key) (hbnd : len < 1152921504606846976) (tab : ShaTab w) :
    Calls Tryd.prog 46 #[.slice a len cap] w fun e w' => e = .returned (.agg ((blockZ key).map (Value.int .u8)).toArray) ∧ Below w.heap.size w w' := by
  by_cases hn : len ≤ 64
  · exact blockOf_short a len cap key w hT hn
  · exact blockOf_long a len cap key w hT (by omega) hbnd tab

set_option maxHeartbeats 2000000 in
set_option maxRecDepth 100000 in
theorem masked_any (bs : List Int) (m : Int) (w : World) (hbs : ∀ x ∈ bs, 0 ≤ x ∧ x < 256) (hl : bs.length = 64) (hm : 0 ≤ m ∧ m < 256) :
    Calls Tryd.prog 47 #[.agg (bs.map (Value.int .u8)).toArray, .int .u8 m] w fun e w' => ∃ g, e = .returned (.slice (some ⟨g, 0, none⟩) 64 64) ∧ w.heap.size ≤ g ∧ Blk w' g ((maskZ bs m).map (Value.int .u8)).toArray 5 ∧ Below w.heap.size w w' := by
  obtain ⟨i0, hi, hz0, hz1, hz2⟩ := info_parts info_byte
  have Hl := hid hl
  have Hs := hid (show ((bs.map (Value.int .u8)).toArray).size = 64 by simp [hl])
  have hg64 : ∀ k, k < 64 → ((maskZ bs m).take (k + 1)) = (maskZ bs m).take k ++ [xorZ (bs.getD k 0) m] := fun k hk => by
    have h1 : k < (maskZ bs m).length := by rw [maskZ_length]; omega
    rw [List.take_succ_eq_append_getElem h1]
    congr 2
    simp [maskZ, List.getD_eq_getElem?_getD, show k < bs.length by omega]
  have Hg := hid hg64
  have Hbs := hid hbs
  have Hm := hid hm
  clear hl hg64 hbs hm
  have Hb0 := hid ((Below.refl w.heap.size w).alloc (Nat.le_refl _) (Obj.cells (bs.map (Value.int .u8)).toArray 61))
  have Hk0 := hid (Blk.new (w := w) rfl (bs.map (Value.int .u8)).toArray 61)
  have hix : ∀ (k : Nat), k < 64 → ∀ W, (Instr.index 61 (.agg (bs.map (Value.int .u8)).toArray) (.int .i64 k)).run Tryd.prog W = .ok (.int .u8 (bs.getD k 0)) W := fun k hk W => run_index_ints (P := Tryd.prog) (e := 5) (n := 64) (by kernel_rfl) (by kernel_rfl) rfl rfl bs Hl.out k hk W
  have Hix := hid hix
  clear hix
  go_enter Tryd.func47, Tryd.ntmps47
  go_wp2_with (at_make; refine wpList_make_full _ rfl _ _ 29 rfl (w.heap.size + 1) 5 i0 (.int .u8 0) 1 Tryd.underlying29 hi hz0 hz1 _ _ _ _ 64 rfl rfl rfl rfl ?a3 ?a4 ?a5 ?_)
  case a3 => rw [hz2]; omega
  case a4 => unfold maxLen; omega
  case a5 => rw [World.size_alloc]; omega
  intro w3 hown hgrow
  obtain ⟨_, kB⟩ := blk_of_owns hown
  have e64 : (madeCells #[Value.int IntKind.u8 0] 64).toList.toArray = byteCells 64 [] := by kernel_rfl
  rw [e64] at kB
  have hB3 : Below (w.heap.size + 1) (w.alloc (Obj.cells (bs.map (Value.int .u8)).toArray 61)) w3 := ⟨hgrow.os, hgrow.tape, hgrow.output, hgrow.size, fun k hk => hgrow.block k (by rw [World.size_alloc]; omega) (by simp)⟩
  have Hk3 := hid (Hk0.out.belowB (by omega) hB3)
  have Hb3 := hid (Hb0.out.trans (hB3.mono (by omega)))
  have HkB := hid (show Blk w3 (w.heap.size + 1) (byteCells 64 []) 5 by simpa using kB)
  generalize hgl : w.heap.size + 1 = gl at *
  have hge : w.heap.size ≤ gl := by omega
  clear hown hgrow kB hB3 e64 Hb0 Hk0 hgl
  go_wp2_with (refine wpList_load_blk rfl 61 _ rfl w.heap.size rfl _ 61 Hk3.out _ Tryd.underlying61 rfl 64 size_64 Hs.out ?_)
  go_loopw [10] (fun v wr => ∃ k : Nat, k ≤ 64 ∧ v = .int .i64 k ∧ Blk wr gl (byteCells 64 ((maskZ bs m).take k)) 5 ∧ Below w.heap.size w wr) (fun v _ => 64 - (intOf v).toNat)
  case atStart => exact ⟨0, Nat.zero_le _, rfl, HkB.out, Hb3.out⟩
  case round =>
    clear HkB Hb3 Hk3
    obtain ⟨k, hk, rfl, kr, br⟩ := hrel
    by_cases hlt : k < 64
    · have hi := fun W => Hix.out k hlt W
      have hx : 0 ≤ bs.getD k 0 ∧ bs.getD k 0 < 256 := Hbs.out _ (by
        have := Hl.out
        rw [List.getD_eq_getElem?_getD, List.getElem?_eq_getElem (by omega)]
        exact List.getElem_mem _)
      have hb := bits_xorZ hx Hm.out
      have HG := hid (Hg.out k hlt)
      have hbl : ((maskZ bs m).take k).length = k := by rw [List.length_take, maskZ_length, Hl.out]; omega
      generalize (maskZ bs m).take k = L at *
      generalize bs.getD k 0 = x at *
      have hz : wr.cell? ⟨gl, k, none⟩ = some (.int .u8 0) := by rw [kr.cell]; exact byteCells_zero _ _ _ (by omega) (by omega)
      have fr := kr.free
      have Hkr := hid kr
      have Hbr := hid br
      have Hbl := hid hbl
      obtain ⟨hx0, hx1⟩ := hx
      clear kr br hbl
      go_wp2_with fail
      refine ⟨⟨k + 1, by omega, by go_num, ?_, Hbr.out.setCell (p := ⟨gl, k, none⟩) hge _⟩, by simp [intOf]; omega⟩
      have h1 := Hkr.out.set k (.int .u8 (xorZ x m))
      have h2 := byteCells_set 64 L (xorZ x m) (by have := Hbl.out; omega)
      rw [Hbl.out] at h2
      rw [h2, ← HG.out] at h1
      exact h1
    · have h64 : k = 64 := by omega
      have kf : Blk wr gl ((maskZ bs m).map (Value.int .u8)).toArray 5 := by
        rw [h64, List.take_of_length_le (by rw [maskZ_length, Hl.out]; omega), byteCells_full 64 _ (by rw [maskZ_length, Hl.out])] at kr
        exact kr
      have Hkf := hid kf
      have Hbr := hid br
      have H64 := hid h64
      clear kr br kf h64
      go_wp2_with fail
      go_ret
      exact ⟨gl, rfl, hge, Hkf.out, Hbr.out⟩
end Go.Proofs.YtkiaeepdpmcafaaDoor
