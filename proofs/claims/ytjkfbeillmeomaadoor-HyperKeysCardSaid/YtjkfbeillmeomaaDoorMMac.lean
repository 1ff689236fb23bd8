/-
  Mac, MacCode: one text.
-/
import Derived.Test.YtjkfbeillmeomaaDoorMDig
import Derived.Test.YtjkfbeillmeomaaDoorMNum
import Derived.Test.YtjkfbeillmeomaaDoorNFlow
import Derived.Test.YtjkfbeillmeomaaDoorNShaRefSum
namespace Go.Proofs.YtjkfbeillmeomaaDoor
open Go.ChangeShapes Go.WideShapes Go.ChangeAt Go.RowKit

set_option maxRecDepth 100000 in
theorem size_64 : (Tryd.prog.info? 175).map (·.size) = some 64 := by kernel_rfl
set_option maxRecDepth 100000 in
theorem zsize64 : (byteCells 64 []).size = 64 := byteCells_size 64 [] (by simp)

set_option maxHeartbeats 2000000 in
set_option maxRecDepth 100000 in
theorem blockOf_short (a : Option Addr) (len cap : Nat) (key : List Int) (w : World) (hT : TextAt w a len cap key) (hn : len ≤ 64) :
    Calls Tryd.prog 132 #[.slice a len cap] w fun e w' => e = .returned (.agg ((blockZ key).map (Value.int .u8)).toArray) ∧ Below w.heap.size w w' := by
  have hl := hT.length
  have hle := hT.le
  have hm := hT.max
  have hB : byteCells 64 key = ((blockZ key).map (Value.int .u8)).toArray := by
    unfold blockZ
    rw [if_neg (by omega), byteCells_pad]
  have b1 := (Below.refl w.heap.size w).alloc (Nat.le_refl _) (.cells (byteCells 64 []) 175 (0, 0))
  have b2 := b1.alloc b1.size (.cells (byteCells 64 []) 175 (0, 0))
  have k1 := (Blk.new (w := w) rfl (byteCells 64 []) 175).old (.cells (byteCells 64 []) 175 (0, 0))
  have k2 : Blk ((w.alloc (.cells (byteCells 64 []) 175 (0, 0))).alloc (.cells (byteCells 64 []) 175 (0, 0))) (w.heap.size + 1) (byteCells 64 []) 175 := Blk.new (by rw [World.size_alloc]) _ _
  have HT2 := hid (hT.below b2)
  have Hb2 := hid b2
  have Hk1 := hid k1
  have Hk2 := hid k2
  have HB := hid hB
  have Hl := hid hl
  have Hs := hid (byteCells_size 64 key (by omega))
  have Hz := hid zsize64
  have Hmin : Hid (len = Nat.min len 64) := hid (Nat.min_eq_left hn).symm
  have H1 : Hid ((byteCells 64 key).all (·.oneCell') = true) := hid (by rw [hB]; exact ints_one _ _)
  clear hT b1 b2 k1 k2 hB hl
  go_enter Tryd.func132, Tryd.ntmps132
  go_wp2_with (first | (refine wpList_copy_front rfl _ _ _ _ rfl 5 Tryd.underlying81 size_byte8 (w.heap.size + 1) 64 rfl a len cap rfl 175 Hk2.out _ HT2.out hn ?_; intro w3 b3 k3; have Hk3 := hid k3; have Hr3 := hid (b3.blk Hk1.out (by omega)); have Hb3 := hid (b3.below Hb2.out Hb2.out.size (by omega)); clear b3 k3) | (refine wpList_load_blk rfl 175 _ rfl (w.heap.size + 1) rfl (byteCells 64 key) 175 Hk3.out _ Tryd.underlying175 rfl 64 size_64 Hs.out ?_) | (refine wpList_store_blk rfl 175 _ _ rfl w.heap.size _ rfl rfl _ 175 Hr3.out 64 size_64 Hz.out Hs.out H1.out ?_; intro w6 hbut6 hk6))
  rw [← HB.out]
  exact bodyPost_ret (v := .agg (byteCells 64 key)) (results_blk Tryd.results132 _ w.heap.size rfl _ 175 hk6 _ Tryd.underlying175 rfl 64 size_64 Hs.out) rfl ⟨rfl, hbut6.below Hb3.out Hb3.out.size (Nat.le_refl _)⟩

set_option maxHeartbeats 2000000 in
set_option maxRecDepth 100000 in
theorem blockOf_long (a : Option Addr) (len cap : Nat) (key : List Int) (w : World) (hT : TextAt w a len cap key) (hn : 64 < len) (hbnd : len < 1152921504606846976) (tab : ShaTab w) :
    Calls Tryd.prog 132 #[.slice a len cap] w fun e w' => e = .returned (.agg ((blockZ key).map (Value.int .u8)).toArray) ∧ Below w.heap.size w w' := by
  have hl := hT.length
  have hle := hT.le
  have hm := hT.max
  have hB : byteCells 64 (sumZ key) = ((blockZ key).map (Value.int .u8)).toArray := by
    unfold blockZ
    rw [if_pos (by omega), byteCells_pad, sumZ_length]
  have b1 := (Below.refl w.heap.size w).alloc (Nat.le_refl _) (.cells (byteCells 64 []) 175 (0, 0))
  have b2 := b1.alloc b1.size (.cells (byteCells 64 []) 175 (0, 0))
  have k1 := (Blk.new (w := w) rfl (byteCells 64 []) 175).old (.cells (byteCells 64 []) 175 (0, 0))
  have k2 : Blk ((w.alloc (.cells (byteCells 64 []) 175 (0, 0))).alloc (.cells (byteCells 64 []) 175 (0, 0))) (w.heap.size + 1) (byteCells 64 []) 175 := Blk.new (by rw [World.size_alloc]) _ _
  have b3 := b2.alloc b2.size (.cells #[.slice a len cap] 81 (0, 0))
  have k13 := k1.old (.cells #[.slice a len cap] 81 (0, 0))
  have k23 := k2.old (.cells #[.slice a len cap] 81 (0, 0))
  have hT3 := hT.below b3
  have hTs : TextsAt (((w.alloc (.cells (byteCells 64 []) 175 (0, 0))).alloc (.cells (byteCells 64 []) 175 (0, 0))).alloc (.cells #[.slice a len cap] 81 (0, 0))) (some ⟨w.heap.size + 2, 0, none⟩) 1 1 [key] :=
    TextsAt.of_blk (Blk.new (by rw [World.size_alloc, World.size_alloc]) _ _) rfl (Nat.le_refl _) (by omega) fun j hj => by
      obtain rfl : j = 0 := by omega
      exact ⟨_, _, _, rfl, hT3⟩
  have HTs := hid hTs
  have Hb3 := hid b3
  have Hk1 := hid k13
  have Hk2 := hid k23
  have HB := hid hB
  have Hl := hid hl
  have Htab := hid tab
  have Hs := hid (byteCells_size 64 (sumZ key) (by rw [sumZ_length]; omega))
  have Hz := hid zsize64
  have H1 : Hid ((byteCells 64 (sumZ key)).all (·.oneCell') = true) := hid (by rw [hB]; exact ints_one _ _)
  have HzA := hid zsize
  have Hl2 := hid (sumZ_length key)
  have HSs := hid (sumZ_small key)
  clear hT b1 b2 b3 k1 k2 k13 k23 hB hl hT3 hTs tab
  go_enter Tryd.func132, Tryd.ntmps132
  go_wp2_with fail
  refine (sum_any _ 1 1 [key] _ HTs.out (by simp only [sumLen, List.map_cons, List.map_nil, List.sum_cons, List.sum_nil]; have := Hl.out; omega) (Htab.out.below Hb3.out)).mono ?_
  rintro e w4 ⟨rfl, b4⟩
  rw [show ([key] : List (List Int)).flatten = key by simp]
  have Hb4 := hid (Below.on Hb3.out b4)
  have Hk14 := hid (Hk1.out.below b4)
  have Hk24 := hid (Hk2.out.below b4)
  have hz4 := Hb4.out.size
  have hlt2 := Hk24.out.lt
  clear b4 Hk1 Hk2 HTs Hb3
  generalize sumZ key = S at *
  go_wp2_with (
    refine wpList_store_blk rfl 23 _ _ rfl w4.heap.size _ rfl rfl _ 23 (Blk.new rfl (byteCells 32 []) _) 32 size_digest HzA.out (dsize Hl2.out) (ints_one _ _) ?_
    intro w5 b5 k5
    have Hb5 := hid (b5.below (Hb4.out.alloc hz4 _) (by rw [World.size_alloc]; omega) hz4)
    have Hk15 := hid (b5.blk (Hk14.out.old _) (by omega))
    have Hk25 := hid (b5.blk (Hk24.out.old _) (by omega))
    have Hk5 := hid k5
    clear b5 k5 Hk14 Hk24)
  simp only [Act.put]
  refine wp_region_flow 2 [0, 1] [] [] (by kernel_rfl) (by kernel_rfl) ?_
  apply Exists.intro
  refine ⟨fun w0 hb0 hF0 => ?_, ?_⟩
  · simp only [pick, List.getElem?_toArray, List.getElem?_cons_succ, List.getElem?_cons_zero, Option.toList_some, List.cons_append, List.nil_append]
    repeat (go_big_quiet_step (fail))
    exact wpQuiet_nil rfl
  refine AlChk.nil ?_
  refine Walk.fin fun w6 h6 _ _ => ?_
  simp only [List.drop_succ_cons, List.drop_zero]
  have Hb6 := hid (Below.on Hb5.out h6)
  have Hk16 := hid (Hk15.out.below h6)
  have Hk26 := hid (Hk25.out.below h6)
  have HT6 := hid (TextAt.of_ints (Hk5.out.below h6) Hl2.out (by omega) HSs.out)
  clear h6 Hb5 Hk15 Hk25 Hk5
  go_wp2_with (first | (refine wpList_copy_front rfl _ _ _ _ rfl 5 Tryd.underlying81 size_byte8 (w.heap.size + 1) 64 rfl _ 32 32 rfl 175 Hk26.out _ HT6.out (by omega) ?_; intro w7 b7 k7; have Hk7 := hid k7; have Hr7 := hid (b7.blk Hk16.out (by omega)); have Hb7 := hid (b7.below Hb6.out Hb6.out.size (by omega)); clear b7 k7) | (refine wpList_load_blk rfl 175 _ rfl (w.heap.size + 1) rfl (byteCells 64 S) 175 Hk7.out _ Tryd.underlying175 rfl 64 size_64 Hs.out ?_) | (refine wpList_store_blk rfl 175 _ _ rfl w.heap.size _ rfl rfl _ 175 Hr7.out 64 size_64 Hz.out Hs.out H1.out ?_; intro w8 hbut8 hk8))
  rw [← HB.out]
  exact bodyPost_ret (v := .agg (byteCells 64 S)) (results_blk Tryd.results132 _ w.heap.size rfl _ 175 hk8 _ Tryd.underlying175 rfl 64 size_64 Hs.out) rfl ⟨rfl, hbut8.below Hb7.out Hb7.out.size (Nat.le_refl _)⟩
set_option maxRecDepth 100000 in
theorem blockOf_any (a : Option Addr) (len cap : Nat) (key : List Int) (w : World) (hT : TextAt w a len cap key) (hbnd : len < 1152921504606846976) (tab : ShaTab w) :
    Calls Tryd.prog 132 #[.slice a len cap] w fun e w' => e = .returned (.agg ((blockZ key).map (Value.int .u8)).toArray) ∧ Below w.heap.size w w' := by
  by_cases hn : len ≤ 64
  · exact blockOf_short a len cap key w hT hn
  · exact blockOf_long a len cap key w hT (by omega) hbnd tab

set_option maxHeartbeats 2000000 in
set_option maxRecDepth 100000 in
theorem masked_any (bs : List Int) (m : Int) (w : World) (hbs : ∀ x ∈ bs, 0 ≤ x ∧ x < 256) (hl : bs.length = 64) (hm : 0 ≤ m ∧ m < 256) :
    Calls Tryd.prog 133 #[.agg (bs.map (Value.int .u8)).toArray, .int .u8 m] w fun e w' => ∃ g, e = .returned (.slice (some ⟨g, 0, none⟩) 64 64) ∧ w.heap.size ≤ g ∧ Blk w' g ((maskZ bs m).map (Value.int .u8)).toArray 5 ∧ Below w.heap.size w w' := by
  obtain ⟨i0, hi, hz0, hz1, hz2⟩ := info_parts info_byte
  have Hl := hid hl
  have Hs := hid (show ((bs.map (Value.int .u8)).toArray).size = 64 by simp [hl])
  have hg64 : ∀ k, k < 64 → ((maskZ bs m).take (k + 1)) = (maskZ bs m).take k ++ [xorZ (bs.getD k 0) m] := fun k hk => by
    have h1 : k < (maskZ bs m).length := by rw [maskZ_length]; omega
    rw [List.take_succ_eq_append_getElem h1]
    congr 2
    simp [maskZ, List.getD_eq_getElem?_getD, show k < bs.length by omega]
  have Hg := hid hg64
  have Hbs := hid hbs
  have Hm := hid hm
  clear hl hg64 hbs hm
  have Hb0 := hid ((Below.refl w.heap.size w).alloc (Nat.le_refl _) (Obj.cells (bs.map (Value.int .u8)).toArray 175))
  have Hk0 := hid (Blk.new (w := w) rfl (bs.map (Value.int .u8)).toArray 175)
  have hix : ∀ (k : Nat), k < 64 → ∀ W, (Instr.index 175 (.agg (bs.map (Value.int .u8)).toArray) (.int .i64 k)).run Tryd.prog W = .ok (.int .u8 (bs.getD k 0)) W := fun k hk W => run_index_ints (P := Tryd.prog) (e := 5) (n := 64) (by kernel_rfl) (by kernel_rfl) rfl rfl bs Hl.out k hk W
  have Hix := hid hix
  clear hix
  go_enter Tryd.func133, Tryd.ntmps133
  go_wp2_with (at_make; refine wpList_make_full _ rfl _ _ 81 rfl (w.heap.size + 1) 5 i0 (.int .u8 0) 1 Tryd.underlying81 hi hz0 hz1 _ _ _ _ 64 rfl rfl rfl rfl ?a3 ?a4 ?a5 ?_)
  case a3 => rw [hz2]; omega
  case a4 => unfold maxLen; omega
  case a5 => rw [World.size_alloc]; omega
  intro w3 hown hgrow
  obtain ⟨_, kB⟩ := blk_of_owns hown
  have e64 : (madeCells #[Value.int IntKind.u8 0] 64).toList.toArray = byteCells 64 [] := by kernel_rfl
  rw [e64] at kB
  have hB3 : Below (w.heap.size + 1) (w.alloc (Obj.cells (bs.map (Value.int .u8)).toArray 175)) w3 := ⟨hgrow.os, hgrow.tape, hgrow.output, hgrow.size, fun k hk => hgrow.block k (by rw [World.size_alloc]; omega) (by simp)⟩
  have Hk3 := hid (Hk0.out.belowB (by omega) hB3)
  have Hb3 := hid (Hb0.out.trans (hB3.mono (by omega)))
  have HkB := hid (show Blk w3 (w.heap.size + 1) (byteCells 64 []) 5 by simpa using kB)
  generalize hgl : w.heap.size + 1 = gl at *
  have hge : w.heap.size ≤ gl := by omega
  clear hown hgrow kB hB3 e64 Hb0 Hk0 hgl
  go_wp2_with (refine wpList_load_blk rfl 175 _ rfl w.heap.size rfl _ 175 Hk3.out _ Tryd.underlying175 rfl 64 size_64 Hs.out ?_)
  go_loopw [10] (fun v wr => ∃ k : Nat, k ≤ 64 ∧ v = .int .i64 k ∧ Blk wr gl (byteCells 64 ((maskZ bs m).take k)) 5 ∧ Below w.heap.size w wr) (fun v _ => 64 - (intOf v).toNat)
  case atStart => exact ⟨0, Nat.zero_le _, rfl, HkB.out, Hb3.out⟩
  case round =>
    clear HkB Hb3 Hk3
    obtain ⟨k, hk, rfl, kr, br⟩ := hrel
    by_cases hlt : k < 64
    · have hi := fun W => Hix.out k hlt W
      have hx : 0 ≤ bs.getD k 0 ∧ bs.getD k 0 < 256 := Hbs.out _ (by
        have := Hl.out
        rw [List.getD_eq_getElem?_getD, List.getElem?_eq_getElem (by omega)]
        exact List.getElem_mem _)
      have hb := bits_xorZ hx Hm.out
      have HG := hid (Hg.out k hlt)
      have hbl : ((maskZ bs m).take k).length = k := by rw [List.length_take, maskZ_length, Hl.out]; omega
      generalize (maskZ bs m).take k = L at *
      generalize bs.getD k 0 = x at *
      have hz : wr.cell? ⟨gl, k, none⟩ = some (.int .u8 0) := by rw [kr.cell]; exact byteCells_zero _ _ _ (by omega) (by omega)
      have fr := kr.free
      have Hkr := hid kr
      have Hbr := hid br
      have Hbl := hid hbl
      obtain ⟨hx0, hx1⟩ := hx
      clear kr br hbl
      go_wp2_with fail
      refine ⟨⟨k + 1, by omega, by go_num, ?_, Hbr.out.setCell (p := ⟨gl, k, none⟩) hge _⟩, by simp [intOf]; omega⟩
      have h1 := Hkr.out.set k (.int .u8 (xorZ x m))
      have h2 := byteCells_set 64 L (xorZ x m) (by have := Hbl.out; omega)
      rw [Hbl.out] at h2
      rw [h2, ← HG.out] at h1
      exact h1
    · have h64 : k = 64 := by omega
      have kf : Blk wr gl ((maskZ bs m).map (Value.int .u8)).toArray 5 := by
        rw [h64, List.take_of_length_le (by rw [maskZ_length, Hl.out]; omega), byteCells_full 64 _ (by rw [maskZ_length, Hl.out])] at kr
        exact kr
      have Hkf := hid kf
      have Hbr := hid br
      have H64 := hid h64
      clear kr br kf h64
      go_wp2_with fail
      go_ret
      exact ⟨gl, rfl, hge, Hkf.out, Hbr.out⟩
end Go.Proofs.YtjkfbeillmeomaaDoor

namespace Go.Proofs.YtjkfbeillmeomaaDoor
open Go.ChangeShapes Go.WideShapes Go.ChangeAt Go.RowKit

set_option maxRecDepth 100000 in
theorem info_text : (Tryd.prog.info? 81).map (fun i => (i.zero, i.size, i.bytes)) = some (some (.slice none 0 0), 1, 24) := by kernel_rfl

set_option maxHeartbeats 4000000 in
set_option maxRecDepth 100000 in
theorem code_any (ka : Option Addr) (kn kc : Nat) (key : List Int) (a : Option Addr) (len cap : Nat) (ts : List (List Int)) (w : World) (hK : TextAt w ka kn kc key) (hT : TextsAt w a len cap ts) (hkn : kn < 1152921504606846976) (hln : len ≤ 4000000000000) (hsl : sumLen ts < 1152921504606846000) (tab : ShaTab w) :
    Calls Tryd.prog 110 #[.slice ka kn kc, .slice a len cap] w fun e w' => e = .returned (.agg ((macZ key ts.flatten).map (Value.int .u8)).toArray) ∧ Below w.heap.size w w' := by
  have hks := hK.small
  have hbl := blockZ_length key
  have hbs := blockZ_small hks
  have HM : Hid (macZ key ts.flatten = sumZ (maskZ (blockZ key) 92 ++ sumZ (maskZ (blockZ key) 54 ++ ts.flatten))) := hid (by unfold macZ; rfl)
  have hfl := flatten_length ts
  have Hkr := hid (Blk.new (w := w) rfl (byteCells 32 []) 23)
  have Hb0 := hid ((Below.refl w.heap.size w).alloc (Nat.le_refl _) (.cells (byteCells 32 []) 23 (0, 0)))
  have HK := hid hK
  have HT := hid hT
  have Htab := hid tab
  have hle := hT.le
  have hmx := hT.max
  have Hfl := hid hfl
  have hl1 := hT.length
  have Hl1 := hid hl1
  clear hK hT tab hks hfl hl1
  have HbS := hid (And.intro hbl hbs)
  obtain ⟨i1, hi1, hz1, hs1, hy1⟩ := info_parts info_text
  have hks64 : (((blockZ key).map (Value.int .u8)).toArray).size = 64 := by simp [hbl]
  have Hs64 := hid hks64
  have Hz64 := hid zsize64
  have HzA := hid zsize
  clear hbl hbs hks64
  go_enter Tryd.func110, Tryd.ntmps110
  go_wp2_with fail
  refine (blockOf_any ka kn kc key _ (HK.out.below Hb0.out) hkn (Htab.out.below Hb0.out)).mono ?_
  rintro e w1 ⟨rfl, b1⟩
  have Hb1 := hid (Below.on Hb0.out b1)
  have Hkr1 := hid (Hkr.out.below b1)
  have hz1' := Hb1.out.size
  have hltr := Hkr1.out.lt
  clear b1 Hkr Hb0
  go_wp2_with (
    first
    | (refine wpList_store_blk rfl 175 _ _ rfl w1.heap.size _ rfl rfl _ 175 (Blk.new rfl (byteCells 64 []) _) 64 size_64 Hz64.out Hs64.out (ints_one _ _) ?_
       intro w2 b2 k2
       have Hb2 := hid (b2.below (Hb1.out.alloc hz1' _) (by rw [World.size_alloc]; omega) hz1')
       have Hk2 := hid k2
       have Hkr2 := hid (b2.blk (Hkr1.out.old _) (by omega))
       clear b2 k2 Hkr1)
    | (refine wpList_load_blk rfl 175 _ rfl w1.heap.size rfl _ 175 Hk2.out _ Tryd.underlying175 rfl 64 size_64 Hs64.out ?_))
  refine (masked_any (blockZ key) 54 w2 HbS.out.2 HbS.out.1 (by omega)).mono ?_
  rintro e w3 ⟨g3, rfl, hg3, k3, b3⟩
  have HT3 := hid (TextAt.of_ints k3 (by rw [maskZ_length, HbS.out.1]) (by omega) (maskZ_small HbS.out.2 (by omega)))
  have Hb3 := hid (Below.on Hb2.out b3)
  have Hk3 := hid (Hk2.out.below b3)
  have Hkr3 := hid (Hkr2.out.below b3)
  have hg3l := k3.lt
  have hz3 := Hb3.out.size
  have ba := (Below.refl w3.heap.size w3).alloc (Nat.le_refl _) (.cells #[.slice (some ⟨g3, 0, none⟩) 64 64] 81 (0, 0))
  have own : OwnL (w3.alloc (.cells #[.slice (some ⟨g3, 0, none⟩) 64 64] 81 (0, 0))) w3.heap.size 81 (.slice (some ⟨w3.heap.size, 0, none⟩) 1 1) [maskZ (blockZ key) 54] :=
    OwnL.of_blk (Blk.new rfl [Value.slice (some ⟨g3, 0, none⟩) 64 64].toArray 81) (Nat.le_refl _) rfl rfl (by omega) fun j hj => by
      obtain rfl : j = 0 := by omega
      exact ⟨_, _, _, rfl, HT3.out.below ba, fun _ p hp => by cases hp; exact hg3l⟩
  have Hown := hid own
  have Hb4 := hid (Hb3.out.alloc hz3 (.cells #[.slice (some ⟨g3, 0, none⟩) 64 64] 81 (0, 0)))
  have Hba := hid ba
  clear k3 b3 own ba Hk2 Hkr2 Hb2
  go_wp2_with (at_builtin; refine wpList_append_texts rfl _ _ rfl Tryd.underlying76 hi1 hz1 hs1 hy1 rfl Hown.out rfl HT.out Hb4.out hz3 ?c1 ?c2 ?_)
  case c1 => simp only [List.length_cons, List.length_nil]; omega
  case c2 => rw [World.size_alloc]; omega
  intro v5 w5 own5 b5
  have Hb5w := hid (Hba.out.trans b5)
  obtain ⟨a5, c5, rfl, hT5⟩ := own5.texts
  rw [show (maskZ (blockZ key) 54 :: ts).length = len + 1 by rw [List.length_cons, Hl1.out]] at hT5 ⊢
  have HT5 := hid hT5
  have Hb5 := hid (Below.on Hb3.out Hb5w.out)
  have Hk5 := hid (Hk3.out.below Hb5w.out)
  have Hkr5 := hid (Hkr3.out.below Hb5w.out)
  have hz5 := Hb5.out.size
  clear own5 b5 hT5 Hk3 Hkr3 Hown Hba Hb4
  go_wp2_with fail
  refine (sum_any a5 (len + 1) c5 _ w5 HT5.out (by simp only [sumLen, List.map_cons, List.sum_cons, maskZ_length, HbS.out.1]; unfold sumLen at hsl; omega) (Htab.out.below Hb5.out)).mono ?_
  rintro e w6 ⟨rfl, b6⟩
  rw [show (maskZ (blockZ key) 54 :: ts).flatten = maskZ (blockZ key) 54 ++ ts.flatten by simp]
  have Hb6 := hid (Below.on Hb5.out b6)
  have Hk6 := hid (Hk5.out.below b6)
  have Hkr6 := hid (Hkr5.out.below b6)
  have hz6 := Hb6.out.size
  have Hl2 := hid (sumZ_length (maskZ (blockZ key) 54 ++ ts.flatten))
  have HSs := hid (sumZ_small (maskZ (blockZ key) 54 ++ ts.flatten))
  have hltk := Hk6.out.lt
  have hltr6 := Hkr6.out.lt
  clear b6 Hk5 Hkr5 HT5 Hb5
  generalize sumZ (maskZ (blockZ key) 54 ++ ts.flatten) = S at *
  generalize w1.heap.size = gk at *
  go_wp2_with (
    refine wpList_store_blk rfl 23 _ _ rfl w6.heap.size _ rfl rfl _ 23 (Blk.new rfl (byteCells 32 []) _) 32 size_digest HzA.out (dsize Hl2.out) (ints_one _ _) ?_
    intro w7 b7 k7
    have Hb7 := hid (b7.below (Hb6.out.alloc hz6 _) (by rw [World.size_alloc]; omega) hz6)
    have Hk7 := hid (b7.blk (Hk6.out.old _) (by omega))
    have Hkr7 := hid (b7.blk (Hkr6.out.old _) (by omega))
    have Hkd7 := hid k7
    clear b7 k7 Hk6 Hkr6)
  generalize w6.heap.size = gd at *
  simp only [Act.put]
  refine wp_region_flow 5 [0, 2] [] [(.c 1, [], [3]), (.b 3, [4], [])] (by kernel_rfl) (by kernel_rfl) ?_
  apply Exists.intro
  refine ⟨fun w0 hb0 hF0 => ?_, ?_⟩
  · have xK : ∀ w', (∃ x : Ext w0, w' = x.at_) → ∃ T, Blk w' gk ((blockZ key).map (Value.int .u8)).toArray T := fun w' ⟨x, hx⟩ => ⟨_, hx ▸ (Hk7.out.below hb0).below x.same⟩
    simp only [pick, List.getElem?_toArray, List.getElem?_cons_succ, List.getElem?_cons_zero, Option.toList_some, List.cons_append, List.nil_append]
    repeat (first | (go_big_quiet_want; refine quiet_load_blk 175 _ rfl gk rfl _ xK _ Tryd.underlying175 rfl 64 size_64 Hs64.out ?_; go_big_quiet_on; simp only [Act.put, List.setIfInBounds_toArray, List.set_cons_zero, List.set_cons_succ]) | go_big_quiet_step (fail))
    exact wpQuiet_nil rfl
  refine AlChk.nil ?_
  refine Walk.call rfl 133 #[.agg ((blockZ key).map (Value.int .u8)).toArray, .int .u8 92] (fun v w' => ∃ g, v = .slice (some ⟨g, 0, none⟩) 64 64 ∧ Blk w' g ((maskZ (blockZ key) 92).map (Value.int .u8)).toArray 5) (fun v w' w'' ⟨g, h1, h2⟩ k => ⟨g, h1, h2.below k⟩) rfl (fun w8 hb8 hF8 => ⟨by go_simp, ?_⟩) ?_
  · refine (masked_any (blockZ key) 92 w8 HbS.out.2 HbS.out.1 (by omega)).mono ?_
    rintro e w9 ⟨g, rfl, hg, k9, b9⟩
    exact ⟨_, rfl, b9, g, rfl, k9⟩
  rintro v w8 hb8 hF8 ⟨g9, rfl, _⟩
  apply Exists.intro
  refine ⟨fun w9 hb9 hF9 => ?_, ?_⟩
  · exact wpQuiet_nil rfl
  refine AlChk.one rfl (fun b => .slice (some ⟨b, 0, none⟩) 2 2) (.cells #[.slice (some ⟨g9, 0, none⟩) 64 64, .slice (some ⟨gd, 0, none⟩) 32 32] 81 (0, 0)) rfl (fun w9 hb9 hF9 => by go_simp) ?_
  refine AlChk.nil ?_
  refine Walk.blk rfl (fun b => .slice (some ⟨b, 0, none⟩) 2 2) (.cells #[.slice (some ⟨g9, 0, none⟩) 64 64, .slice (some ⟨gd, 0, none⟩) 32 32] 81 (0, 0)) (by simp) ?_
  intro b9 w9 hb9 hF9 hge9 _
  apply Exists.intro
  refine ⟨fun w10 hb10 hF10 => ?_, ?_⟩
  · have k10 : Blk w10 b9 #[.slice (some ⟨g9, 0, none⟩) 64 64, .slice (some ⟨gd, 0, none⟩) 32 32] 81 := hF10.2
    obtain ⟨g', he, hk'⟩ := hF10.1.2
    have hg' : g' = g9 := by injection he with h1; injection h1 with h2; injection h2 with h3; exact h3.symm
    subst hg'
    have hs := fun e : Ext w10 => sum_any (some ⟨b9, 0, none⟩) 2 2 [maskZ (blockZ key) 92, S] e.at_ (TextsAt.of_blk (k10.below e.same) rfl (Nat.le_refl _) (by omega) fun j hj => by
      match j, hj with
      | 0, _ => exact ⟨_, _, _, rfl, TextAt.of_ints (bs := maskZ (blockZ key) 92) (hk'.below e.same) (by rw [maskZ_length, HbS.out.1]) (by omega) (maskZ_small HbS.out.2 (by omega))⟩
      | 1, _ => exact ⟨_, _, _, rfl, TextAt.of_ints ((Hkd7.out.below hb10).below e.same) Hl2.out (by omega) HSs.out⟩) (by simp only [sumLen, List.map_cons, List.map_nil, List.sum_cons, List.sum_nil, maskZ_length, HbS.out.1, Hl2.out]; omega) ((Htab.out.below (Below.on Hb7.out hb10)).below e.same)
    rw [show ([maskZ (blockZ key) 92, S] : List (List Int)).flatten = maskZ (blockZ key) 92 ++ S by simp, ← HM.out] at hs
    simp only [pick, List.getElem?_toArray, List.getElem?_cons_succ, List.getElem?_cons_zero, Option.toList_some, List.cons_append, List.nil_append, Act.put, List.setIfInBounds_toArray, List.set_cons_zero, List.set_cons_succ]
    repeat (go_big_quiet_step (first | (go_at_call 115; exact Calls.ext (hs _))))
    exact wpQuiet_nil rfl
  refine AlChk.nil ?_
  refine Walk.fin fun w11 h11 _ _ => ?_
  simp only [List.drop_succ_cons, List.drop_zero]
  have Hkr11 := hid (Hkr7.out.below h11)
  have Hb11 := hid (Below.on Hb7.out h11)
  have Hlm := hid (macZ_length key ts.flatten)
  clear h11
  go_wp2_with (refine wpList_store_blk rfl 23 _ _ rfl w.heap.size _ rfl rfl _ 23 Hkr11.out 32 size_digest HzA.out (dsize Hlm.out) (ints_one _ _) ?_; intro w12 hbut12 hk12)
  exact bodyPost_ret (v := .agg ((macZ key ts.flatten).map (Value.int .u8)).toArray) (results_blk Tryd.results110 _ w.heap.size rfl _ 23 hk12 _ Tryd.underlying23 rfl 32 size_digest (dsize Hlm.out)) rfl ⟨rfl, hbut12.below Hb11.out Hb11.out.size (Nat.le_refl _)⟩
end Go.Proofs.YtjkfbeillmeomaaDoor
