/-
  Contract of planchetref02.Code.
-/
import Derived.Test.YtjkfbeillmeomaaDoorMMac
import Derived.Test.YtjkfbeillmeomaaDoorMText
namespace Go.Proofs.YtjkfbeillmeomaaDoor
open Go.ChangeShapes Go.WideShapes Go.ChangeAt Go.RowKit

/-- what the loop needs of the key, whichever way it came -/
structure KeyAt (w wz : World) (a : Option Addr) (n c : Nat) (key key' : List Int) : Prop where
  txt : TextAt wz a n c key'
  few : n ≤ 64
  blk : blockZ key = key' ++ List.replicate (64 - n) 0
  res : Blk wz w.heap.size (byteCells 32 []) 23
  bel : Below w.heap.size w wz

set_option maxHeartbeats 8000000 in
set_option maxRecDepth 100000 in
theorem refcode_any (ka : Option Addr) (kn kc : Nat) (key : List Int) (a : Option Addr) (len cap : Nat) (text : List Int) (w : World) (hK : TextAt w ka kn kc key) (hT : TextAt w a len cap text) (hkn : kn ≤ 140737488340000) (hln : len ≤ 140737488339000) :
    Calls Tryd.prog 116 #[.slice ka kn kc, .slice a len cap] w fun e w' => e = .returned (.agg ((macZ key text).map (Value.int .u8)).toArray) ∧ Below w.heap.size w w' := by
  have HM : Hid (macZ key text = sumZ (maskZ (blockZ key) 92 ++ sumZ (maskZ (blockZ key) 54 ++ text))) := hid (by unfold macZ; rfl)
  have Hkr := hid (Blk.new (w := w) rfl (byteCells 32 []) 23)
  have Hb0 := hid ((Below.refl w.heap.size w).alloc (Nat.le_refl _) (.cells (byteCells 32 []) 23 (0, 0)))
  have HbS := hid (And.intro (blockZ_length key) (blockZ_small hK.small))
  have HK := hid hK
  have HT := hid hT
  have HzA := hid zsize
  have hkl := hK.length
  have hkle := hK.le
  have hkm := hK.max
  have hle := hT.le
  have hmx := hT.max
  have hlt := hT.length
  have Hlt := hid hlt
  have Hkl := hid hkl
  obtain ⟨i0, hi, hz0, hz1, hz2⟩ := info_parts info_byte
  clear hK hT hkl hlt
  go_enter Tryd.func116, Tryd.ntmps116
  by_cases hcase : kn ≤ 64
  · have hA : KeyAt w (w.alloc (Obj.cells #[Value.int IntKind.u8 0, Value.int IntKind.u8 0, Value.int IntKind.u8 0, Value.int IntKind.u8 0, Value.int IntKind.u8 0, Value.int IntKind.u8 0, Value.int IntKind.u8 0, Value.int IntKind.u8 0, Value.int IntKind.u8 0, Value.int IntKind.u8 0, Value.int IntKind.u8 0, Value.int IntKind.u8 0, Value.int IntKind.u8 0, Value.int IntKind.u8 0, Value.int IntKind.u8 0, Value.int IntKind.u8 0, Value.int IntKind.u8 0, Value.int IntKind.u8 0, Value.int IntKind.u8 0, Value.int IntKind.u8 0, Value.int IntKind.u8 0, Value.int IntKind.u8 0, Value.int IntKind.u8 0, Value.int IntKind.u8 0, Value.int IntKind.u8 0, Value.int IntKind.u8 0, Value.int IntKind.u8 0, Value.int IntKind.u8 0, Value.int IntKind.u8 0, Value.int IntKind.u8 0, Value.int IntKind.u8 0, Value.int IntKind.u8 0] 23)) ka kn kc key key :=
      ⟨HK.out.below Hb0.out, hcase, by unfold blockZ; rw [if_neg (by have := Hkl.out; omega), Hkl.out], Hkr.out, Hb0.out⟩
    have HA := hid hA
    clear hA
    go_wp2_with fail
    generalize w.alloc (Obj.cells #[Value.int IntKind.u8 0, Value.int IntKind.u8 0, Value.int IntKind.u8 0, Value.int IntKind.u8 0, Value.int IntKind.u8 0, Value.int IntKind.u8 0, Value.int IntKind.u8 0, Value.int IntKind.u8 0, Value.int IntKind.u8 0, Value.int IntKind.u8 0, Value.int IntKind.u8 0, Value.int IntKind.u8 0, Value.int IntKind.u8 0, Value.int IntKind.u8 0, Value.int IntKind.u8 0, Value.int IntKind.u8 0, Value.int IntKind.u8 0, Value.int IntKind.u8 0, Value.int IntKind.u8 0, Value.int IntKind.u8 0, Value.int IntKind.u8 0, Value.int IntKind.u8 0, Value.int IntKind.u8 0, Value.int IntKind.u8 0, Value.int IntKind.u8 0, Value.int IntKind.u8 0, Value.int IntKind.u8 0, Value.int IntKind.u8 0, Value.int IntKind.u8 0, Value.int IntKind.u8 0, Value.int IntKind.u8 0, Value.int IntKind.u8 0] 23) = wz at HA ⊢
    go_loopw [6, 7, 8] (fun va vb i wr => ∃ k : Nat, k ≤ 64 ∧ i = .int .i64 k ∧ OwnB wr wz.heap.size 5 va (maskZ ((blockZ key).take k) 54) ∧ OwnB wr wz.heap.size 5 vb (maskZ ((blockZ key).take k) 92) ∧ (∀ q, va.ownBlock = some q → vb.ownBlock ≠ some q) ∧ Below wz.heap.size wz wr) (fun _ _ i _ => 64 - (intOf i).toNat)
    case atStart => exact ⟨0, Nat.zero_le _, rfl, by simpa [maskZ] using OwnB.nil wz wz.heap.size 5, by simpa [maskZ] using OwnB.nil wz wz.heap.size 5, fun q h => (by cases h), Below.refl _ _⟩
    case round =>
      obtain ⟨k, hk, rfl, oa, ob, hap, bel⟩ := hrel
      have Hoa := hid oa
      have Hob := hid ob
      have Hap := hid hap
      have Hbel := hid bel
      have hszr := bel.size
      clear oa ob hap bel
      by_cases hlt : k < 64
      · have hx0 : 0 ≤ (blockZ key).getD k 0 ∧ (blockZ key).getD k 0 < 256 := HbS.out.2 _ (by
          have := HbS.out.1
          rw [List.getD_eq_getElem?_getD, List.getElem?_eq_getElem (by omega)]
          exact List.getElem_mem _)
        have ht1 : ∀ m : Int, maskZ ((blockZ key).take (k + 1)) m = maskZ ((blockZ key).take k) m ++ [xorZ ((blockZ key).getD k 0) m] := fun m => by
          have := HbS.out.1
          unfold maskZ
          rw [List.take_succ_eq_append_getElem (by omega), List.map_append, List.map_cons, List.map_nil, List.getD_eq_getElem?_getD, List.getElem?_eq_getElem (by omega)]
          rfl
        have HtA := hid (ht1 54)
        have HtB := hid (ht1 92)
        have hbA := bits_xorZ hx0 (show (0 : Int) ≤ 54 ∧ (54 : Int) < 256 by omega)
        have hbB := bits_xorZ hx0 (show (0 : Int) ≤ 92 ∧ (92 : Int) < 256 by omega)
        have hsA := xorZ_small hx0 (show (0 : Int) ≤ 54 ∧ (54 : Int) < 256 by omega)
        have hsB := xorZ_small hx0 (show (0 : Int) ≤ 92 ∧ (92 : Int) < 256 by omega)
        have hlA : (maskZ ((blockZ key).take k) 54).length = k := by rw [maskZ_length, List.length_take, HbS.out.1]; omega
        have hlB : (maskZ ((blockZ key).take k) 92).length = k := by rw [maskZ_length, List.length_take, HbS.out.1]; omega
        have hget : (blockZ key).getD k 0 = if k < kn then (key).getD k 0 else 0 := by
          have hl := HA.out.txt.length
          rw [HA.out.blk]
          simp only [List.getD_eq_getElem?_getD]
          split
          · rw [List.getElem?_append_left (by omega)]
          · rw [List.getElem?_append_right (by omega), List.getElem?_replicate]
            split <;> rfl
        have Hget := hid hget
        have HlA := hid hlA
        have HlB := hid hlB
        have HsA := hid hsA
        have HsB := hid hsB
        obtain ⟨hx1, hx2⟩ := hx0
        clear ht1 hget hlA hlB hsA hsB
        generalize hX : (blockZ key).getD k 0 = X at *
        have HX := hid hX
        clear hX
        by_cases hin : k < kn
        all_goals
          first
          | (have hin2 : k < kn := hin
             obtain ⟨p, o, hpa, hp, hc⟩ := HA.out.txt.at_ (show 0 < kn by omega)
             have hcX : wr.cell? ⟨p, o + k, none⟩ = some (.int .u8 X) := by rw [Hbel.out.cell (p := ⟨p, o + k, none⟩) hp, hc k hin2, Hget.out, if_pos hin2]
             cases hpa
             try simp only [Nat.zero_add] at hcX
             clear hc)
          | (have hX0 : X = 0 := by rw [Hget.out, if_neg hin]
             have hA0 : bits .xor .u8 0 54 = xorZ X 54 := by rw [hX0]; exact bits_xorZ (by omega) (by omega)
             have hB0 : bits .xor .u8 0 92 = xorZ X 92 := by rw [hX0]; exact bits_xorZ (by omega) (by omega)
             clear hX0 hbA hbB)
        all_goals
          have oN := Hoa.out.below ((Below.refl wr.heap.size wr).alloc (Nat.le_refl _) (Obj.cells #[.int .u8 (xorZ X 54)] 5))
          have kT : TextAt (wr.alloc (Obj.cells #[.int .u8 (xorZ X 54)] 5)) (some ⟨wr.heap.size, 0, none⟩) 1 1 [xorZ X 54] := TextAt.of_ints (T := 5) (Blk.new rfl _ _) rfl (by omega) (by simpa using HsA.out)
          have oB := Hob.out.below ((Below.refl wr.heap.size wr).alloc (Nat.le_refl _) (Obj.cells #[.int .u8 (xorZ X 54)] 5))
          have bN := Hbel.out.alloc Hbel.out.size (Obj.cells #[.int .u8 (xorZ X 54)] 5)
          have HoN := hid oN
          have HkT := hid kT
          have HoB := hid oB
          have HbN := hid bN
          clear oN kT oB bN
        all_goals
          go_wp2_with (at_builtin; refine wpList_append_text_at rfl (.tmp 29) (.tmp 32) rfl Tryd.underlying81 hi hz0 hz1 hz2 rfl HoN.out rfl HkT.out (by have := HlA.out; omega) HbN.out.size ?_)
          intro v5 w5 oA5 g5 b5 hv5
          have hap5 : ∀ q, v5.ownBlock = some q → u7.ownBlock ≠ some q := fun q hq => by
            rcases hv5 with h | h
            · exact Hap.out q (h ▸ hq)
            · intro h7
              have h8 := (HoB.out.lt q h7).2
              simp only [World.size_alloc] at h8
              rw [h, Option.some.injEq] at hq
              omega
          have Ho5 := hid (HoB.out.grown g5 (fun q hq he => Hap.out q he hq))
          have Hap5 := hid hap5
          have Hb5 := hid (HbN.out.trans b5)
          have HoA5 := hid oA5
          have hz5 := Hb5.out.size
          clear oA5 g5 b5 hv5 hap5 HoN HkT HoB HbN
          have kT2 : TextAt (w5.alloc (Obj.cells #[.int .u8 (xorZ X 92)] 5)) (some ⟨w5.heap.size, 0, none⟩) 1 1 [xorZ X 92] := TextAt.of_ints (T := 5) (Blk.new rfl _ _) rfl (by omega) (by simpa using HsB.out)
          have oA6 := HoA5.out.below ((Below.refl w5.heap.size w5).alloc (Nat.le_refl _) (Obj.cells #[.int .u8 (xorZ X 92)] 5))
          have oB6 := Ho5.out.below ((Below.refl w5.heap.size w5).alloc (Nat.le_refl _) (Obj.cells #[.int .u8 (xorZ X 92)] 5))
          have bN6 := Hb5.out.alloc Hb5.out.size (Obj.cells #[.int .u8 (xorZ X 92)] 5)
          have HkT2 := hid kT2
          have HoA6 := hid oA6
          have HoB6 := hid oB6
          have HbN6 := hid bN6
          clear kT2 oA6 oB6 bN6
          go_wp2_with (at_builtin; refine wpList_append_text_at rfl (.tmp 34) (.tmp 37) rfl Tryd.underlying81 hi hz0 hz1 hz2 rfl HoB6.out rfl HkT2.out (by have := HlB.out; omega) HbN6.out.size ?_)
          intro v7 w7 oB7 g7 b7 hv7
          have hap7 : ∀ q, v5.ownBlock = some q → v7.ownBlock ≠ some q := fun q hq => by
            rcases hv7 with h | h
            · rw [h]; exact Hap5.out q hq
            · intro h7
              have h8 := (HoA6.out.lt q hq).2
              simp only [World.size_alloc] at h8
              rw [h, Option.some.injEq] at h7
              omega
          have H7 := hid (And.intro (HoA6.out.grown g7 (fun q hq he => Hap5.out q hq he)) (And.intro oB7 (And.intro hap7 (HbN6.out.trans b7))))
          rw [← HtA.out, ← HtB.out] at H7
          clear oB7 g7 b7 hv7 hap7
          go_wp2_with fail
          exact ⟨⟨k + 1, by omega, by go_num, H7.out.1, H7.out.2.1, H7.out.2.2.1, H7.out.2.2.2⟩, by simp [intOf]; omega⟩
      · have h64 : k = 64 := by omega
        have hfA : maskZ ((blockZ key).take k) 54 = maskZ (blockZ key) 54 := by rw [List.take_of_length_le (by have := HbS.out.1; omega)]
        have hfB : maskZ ((blockZ key).take k) 92 = maskZ (blockZ key) 92 := by rw [List.take_of_length_le (by have := HbS.out.1; omega)]
        rw [hfA] at Hoa
        rw [hfB] at Hob
        have H64 := hid h64
        have HlA := hid (show (maskZ (blockZ key) 54).length = 64 by rw [maskZ_length, HbS.out.1])
        have HlB := hid (show (maskZ (blockZ key) 92).length = 64 by rw [maskZ_length, HbS.out.1])
        have HTw := hid ((HT.out.below HA.out.bel).below Hbel.out)
        have Hkrw := hid (HA.out.res.below Hbel.out)
        have Hbw := hid (Below.on HA.out.bel Hbel.out)
        have hzz := HA.out.bel.size
        clear h64 hfA hfB
        go_wp2_with (at_builtin; refine wpList_append_text_at rfl (.tmp 39) (.tmp 40) rfl Tryd.underlying81 hi hz0 hz1 hz2 rfl Hoa.out rfl HTw.out (by have := HlA.out; omega) hszr ?_)
        intro v5 w5 oA5 g5 b5 _
        have Ho5 := hid (Hob.out.grown g5 (fun q hq he => Hap.out q he hq))
        have Hb5 := hid (Hbw.out.trans (b5.mono hzz))
        have Hkr5 := hid (Hkrw.out.belowB (Nat.lt_of_lt_of_le HA.out.res.lt (Nat.le_refl _)) b5)
        obtain ⟨a6, c6, rfl, hT6, _⟩ := oA5.text
        rw [show (maskZ (blockZ key) 54 ++ text).length = 64 + len by rw [List.length_append, HlA.out, Hlt.out]] at hT6 ⊢
        have HT6 := hid hT6
        have Hz5 := hid (Nat.le_trans hszr (Below.size b5))
        clear oA5 g5 b5 hT6 Hoa Hob Hkrw Hbw
        go_wp2_with fail
        refine (refsum_any a6 (64 + len) c6 (maskZ (blockZ key) 54 ++ text) w5 HT6.out (by omega)).mono ?_
        rintro e w6 ⟨rfl, b6⟩
        have Hb6 := hid (Below.on Hb5.out b6)
        have Hkr6 := hid (Hkr5.out.below b6)
        have Ho6 := hid (Ho5.out.below b6)
        have hz6 := Hb6.out.size
        have hz6b := Nat.le_trans Hz5.out (Below.size b6)
        have hltr6 := Hkr6.out.lt
        have HlS := hid (sumZ_length (maskZ (blockZ key) 54 ++ text))
        have HsS := hid (sumZ_small (maskZ (blockZ key) 54 ++ text))
        clear b6 Ho5 Hkr5 Hb5 HT6
        generalize sumZ (maskZ (blockZ key) 54 ++ text) = S at *
        go_wp2_with (
          first
          | (refine wpList_store_blk rfl 23 _ _ rfl w6.heap.size _ rfl rfl _ 23 (Blk.new rfl (byteCells 32 []) _) 32 size_digest HzA.out (dsize HlS.out) (ints_one _ _) ?_
             intro w7 b7 k7
             have Hb7 := hid (b7.below (Hb6.out.alloc hz6 _) (by rw [World.size_alloc]; omega) hz6)
             have Hkr7 := hid (b7.blk (Hkr6.out.old _) (by omega))
             have Ho7 := hid ((Ho6.out.below ((Below.refl _ _).alloc (Nat.le_refl _) _)).grown (w' := w7) (row := some w6.heap.size) ⟨b7.os, b7.tape, b7.output, b7.size, fun j hj hne => b7.block j hj (fun e => hne (by rw [e]))⟩ (fun q hq he => by
               have := (Ho6.out.lt q hq).2
               rw [Option.some.injEq] at he
               omega))
             have Hz7 := hid (Nat.le_trans hz6b (Nat.le_trans (by rw [World.size_alloc]; omega) b7.size))
             have HT7 := hid (TextAt.of_ints k7 HlS.out (by omega) HsS.out)
             clear b7 k7 Ho6 Hkr6 Hb6)
          | (at_builtin; refine wpList_append_text_at rfl (.tmp 43) (.tmp 44) rfl Tryd.underlying81 hi hz0 hz1 hz2 rfl Ho7.out rfl HT7.out (by have := HlB.out; omega) Hz7.out ?_))
        intro v8 w8 oB8 g8 b8 _
        have Hb8 := hid (Hb7.out.trans (b8.mono hzz))
        have Hkr8 := hid (Hkr7.out.belowB (Nat.lt_of_lt_of_le HA.out.res.lt (Nat.le_refl _)) b8)
        obtain ⟨a9, c9, rfl, hT9, _⟩ := oB8.text
        rw [show (maskZ (blockZ key) 92 ++ S).length = 96 by rw [List.length_append, HlB.out, HlS.out]] at hT9 ⊢
        have HT9 := hid hT9
        clear oB8 g8 b8 hT9 Ho7 HT7 Hkr7 Hb7
        go_wp2_with fail
        refine (refsum_any a9 96 c9 (maskZ (blockZ key) 92 ++ S) w8 HT9.out (by omega)).mono ?_
        rintro e w9 ⟨rfl, b9⟩
        rw [← HM.out]
        have Hb9 := hid (Below.on Hb8.out b9)
        have Hkr9 := hid (Hkr8.out.below b9)
        have Hlm := hid (macZ_length key text)
        clear b9 HT9 Hb8 Hkr8
        go_wp2_with (refine wpList_store_blk rfl 23 _ _ rfl w.heap.size _ rfl rfl _ 23 Hkr9.out 32 size_digest HzA.out (dsize Hlm.out) (ints_one _ _) ?_; intro w12 hbut12 hk12)
        exact bodyPost_ret (v := .agg ((macZ key text).map (Value.int .u8)).toArray) (results_blk Tryd.results116 _ w.heap.size rfl _ 23 hk12 _ Tryd.underlying23 rfl 32 size_digest (dsize Hlm.out)) rfl ⟨rfl, hbut12.below Hb9.out Hb9.out.size (Nat.le_refl _)⟩
  · have hcase2 : 64 < kn := by omega
    go_wp2_with fail
    refine (refsum_any ka kn kc key _ (HK.out.below Hb0.out) (by omega)).mono ?_
    rintro e w4 ⟨rfl, b4⟩
    have Hb4 := hid (Below.on Hb0.out b4)
    have Hkr4 := hid (Hkr.out.below b4)
    have hz4 := Hb4.out.size
    have hltr := Hkr4.out.lt
    have Hl2 := hid (sumZ_length key)
    have HSs := hid (sumZ_small key)
    clear b4 Hkr Hb0
    go_wp2_with (
      refine wpList_store_blk rfl 23 _ _ rfl w4.heap.size _ rfl rfl _ 23 (Blk.new rfl (byteCells 32 []) _) 32 size_digest HzA.out (dsize Hl2.out) (ints_one _ _) ?_
      intro wz b5 k5
      have HA : Hid (KeyAt w wz (some ⟨w4.heap.size, 0, none⟩) 32 32 key (sumZ key)) := hid ⟨TextAt.of_ints k5 Hl2.out (by omega) HSs.out, by omega, by unfold blockZ; rw [if_pos (by have := Hkl.out; omega)], b5.blk (Hkr4.out.old _) (by omega), b5.below (Hb4.out.alloc hz4 _) (by rw [World.size_alloc]; omega) hz4⟩
      clear b5 k5)
    generalize w4.heap.size = gd at HA ⊢
    go_loopw [6, 7, 8] (fun va vb i wr => ∃ k : Nat, k ≤ 64 ∧ i = .int .i64 k ∧ OwnB wr wz.heap.size 5 va (maskZ ((blockZ key).take k) 54) ∧ OwnB wr wz.heap.size 5 vb (maskZ ((blockZ key).take k) 92) ∧ (∀ q, va.ownBlock = some q → vb.ownBlock ≠ some q) ∧ Below wz.heap.size wz wr) (fun _ _ i _ => 64 - (intOf i).toNat)
    case atStart => exact ⟨0, Nat.zero_le _, rfl, by simpa [maskZ] using OwnB.nil wz wz.heap.size 5, by simpa [maskZ] using OwnB.nil wz wz.heap.size 5, fun q h => (by cases h), Below.refl _ _⟩
    case round =>
      obtain ⟨k, hk, rfl, oa, ob, hap, bel⟩ := hrel
      have Hoa := hid oa
      have Hob := hid ob
      have Hap := hid hap
      have Hbel := hid bel
      have hszr := bel.size
      clear oa ob hap bel
      by_cases hlt : k < 64
      · have hx0 : 0 ≤ (blockZ key).getD k 0 ∧ (blockZ key).getD k 0 < 256 := HbS.out.2 _ (by
          have := HbS.out.1
          rw [List.getD_eq_getElem?_getD, List.getElem?_eq_getElem (by omega)]
          exact List.getElem_mem _)
        have ht1 : ∀ m : Int, maskZ ((blockZ key).take (k + 1)) m = maskZ ((blockZ key).take k) m ++ [xorZ ((blockZ key).getD k 0) m] := fun m => by
          have := HbS.out.1
          unfold maskZ
          rw [List.take_succ_eq_append_getElem (by omega), List.map_append, List.map_cons, List.map_nil, List.getD_eq_getElem?_getD, List.getElem?_eq_getElem (by omega)]
          rfl
        have HtA := hid (ht1 54)
        have HtB := hid (ht1 92)
        have hbA := bits_xorZ hx0 (show (0 : Int) ≤ 54 ∧ (54 : Int) < 256 by omega)
        have hbB := bits_xorZ hx0 (show (0 : Int) ≤ 92 ∧ (92 : Int) < 256 by omega)
        have hsA := xorZ_small hx0 (show (0 : Int) ≤ 54 ∧ (54 : Int) < 256 by omega)
        have hsB := xorZ_small hx0 (show (0 : Int) ≤ 92 ∧ (92 : Int) < 256 by omega)
        have hlA : (maskZ ((blockZ key).take k) 54).length = k := by rw [maskZ_length, List.length_take, HbS.out.1]; omega
        have hlB : (maskZ ((blockZ key).take k) 92).length = k := by rw [maskZ_length, List.length_take, HbS.out.1]; omega
        have hget : (blockZ key).getD k 0 = if k < 32 then (sumZ key).getD k 0 else 0 := by
          have hl := HA.out.txt.length
          rw [HA.out.blk]
          simp only [List.getD_eq_getElem?_getD]
          split
          · rw [List.getElem?_append_left (by omega)]
          · rw [List.getElem?_append_right (by omega), List.getElem?_replicate]
            split <;> rfl
        have Hget := hid hget
        have HlA := hid hlA
        have HlB := hid hlB
        have HsA := hid hsA
        have HsB := hid hsB
        obtain ⟨hx1, hx2⟩ := hx0
        clear ht1 hget hlA hlB hsA hsB
        generalize hX : (blockZ key).getD k 0 = X at *
        have HX := hid hX
        clear hX
        by_cases hin : k < 32
        all_goals
          first
          | (have hin2 : k < 32 := hin
             obtain ⟨p, o, hpa, hp, hc⟩ := HA.out.txt.at_ (show 0 < 32 by omega)
             have hcX : wr.cell? ⟨p, o + k, none⟩ = some (.int .u8 X) := by rw [Hbel.out.cell (p := ⟨p, o + k, none⟩) hp, hc k hin2, Hget.out, if_pos hin2]
             cases hpa
             try simp only [Nat.zero_add] at hcX
             clear hc)
          | (have hX0 : X = 0 := by rw [Hget.out, if_neg hin]
             have hA0 : bits .xor .u8 0 54 = xorZ X 54 := by rw [hX0]; exact bits_xorZ (by omega) (by omega)
             have hB0 : bits .xor .u8 0 92 = xorZ X 92 := by rw [hX0]; exact bits_xorZ (by omega) (by omega)
             clear hX0 hbA hbB)
        all_goals
          have oN := Hoa.out.below ((Below.refl wr.heap.size wr).alloc (Nat.le_refl _) (Obj.cells #[.int .u8 (xorZ X 54)] 5))
          have kT : TextAt (wr.alloc (Obj.cells #[.int .u8 (xorZ X 54)] 5)) (some ⟨wr.heap.size, 0, none⟩) 1 1 [xorZ X 54] := TextAt.of_ints (T := 5) (Blk.new rfl _ _) rfl (by omega) (by simpa using HsA.out)
          have oB := Hob.out.below ((Below.refl wr.heap.size wr).alloc (Nat.le_refl _) (Obj.cells #[.int .u8 (xorZ X 54)] 5))
          have bN := Hbel.out.alloc Hbel.out.size (Obj.cells #[.int .u8 (xorZ X 54)] 5)
          have HoN := hid oN
          have HkT := hid kT
          have HoB := hid oB
          have HbN := hid bN
          clear oN kT oB bN
        all_goals
          go_wp2_with (at_builtin; refine wpList_append_text_at rfl (.tmp 29) (.tmp 32) rfl Tryd.underlying81 hi hz0 hz1 hz2 rfl HoN.out rfl HkT.out (by have := HlA.out; omega) HbN.out.size ?_)
          intro v5 w5 oA5 g5 b5 hv5
          have hap5 : ∀ q, v5.ownBlock = some q → u7.ownBlock ≠ some q := fun q hq => by
            rcases hv5 with h | h
            · exact Hap.out q (h ▸ hq)
            · intro h7
              have h8 := (HoB.out.lt q h7).2
              simp only [World.size_alloc] at h8
              rw [h, Option.some.injEq] at hq
              omega
          have Ho5 := hid (HoB.out.grown g5 (fun q hq he => Hap.out q he hq))
          have Hap5 := hid hap5
          have Hb5 := hid (HbN.out.trans b5)
          have HoA5 := hid oA5
          have hz5 := Hb5.out.size
          clear oA5 g5 b5 hv5 hap5 HoN HkT HoB HbN
          have kT2 : TextAt (w5.alloc (Obj.cells #[.int .u8 (xorZ X 92)] 5)) (some ⟨w5.heap.size, 0, none⟩) 1 1 [xorZ X 92] := TextAt.of_ints (T := 5) (Blk.new rfl _ _) rfl (by omega) (by simpa using HsB.out)
          have oA6 := HoA5.out.below ((Below.refl w5.heap.size w5).alloc (Nat.le_refl _) (Obj.cells #[.int .u8 (xorZ X 92)] 5))
          have oB6 := Ho5.out.below ((Below.refl w5.heap.size w5).alloc (Nat.le_refl _) (Obj.cells #[.int .u8 (xorZ X 92)] 5))
          have bN6 := Hb5.out.alloc Hb5.out.size (Obj.cells #[.int .u8 (xorZ X 92)] 5)
          have HkT2 := hid kT2
          have HoA6 := hid oA6
          have HoB6 := hid oB6
          have HbN6 := hid bN6
          clear kT2 oA6 oB6 bN6
          go_wp2_with (at_builtin; refine wpList_append_text_at rfl (.tmp 34) (.tmp 37) rfl Tryd.underlying81 hi hz0 hz1 hz2 rfl HoB6.out rfl HkT2.out (by have := HlB.out; omega) HbN6.out.size ?_)
          intro v7 w7 oB7 g7 b7 hv7
          have hap7 : ∀ q, v5.ownBlock = some q → v7.ownBlock ≠ some q := fun q hq => by
            rcases hv7 with h | h
            · rw [h]; exact Hap5.out q hq
            · intro h7
              have h8 := (HoA6.out.lt q hq).2
              simp only [World.size_alloc] at h8
              rw [h, Option.some.injEq] at h7
              omega
          have H7 := hid (And.intro (HoA6.out.grown g7 (fun q hq he => Hap5.out q hq he)) (And.intro oB7 (And.intro hap7 (HbN6.out.trans b7))))
          rw [← HtA.out, ← HtB.out] at H7
          clear oB7 g7 b7 hv7 hap7
          go_wp2_with fail
          exact ⟨⟨k + 1, by omega, by go_num, H7.out.1, H7.out.2.1, H7.out.2.2.1, H7.out.2.2.2⟩, by simp [intOf]; omega⟩
      · have h64 : k = 64 := by omega
        have hfA : maskZ ((blockZ key).take k) 54 = maskZ (blockZ key) 54 := by rw [List.take_of_length_le (by have := HbS.out.1; omega)]
        have hfB : maskZ ((blockZ key).take k) 92 = maskZ (blockZ key) 92 := by rw [List.take_of_length_le (by have := HbS.out.1; omega)]
        rw [hfA] at Hoa
        rw [hfB] at Hob
        have H64 := hid h64
        have HlA := hid (show (maskZ (blockZ key) 54).length = 64 by rw [maskZ_length, HbS.out.1])
        have HlB := hid (show (maskZ (blockZ key) 92).length = 64 by rw [maskZ_length, HbS.out.1])
        have HTw := hid ((HT.out.below HA.out.bel).below Hbel.out)
        have Hkrw := hid (HA.out.res.below Hbel.out)
        have Hbw := hid (Below.on HA.out.bel Hbel.out)
        have hzz := HA.out.bel.size
        clear h64 hfA hfB
        go_wp2_with (at_builtin; refine wpList_append_text_at rfl (.tmp 39) (.tmp 40) rfl Tryd.underlying81 hi hz0 hz1 hz2 rfl Hoa.out rfl HTw.out (by have := HlA.out; omega) hszr ?_)
        intro v5 w5 oA5 g5 b5 _
        have Ho5 := hid (Hob.out.grown g5 (fun q hq he => Hap.out q he hq))
        have Hb5 := hid (Hbw.out.trans (b5.mono hzz))
        have Hkr5 := hid (Hkrw.out.belowB (Nat.lt_of_lt_of_le HA.out.res.lt (Nat.le_refl _)) b5)
        obtain ⟨a6, c6, rfl, hT6, _⟩ := oA5.text
        rw [show (maskZ (blockZ key) 54 ++ text).length = 64 + len by rw [List.length_append, HlA.out, Hlt.out]] at hT6 ⊢
        have HT6 := hid hT6
        have Hz5 := hid (Nat.le_trans hszr (Below.size b5))
        clear oA5 g5 b5 hT6 Hoa Hob Hkrw Hbw
        go_wp2_with fail
        refine (refsum_any a6 (64 + len) c6 (maskZ (blockZ key) 54 ++ text) w5 HT6.out (by omega)).mono ?_
        rintro e w6 ⟨rfl, b6⟩
        have Hb6 := hid (Below.on Hb5.out b6)
        have Hkr6 := hid (Hkr5.out.below b6)
        have Ho6 := hid (Ho5.out.below b6)
        have hz6 := Hb6.out.size
        have hz6b := Nat.le_trans Hz5.out (Below.size b6)
        have hltr6 := Hkr6.out.lt
        have HlS := hid (sumZ_length (maskZ (blockZ key) 54 ++ text))
        have HsS := hid (sumZ_small (maskZ (blockZ key) 54 ++ text))
        clear b6 Ho5 Hkr5 Hb5 HT6
        generalize sumZ (maskZ (blockZ key) 54 ++ text) = S at *
        go_wp2_with (
          first
          | (refine wpList_store_blk rfl 23 _ _ rfl w6.heap.size _ rfl rfl _ 23 (Blk.new rfl (byteCells 32 []) _) 32 size_digest HzA.out (dsize HlS.out) (ints_one _ _) ?_
             intro w7 b7 k7
             have Hb7 := hid (b7.below (Hb6.out.alloc hz6 _) (by rw [World.size_alloc]; omega) hz6)
             have Hkr7 := hid (b7.blk (Hkr6.out.old _) (by omega))
             have Ho7 := hid ((Ho6.out.below ((Below.refl _ _).alloc (Nat.le_refl _) _)).grown (w' := w7) (row := some w6.heap.size) ⟨b7.os, b7.tape, b7.output, b7.size, fun j hj hne => b7.block j hj (fun e => hne (by rw [e]))⟩ (fun q hq he => by
               have := (Ho6.out.lt q hq).2
               rw [Option.some.injEq] at he
               omega))
             have Hz7 := hid (Nat.le_trans hz6b (Nat.le_trans (by rw [World.size_alloc]; omega) b7.size))
             have HT7 := hid (TextAt.of_ints k7 HlS.out (by omega) HsS.out)
             clear b7 k7 Ho6 Hkr6 Hb6)
          | (at_builtin; refine wpList_append_text_at rfl (.tmp 43) (.tmp 44) rfl Tryd.underlying81 hi hz0 hz1 hz2 rfl Ho7.out rfl HT7.out (by have := HlB.out; omega) Hz7.out ?_))
        intro v8 w8 oB8 g8 b8 _
        have Hb8 := hid (Hb7.out.trans (b8.mono hzz))
        have Hkr8 := hid (Hkr7.out.belowB (Nat.lt_of_lt_of_le HA.out.res.lt (Nat.le_refl _)) b8)
        obtain ⟨a9, c9, rfl, hT9, _⟩ := oB8.text
        rw [show (maskZ (blockZ key) 92 ++ S).length = 96 by rw [List.length_append, HlB.out, HlS.out]] at hT9 ⊢
        have HT9 := hid hT9
        clear oB8 g8 b8 hT9 Ho7 HT7 Hkr7 Hb7
        go_wp2_with fail
        refine (refsum_any a9 96 c9 (maskZ (blockZ key) 92 ++ S) w8 HT9.out (by omega)).mono ?_
        rintro e w9 ⟨rfl, b9⟩
        rw [← HM.out]
        have Hb9 := hid (Below.on Hb8.out b9)
        have Hkr9 := hid (Hkr8.out.below b9)
        have Hlm := hid (macZ_length key text)
        clear b9 HT9 Hb8 Hkr8
        go_wp2_with (refine wpList_store_blk rfl 23 _ _ rfl w.heap.size _ rfl rfl _ 23 Hkr9.out 32 size_digest HzA.out (dsize Hlm.out) (ints_one _ _) ?_; intro w12 hbut12 hk12)
        exact bodyPost_ret (v := .agg ((macZ key text).map (Value.int .u8)).toArray) (results_blk Tryd.results116 _ w.heap.size rfl _ 23 hk12 _ Tryd.underlying23 rfl 32 size_digest (dsize Hlm.out)) rfl ⟨rfl, hbut12.below Hb9.out Hb9.out.size (Nat.le_refl _)⟩
end Go.Proofs.YtjkfbeillmeomaaDoor
