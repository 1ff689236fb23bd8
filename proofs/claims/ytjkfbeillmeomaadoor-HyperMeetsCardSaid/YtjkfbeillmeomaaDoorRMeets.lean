/-
  Layer 11: the law HyperMeets.
-/
import Derived.Test.YtjkfbeillmeomaaDoorRMeetP
namespace Go.Proofs.YtjkfbeillmeomaaDoor
set_option maxRecDepth 100000
open Go.ChangeShapes Go.WideShapes Go.ChangeAt Go.RowKit
set_option maxHeartbeats 4000000 in
theorem meets_bad (seed prf pub : List Int) (L : Int) (V : Int) (x : Int) (ta : Option Addr) (tn tc : Nat) (w : World) (hr : rightS L V = false) :
    Calls Tryd.prog 14 #[.agg (shC L V), .agg ((secL seed prf pub).map (Value.int .u8)).toArray, .int .u16 x, .slice ta tn tc] w fun e w' => e = .returned (.bool true) ∧ Below w.heap.size w w' := by
  have b1 := (Below.refl w.heap.size w).alloc (Nat.le_refl _) (.cells (shC L V) 63 (0, 0))
  have b2 := b1.alloc b1.size (.cells ((secL seed prf pub).map (Value.int .u8)).toArray 48 (0, 0))
  have Kh := hid ((Blk.new (w := w) (n := w.heap.size) rfl (shC L V) 63).old (.cells ((secL seed prf pub).map (Value.int .u8)).toArray 48 (0, 0)))
  have Ks := hid (Blk.new (w := (w.alloc (.cells (shC L V) 63 (0, 0)))) (n := w.heap.size + 1) (by simp only [World.size_alloc]) ((secL seed prf pub).map (Value.int .u8)).toArray 48)
  have Hb := hid b2
  have hbz := b2.size
  have Hbs := hid (show w.heap.size + 1 + 1 = ((w.alloc (.cells (shC L V) 63 (0, 0))).alloc (.cells ((secL seed prf pub).map (Value.int .u8)).toArray 48 (0, 0))).heap.size by simp only [World.size_alloc])
  clear b1 b2 
  go_enter Tryd.func14, Tryd.ntmps14
  go_wp2_with (refine wpList_load_blk rfl 63 _ rfl (w.heap.size) rfl _ 63 Kh.out _ Tryd.underlying63 rfl 2 size_shape rfl ?_)
  refine (refright_b L V false hr _).mono ?_
  rintro e w1 ⟨rfl, bw1⟩
  have HBw1 := hid (Below.on Hb.out bw1)
  have hsw1 := HBw1.out.size
  have Khw1 := hid (Kh.out.below bw1)
  have Ksw1 := hid (Ks.out.below bw1)
  clear bw1
  go_wp2_with fail
  refine (knows11 _).mono ?_
  rintro e w2 ⟨rfl, bw2⟩
  have HBw2 := hid (Below.on HBw1.out bw2)
  have hsw2 := HBw2.out.size
  have Khw2 := hid (Khw1.out.below bw2)
  have Ksw2 := hid (Ksw1.out.below bw2)
  clear bw2
  go_wp2_with fail
  go_returns
  exact ⟨rfl, HBw2.out⟩
set_option maxHeartbeats 4000000 in
theorem meets_big (seed prf pub : List Int) (L : Int) (n : Nat) (x : Int) (ta : Option Addr) (tn tc : Nat) (w : World) (hr : rightS L n = true) (hsm : decide (L * ((2 ^ n : Nat) : Int) ≤ 8) = false) :
    Calls Tryd.prog 14 #[.agg (shC L n), .agg ((secL seed prf pub).map (Value.int .u8)).toArray, .int .u16 x, .slice ta tn tc] w fun e w' => e = .returned (.bool true) ∧ Below w.heap.size w w' := by
  have b1 := (Below.refl w.heap.size w).alloc (Nat.le_refl _) (.cells (shC L n) 63 (0, 0))
  have b2 := b1.alloc b1.size (.cells ((secL seed prf pub).map (Value.int .u8)).toArray 48 (0, 0))
  have Kh := hid ((Blk.new (w := w) (n := w.heap.size) rfl (shC L n) 63).old (.cells ((secL seed prf pub).map (Value.int .u8)).toArray 48 (0, 0)))
  have Ks := hid (Blk.new (w := (w.alloc (.cells (shC L n) 63 (0, 0)))) (n := w.heap.size + 1) (by simp only [World.size_alloc]) ((secL seed prf pub).map (Value.int .u8)).toArray 48)
  have Hb := hid b2
  have hbz := b2.size
  have Hbs := hid (show w.heap.size + 1 + 1 = ((w.alloc (.cells (shC L n) 63 (0, 0))).alloc (.cells ((secL seed prf pub).map (Value.int .u8)).toArray 48 (0, 0))).heap.size by simp only [World.size_alloc])
  clear b1 b2 
  go_enter Tryd.func14, Tryd.ntmps14
  go_wp2_with (refine wpList_load_blk rfl 63 _ rfl (w.heap.size) rfl _ 63 Kh.out _ Tryd.underlying63 rfl 2 size_shape rfl ?_)
  refine (refright_b L n true hr _).mono ?_
  rintro e w1 ⟨rfl, bw1⟩
  have HBw1 := hid (Below.on Hb.out bw1)
  have hsw1 := HBw1.out.size
  have Khw1 := hid (Kh.out.below bw1)
  have Ksw1 := hid (Ks.out.below bw1)
  clear bw1
  go_wp2_with (refine wpList_load_blk_if (by first | rfl | go_simp) 63 _ rfl (w.heap.size) rfl _ 63 Khw1.out _ Tryd.underlying63 rfl 2 size_shape rfl ?_)
  refine (small_good L n 8 false _ hr hsm).mono ?_
  rintro e w2 ⟨rfl, bw2⟩
  have HBw2 := hid (Below.on HBw1.out bw2)
  have hsw2 := HBw2.out.size
  have Khw2 := hid (Khw1.out.below bw2)
  have Ksw2 := hid (Ksw1.out.below bw2)
  clear bw2
  go_wp2_with fail
  refine (knows11 _).mono ?_
  rintro e w3 ⟨rfl, bw3⟩
  have HBw3 := hid (Below.on HBw2.out bw3)
  have hsw3 := HBw3.out.size
  have Khw3 := hid (Khw2.out.below bw3)
  have Ksw3 := hid (Ksw2.out.below bw3)
  clear bw3
  go_wp2_with fail
  go_returns
  exact ⟨rfl, HBw3.out⟩
set_option maxHeartbeats 4000000 in
theorem meets_long (seed prf pub : List Int) (L : Int) (n : Nat) (x : Int) (ta : Option Addr) (tn tc : Nat) (w : World) (hr : rightS L n = true) (hsm : decide (L * ((2 ^ n : Nat) : Int) ≤ 8) = true) (hl : 1000 < tn) :
    Calls Tryd.prog 14 #[.agg (shC L n), .agg ((secL seed prf pub).map (Value.int .u8)).toArray, .int .u16 x, .slice ta tn tc] w fun e w' => e = .returned (.bool true) ∧ Below w.heap.size w w' := by
  have hl2 : (1000 : Int) < tn := by omega
  have b1 := (Below.refl w.heap.size w).alloc (Nat.le_refl _) (.cells (shC L n) 63 (0, 0))
  have b2 := b1.alloc b1.size (.cells ((secL seed prf pub).map (Value.int .u8)).toArray 48 (0, 0))
  have Kh := hid ((Blk.new (w := w) (n := w.heap.size) rfl (shC L n) 63).old (.cells ((secL seed prf pub).map (Value.int .u8)).toArray 48 (0, 0)))
  have Ks := hid (Blk.new (w := (w.alloc (.cells (shC L n) 63 (0, 0)))) (n := w.heap.size + 1) (by simp only [World.size_alloc]) ((secL seed prf pub).map (Value.int .u8)).toArray 48)
  have Hb := hid b2
  have hbz := b2.size
  have Hbs := hid (show w.heap.size + 1 + 1 = ((w.alloc (.cells (shC L n) 63 (0, 0))).alloc (.cells ((secL seed prf pub).map (Value.int .u8)).toArray 48 (0, 0))).heap.size by simp only [World.size_alloc])
  clear b1 b2 
  go_enter Tryd.func14, Tryd.ntmps14
  go_wp2_with (refine wpList_load_blk rfl 63 _ rfl (w.heap.size) rfl _ 63 Kh.out _ Tryd.underlying63 rfl 2 size_shape rfl ?_)
  refine (refright_b L n true hr _).mono ?_
  rintro e w1 ⟨rfl, bw1⟩
  have HBw1 := hid (Below.on Hb.out bw1)
  have hsw1 := HBw1.out.size
  have Khw1 := hid (Kh.out.below bw1)
  have Ksw1 := hid (Ks.out.below bw1)
  clear bw1
  go_wp2_with (refine wpList_load_blk_if (by first | rfl | go_simp) 63 _ rfl (w.heap.size) rfl _ 63 Khw1.out _ Tryd.underlying63 rfl 2 size_shape rfl ?_)
  refine (small_good L n 8 true _ hr hsm).mono ?_
  rintro e w2 ⟨rfl, bw2⟩
  have HBw2 := hid (Below.on HBw1.out bw2)
  have hsw2 := HBw2.out.size
  have Khw2 := hid (Khw1.out.below bw2)
  have Ksw2 := hid (Ksw1.out.below bw2)
  clear bw2
  go_wp2_with fail
  refine (knows11 _).mono ?_
  rintro e w3 ⟨rfl, bw3⟩
  have HBw3 := hid (Below.on HBw2.out bw3)
  have hsw3 := HBw3.out.size
  have Khw3 := hid (Khw2.out.below bw3)
  have Ksw3 := hid (Ksw2.out.below bw3)
  clear bw3
  go_wp2_with fail
  go_returns
  exact ⟨rfl, HBw3.out⟩
set_option maxHeartbeats 4000000 in
theorem meets_good (seed prf pub : List Int) (L n : Nat) (x : Int) (ta : Option Addr) (tn tc : Nat) (m : List Int) (w : World) (hseed : Dg seed) (hprf : Dg prf) (hpub : Dg pub) (hx : 0 ≤ x ∧ x < 65536) (hT : TextAt w ta tn tc m) (hr : rightS L n = true) (hsm : decide ((L : Int) * ((2 ^ n : Nat) : Int) ≤ 8) = true) (hl : tn ≤ 1000) (tab : ShaTab w) :
    Calls Tryd.prog 14 #[.agg (shC L n), .agg ((secL seed prf pub).map (Value.int .u8)).toArray, .int .u16 x, .slice ta tn tc] w fun e w' => e = .returned (.bool true) ∧ Below w.heap.size w w' := by
  have hl2 : ¬ ((1000 : Int) < tn) := by omega
  have Hss := hid (show ((secL seed prf pub).map (Value.int .u8)).toArray.size = 96 by rw [List.size_toArray, List.length_map, secL_length hseed hprf hpub])
  have hr2 := hr
  simp only [rightS, decide_eq_true_eq] at hr2
  have hmp : 0 < manyS L n := by
    unfold manyS
    rw [if_pos hr]
    have := Nat.pow_pos (n := ((L : Int) * (n : Int)).toNat) (show 0 < 2 by omega)
    omega
  have hm0 : manyS L n ≠ 0 := by omega
  have hn3 : n ≤ 3 := meets_levels hr hsm
  have CMy := hid (fun W : World => refmany_any L n W)
  have hmy := manyS_le hr
  have hx0 := Int.emod_nonneg x hm0
  have hx1 := Int.emod_lt_of_pos x hmp
  have CK := hid (fun (W : World) (t : ShaTab W) => key_good seed prf pub L n W hr hseed hprf hpub t)
  have HRT := hid (Dg.node pub (treeZ ((L : Int) - 1) 0) (fun j => Dg.leaf seed pub ((L : Int) - 1) 0 (j : Int)) n 0)
  have HVR := hid (fun (r : List Int) (i : Int) (h0 : 0 ≤ i) (h1 : i < manyS L n) (RT : List Int) (e : nodeZ pub (treeZ ((L : Int) - 1) 0) (fun j => leafZ seed pub ((L : Int) - 1) 0 j) n 0 = RT) => meets_ver (seed := seed) (pub := pub) (r := r) (text := [m].flatten) hr hn3 h0 h1 e)
  generalize hRT : nodeZ pub (treeZ ((L : Int) - 1) 0) (fun j => leafZ seed pub ((L : Int) - 1) 0 j) n 0 = RT at *
  have hT1 : sumLen [m] < 1000000000000000000 := by have := hT.length; simp [sumLen]; omega
  have CS := hid (fun (W : World) (b : Nat) (h : TextsAt W (some ⟨b, 0, none⟩) 1 1 [m]) (t : ShaTab W) => sign_good L n (x % manyS L n) RT pub seed prf pub (some ⟨b, 0, none⟩) 1 1 [m] W hr hx0 hx1 HRT.out hpub hseed hprf hpub h (by omega) hT1 t)
  have HVB := hid (HVR.out (prfZ prf (be 32 (x % manyS L n))) (x % manyS L n) hx0 hx1 RT rfl)
  clear HVR
  have HRR := hid (Dg.prf prf (be 32 (x % manyS L n)))
  have HPL := hid (sgPs_length seed pub n ((2 ^ n : Nat) : Int) (x % manyS L n) (msgZ (prfZ prf (be 32 (x % manyS L n))) RT (x % manyS L n) [m].flatten) L)
  have HPN := hid (sgPs_len seed pub n ((2 ^ n : Nat) : Int) (x % manyS L n) (msgZ (prfZ prf (be 32 (x % manyS L n))) RT (x % manyS L n) [m].flatten) L)
  generalize sgPs seed pub n ((2 ^ n : Nat) : Int) (x % manyS L n) (msgZ (prfZ prf (be 32 (x % manyS L n))) RT (x % manyS L n) [m].flatten) L = PS at *
  generalize prfZ prf (be 32 (x % manyS L n)) = RR at *
  generalize hmm : manyS (L : Int) (n : Int) = mm at *
  have HL0 : Hid (0 < PS.length) := hid (by rw [HPL.out]; omega)
  have HPA : Hid ((PS.getD 0 ([], [])).1.length = 67) := hid (HPN.out 0 HL0.out).1
  have HPB : Hid ((PS.getD 0 ([], [])).2.length = n) := hid (HPN.out 0 HL0.out).2
  have HSZ : Hid (∀ j, j < PS.length → (PS.getD j ([], [])).1.length ≤ 9223372036854775807 ∧ (PS.getD j ([], [])).2.length ≤ 9223372036854775807) := hid (fun j hj => by have := HPN.out j hj; omega)
  have CV := hid (fun (W : World) (g c b : Nat) (k : PartsAt W (some ⟨g, 0, none⟩) L c PS) (h : TextsAt W (some ⟨b, 0, none⟩) 1 1 [m]) (t : ShaTab W) => HVB.out ▸ verify_b L n (x % mm) RT pub RR (some ⟨g, 0, none⟩) L c PS (some ⟨b, 0, none⟩) 1 1 [m] W HRR.out HRT.out hpub k h (by omega) hT1 t)
  have HF1 : Hid (formB L n (x % mm) (PS.drop 1) = false) := hid (formB_len (by have := HPL.out; simp; omega))
  have HF2 : Hid (formB L n (x % mm) ((((PS.getD 0 ([], [])).1.drop 1).take 66, (PS.getD 0 ([], [])).2) :: PS.drop 1) = false) := hid (formB_part (k := 0) (by simp) (by have := HPA.out; simp; omega))
  have b1 := (Below.refl w.heap.size w).alloc (Nat.le_refl _) (.cells (shC L n) 63 (0, 0))
  have b2 := b1.alloc b1.size (.cells ((secL seed prf pub).map (Value.int .u8)).toArray 48 (0, 0))
  have Kh := hid ((Blk.new (w := w) (n := w.heap.size) rfl (shC L n) 63).old (.cells ((secL seed prf pub).map (Value.int .u8)).toArray 48 (0, 0)))
  have Ks := hid (Blk.new (w := (w.alloc (.cells (shC L n) 63 (0, 0)))) (n := w.heap.size + 1) (by simp only [World.size_alloc]) ((secL seed prf pub).map (Value.int .u8)).toArray 48)
  have Hb := hid b2
  have hbz := b2.size
  have Hbs := hid (show w.heap.size + 1 + 1 = ((w.alloc (.cells (shC L n) 63 (0, 0))).alloc (.cells ((secL seed prf pub).map (Value.int .u8)).toArray 48 (0, 0))).heap.size by simp only [World.size_alloc])
  have Htab := hid tab
  clear b1 b2 tab 
  go_enter Tryd.func14, Tryd.ntmps14
  go_wp2_with (refine wpList_load_blk rfl 63 _ rfl (w.heap.size) rfl _ 63 Kh.out _ Tryd.underlying63 rfl 2 size_shape rfl ?_)
  refine (refright_b L n true hr _).mono ?_
  rintro e w1 ⟨rfl, bw1⟩
  have HBw1 := hid (Below.on Hb.out bw1)
  have hsw1 := HBw1.out.size
  have Khw1 := hid (Kh.out.below bw1)
  have Ksw1 := hid (Ks.out.below bw1)
  clear bw1
  go_wp2_with (refine wpList_load_blk_if (by first | rfl | go_simp) 63 _ rfl (w.heap.size) rfl _ 63 Khw1.out _ Tryd.underlying63 rfl 2 size_shape rfl ?_)
  refine (small_good L n 8 true _ hr hsm).mono ?_
  rintro e w2 ⟨rfl, bw2⟩
  have HBw2 := hid (Below.on HBw1.out bw2)
  have hsw2 := HBw2.out.size
  have Khw2 := hid (Khw1.out.below bw2)
  have Ksw2 := hid (Ksw1.out.below bw2)
  clear bw2
  go_wp2_with (first
     | (refine wpList_load_blk rfl 63 _ rfl (w.heap.size) rfl _ 63 Khw2.out _ Tryd.underlying63 rfl 2 size_shape rfl ?_)
     | (refine wpList_load_blk rfl 48 _ rfl (w.heap.size + 1) rfl _ 48 Ksw2.out _ Tryd.underlying48 rfl 96 size_secret Hss.out ?_))
  refine (CK.out _ (Htab.out.below HBw2.out)).mono ?_
  rintro e w3 ⟨rfl, bw3⟩
  have HBw3 := hid (Below.on HBw2.out bw3)
  have hsw3 := HBw3.out.size
  have Khw3 := hid (Khw2.out.below bw3)
  have Ksw3 := hid (Ksw2.out.below bw3)
  clear bw3
  go_wp2_with (
        refine wpList_store_blk rfl 68 _ _ rfl (w3.heap.size) (pubC L n RT pub).toArray rfl rfl _ 68 (Blk.new rfl zPub.toArray _) 66 size_public zPub_size (pubC_size HRT.out hpub) (pubC_ones _ _ _ _) ?_
        intro w4 hbw4 hkw4
        have hw4 := hbw4.below ((Below.refl w3.heap.size w3).alloc (Nat.le_refl _) _) (by simp only [World.size_alloc]; omega) (Nat.le_refl _)
        have HBw4 := hid (Below.on HBw3.out hw4)
        have hsw4 := HBw4.out.size
        have Khw4 := hid (Khw3.out.below hw4)
        have hlhw4 := Khw3.out.lt
        have Ksw4 := hid (Ksw3.out.below hw4)
        have hlsw4 := Ksw3.out.lt
        have Kkw4 := hid hkw4
        have hfw4 : w.heap.size ≤ w3.heap.size := HBw3.out.size
        clear hbw4 hkw4 hw4)
  refine wp_region_late 14 12 14 [0, 1, 2, 3, 4, 7] [8, 13] [(.c 5, [6], []), (.b 8, [], []), (.c 9, [10, 11, 12], []), (.b 13, [], [])] (by kernel_rfl) (by kernel_rfl) rfl (by kernel_rfl) (fun _ _ d _ _ h => by cases d <;> exact h) ?_
  simp only [late]
  apply Exists.intro
  refine ⟨fun w0 hb0 hF0 => ?_, ?_⟩
  · skip
    have x0 : ∀ w', (∃ x : Ext w0, w' = x.at_) → ∃ T, Blk w' (w3.heap.size) (pubC L n RT pub).toArray T := fun w' ⟨x, hx⟩ => ⟨_, hx ▸ (Kkw4.out.below hb0).below x.same⟩
    have x1 : ∀ w', (∃ x : Ext w0, w' = x.at_) → ∃ T, Blk w' (w.heap.size + 1) ((secL seed prf pub).map (Value.int .u8)).toArray T := fun w' ⟨x, hx⟩ => ⟨_, hx ▸ (Ksw4.out.below hb0).below x.same⟩
    have x2 : ∀ w', (∃ x : Ext w0, w' = x.at_) → ∃ T, Blk w' (w.heap.size) (shC L n) T := fun w' ⟨x, hx⟩ => ⟨_, hx ▸ (Khw4.out.below hb0).below x.same⟩
    simp only [pick, List.getElem?_toArray, List.getElem?_cons_succ, List.getElem?_cons_zero, Option.toList_some, List.cons_append, List.nil_append]
    repeat (first | (go_big_quiet_want; refine quiet_load_blk 68 _ rfl (w3.heap.size) rfl _ x0 _ Tryd.underlying68 rfl 66 size_public (pubC_size HRT.out hpub) ?_; go_big_quiet_on; simp only [Act.put, List.setIfInBounds_toArray, List.set_cons_zero, List.set_cons_succ]) | (go_big_quiet_want; refine quiet_load_blk 48 _ rfl (w.heap.size + 1) rfl _ x1 _ Tryd.underlying48 rfl 96 size_secret Hss.out ?_; go_big_quiet_on; simp only [Act.put, List.setIfInBounds_toArray, List.set_cons_zero, List.set_cons_succ]) | (go_big_quiet_want; refine quiet_load_blk 63 _ rfl (w.heap.size) rfl _ x2 _ Tryd.underlying63 rfl 2 size_shape rfl ?_; go_big_quiet_on; simp only [Act.put, List.setIfInBounds_toArray, List.set_cons_zero, List.set_cons_succ]) | go_big_quiet_step (fail))
    exact wpQuiet_nil rfl
  refine AlChk.one rfl (fun b => .slice (some ⟨b, 0, none⟩) 1 1) (.cells #[.slice ta tn tc] 81 (0, 0)) rfl (fun w3 hb3 hF3 => by go_simp) ?_
  refine AlChk.one rfl (fun b => .pointer (some ⟨b, 0, none⟩)) (.cells zSig.toArray 75 (0, 0)) rfl (fun w3 hb3 hF3 => by go_simp; rfl) ?_
  refine AlChk.nil ?_
  refine Walk.call rfl 44 #[.agg (shC L n)] (fun v w' => v = .int .i64 mm) (fun v w' w'' h k => h) rfl (fun w1 hb1 hF1 => ⟨by go_simp, ?_⟩) ?_
  · refine (CMy.out w1).mono ?_
    rintro e w2 ⟨rfl, b2⟩
    exact ⟨_, rfl, b2, rfl⟩
  rintro v1 w1 hb1 hF1 rfl
  apply Exists.intro
  refine ⟨fun w0 hb0 hF0 => ?_, ?_⟩
  · skip
    simp only [pick, List.getElem?_toArray, List.getElem?_cons_succ, List.getElem?_cons_zero, Option.toList_some, List.cons_append, List.nil_append, Act.put, List.setIfInBounds_toArray, List.set_cons_zero, List.set_cons_succ]
    repeat (first | go_big_quiet_step (fail))
    exact wpQuiet_nil rfl
  refine AlChk.nil ?_
  refine Walk.blk rfl (fun b => .slice (some ⟨b, 0, none⟩) 1 1) (.cells #[.slice ta tn tc] 81 (0, 0)) (by simp) ?_
  intro b8 wz hbz_ hFz hge8 _
  apply Exists.intro
  refine ⟨fun w4 hb4 hF4 => wpQuiet_nil rfl, ?_⟩
  refine AlChk.nil ?_
  refine Walk.call rfl 54 #[.agg (pubC L n RT pub).toArray, .agg ((secL seed prf pub).map (Value.int .u8)).toArray, .int .i64 (x % mm), .slice (some ⟨b8, 0, none⟩) 1 1] (fun v w' => ∃ a cap, v = .tuple #[.agg (sigC (x % mm) RR (.slice a L cap)).toArray, .int .i64 0] ∧ OwnP w' w.heap.size (.slice a L cap) PS) (fun v w' w'' h k => by obtain ⟨a, c, h1, h2⟩ := h; exact ⟨a, c, h1, h2.below k⟩) rfl (fun w1 hb1 hF1 => ⟨by go_simp, ?_⟩) ?_
  · have kb : Blk w1 b8 #[.slice ta tn tc] 81 := hF1.2
    refine (CS.out w1 b8 (TextsAt.one kb ((hT.below HBw4.out).below hb1)) ((Htab.out.below HBw4.out).below hb1)).mono ?_
    rintro e w2 ⟨a, cap, rfl, b2, _, ho⟩
    exact ⟨_, rfl, b2, a, cap, rfl, ho.re (Nat.le_trans HBw4.out.size hb1.size)⟩
  rintro v2 w1 hb1 hF1 ⟨xa, xc, rfl, _⟩
  apply Exists.intro
  refine ⟨fun w0 hb0 hF0 => ?_, ?_⟩
  · skip
    simp only [pick, List.getElem?_toArray, List.getElem?_cons_succ, List.getElem?_cons_zero, Option.toList_some, List.cons_append, List.nil_append, Act.put, List.setIfInBounds_toArray, List.set_cons_zero, List.set_cons_succ]
    repeat (first | go_big_quiet_step (fail))
    exact wpQuiet_nil rfl
  refine AlChk.nil ?_
  refine Walk.blk rfl (fun b => .pointer (some ⟨b, 0, none⟩)) (.cells zSig.toArray 75 (0, 0)) (by simp) ?_
  intro bw5 wz hbz_ hFz hgew5 _
  apply Exists.intro
  refine ⟨fun w4 hb4 hF4 => wpQuiet_nil rfl, ?_⟩
  refine AlChk.nil ?_
  refine Walk.fin fun w5 hw5 hFw5 _ => ?_
  simp only [List.drop_succ_cons, List.drop_zero]
  have Kzw5 := hid (show Blk w5 bw5 zSig.toArray 75 from hFw5.2)
  have hgww5 : w.heap.size ≤ bw5 := Nat.le_trans HBw4.out.size hgew5
  have HOww5 : Hid (OwnP w5 w.heap.size (.slice xa L xc) PS) := hid (by
    obtain ⟨a', c', hq, ho⟩ := hFw5.1.2
    rw [sig_tuple hq]; exact ho)
  clear hbz_ hFz hFw5
  have hnhw5 : w.heap.size ≠ bw5 := by have := Khw4.out.lt; omega
  have hnsw5 : w.heap.size + 1 ≠ bw5 := by have := Ksw4.out.lt; omega
  have hnkw5 : w3.heap.size ≠ bw5 := by have := Kkw4.out.lt; omega
  have HBw5 := hid (Below.on HBw4.out hw5)
  have hsw5 := HBw5.out.size
  have Khw5 := hid (Khw4.out.below hw5)
  have Ksw5 := hid (Ksw4.out.below hw5)
  have Kkw5 := hid (Kkw4.out.below hw5)
  clear hw5
  obtain ⟨g, xc', u0, u1, hq, hgB, _, hgc, _⟩ := HOww5.out.first HL0.out
  rw [HPL.out] at hq hgc
  injection hq with hq1 _ hq2
  subst hq1 hq2
  go_wp2_with (first
     | (
        refine wpList_store_blk rfl 75 _ _ rfl bw5 (sigC (x % mm) RR (.slice (some ⟨g, 0, none⟩) L xc)).toArray rfl rfl _ 75 Kzw5.out 34 size_sig zSig_size (sigC_size HRR.out) (sigC_ones _ _ _ rfl) ?_
        intro w6 hbw6 hkw6
        have HBw6 := hid (hbw6.below HBw5.out HBw5.out.size hgww5)
        have hsw6 := HBw6.out.size
        have Kgw6 := hid hkw6
        have Khw6 := hid (hbw6.blk Khw5.out hnhw5)
        have Ksw6 := hid (hbw6.blk Ksw5.out hnsw5)
        have Kkw6 := hid (hbw6.blk Kkw5.out hnkw5)
        have HOww6 := hid (HOww5.out.kept Kzw5.out (by decide) (by decide) hbw6)
        obtain ⟨g', xc', u0, u1, hq, _, _, _, _, hc0a, hc1a, r0, r1⟩ := HOww6.out.first HL0.out
        rw [HPL.out] at hq
        injection hq with hq1 _ hq2
        injection hq1 with hq1
        injection hq1 with hq1
        subst hq1 hq2
        rw [HPA.out] at r0
        rw [HPB.out] at r1
        obtain ⟨_, _, gua, _, rfl, _⟩ := (id r0)
        obtain ⟨_, _, gva, _, rfl, _⟩ := (id r1)
        have HR0a := hid r0
        have HR1a := hid r1
        clear r0 r1
        have hv33 := sigC_parts HRR.out hkw6
        have hcl : w6.cell? ⟨w.heap.size, 0, none⟩ = some (.int .i64 L) := by rw [Khw6.out.cell]; rfl
        clear hbw6 hkw6)
     | (refine wpList_load_blk_if (by first | rfl | go_simp) 68 _ rfl (w3.heap.size) rfl _ 68 Kkw6.out _ Tryd.underlying68 rfl 66 size_public (pubC_size HRT.out hpub) ?_)
     | (refine wpList_load_blk_if (by first | rfl | go_simp) 75 _ rfl (bw5) rfl _ 75 Kgw6.out _ Tryd.underlying75 rfl 34 size_sig (sigC_size HRR.out) ?_)
     | (refine wpList_index_s 2 (by first | rfl | go_simp) 73 _ _ rfl Tryd.underlying73 size_part g 0 L xc rfl _ _ rfl 0 rfl (by omega) ?_))
  have halw7 := HBw6.out.alloc HBw6.out.size (.cells #[.slice ta tn tc] 81 (0, 0))
  have kalw7 : Blk (w6.alloc (.cells #[.slice ta tn tc] 81 (0, 0))) w6.heap.size #[.slice ta tn tc] 81 := Blk.new rfl _ _
  have talw7 := TextsAt.one kalw7 (hT.below halw7)
  have balw7 := (Below.refl w6.heap.size w6).alloc (Nat.le_refl _) (.cells #[.slice ta tn tc] 81 (0, 0))
  refine (CV.out _ g xc w6.heap.size ((HOww6.out.partsAt HSZ.out).below balw7) talw7 ((Htab.out.below HBw6.out).below balw7)).mono ?_
  rintro e w7 ⟨rfl, bqw7⟩
  have bw7 := Below.trans balw7 (bqw7.mono (by simp only [World.size_alloc]; omega))
  have HBw7 := hid (Below.on HBw6.out bw7)
  have hsw7 := HBw7.out.size
  have Khw7 := hid (Khw6.out.below bw7)
  have Ksw7 := hid (Ksw6.out.below bw7)
  have Kkw7 := hid (Kkw6.out.below bw7)
  have Kgw7 := hid (Kgw6.out.below bw7)
  have HOww7 := hid (HOww6.out.below bw7)
  clear bw7 bqw7 balw7 talw7 kalw7 halw7
  have hlc : ∀ W : World, (Instr.slice 73 (.slice (some ⟨g, 0, none⟩) L xc) (some (.int .i64 1)) none none).run Tryd.prog W = .ok (.slice (cutP (some ⟨g, 0, none⟩) 1 xc) (L - 1) (xc - 1)) W := fun W => by
    have := run_cutp_l (some ⟨g, 0, none⟩) L xc 1 W (by omega) (by omega)
    simpa using this
  obtain ⟨iP, zP, hi, hz0, hzs, hz1, hz2⟩ := info_part
  generalize hcp : cutP (some ⟨g, 0, none⟩) 1 xc = cp at *
  go_wp2_with (first
     | (refine wpList_load_blk rfl 75 _ rfl (bw5) rfl _ 75 Kgw7.out _ Tryd.underlying75 rfl 34 size_sig (sigC_size HRR.out) ?_)
     | (
        refine wpList_store_blk rfl 75 _ _ rfl (w7.heap.size) (sigC (x % mm) RR (.slice (some ⟨g, 0, none⟩) L xc)).toArray rfl rfl _ 75 (Blk.new rfl zSig.toArray _) 34 size_sig zSig_size (sigC_size HRR.out) (sigC_ones _ _ _ rfl) ?_
        intro w8 hbw8 hkw8
        have hw8 := hbw8.below ((Below.refl w7.heap.size w7).alloc (Nat.le_refl _) _) (by simp only [World.size_alloc]; omega) (Nat.le_refl _)
        have HBw8 := hid (Below.on HBw7.out hw8)
        have hsw8 := HBw8.out.size
        have Khw8 := hid (Khw7.out.below hw8)
        have hlhw8 := Khw7.out.lt
        have Ksw8 := hid (Ksw7.out.below hw8)
        have hlsw8 := Ksw7.out.lt
        have Kkw8 := hid (Kkw7.out.below hw8)
        have hlkw8 := Kkw7.out.lt
        have Kgw8 := hid (Kgw7.out.below hw8)
        have hlgw8 := Kgw7.out.lt
        have Klw8 := hid hkw8
        have hfw8 : w.heap.size ≤ w7.heap.size := HBw7.out.size
        have HOww8 := hid (HOww7.out.below hw8)
        have hv33w8 := sigC_parts HRR.out Kgw8.out
        clear hbw8 hkw8 hw8)
     | (
        refine wpList_store_cell rfl 73 _ _ rfl (w7.heap.size) 33 (.slice cp (L - 1) (xc - 1)) rfl rfl rfl rfl (sigC (x % mm) RR (.slice (some ⟨g, 0, none⟩) L xc)).toArray 75 Klw8.out (by rw [sigC_size HRR.out]; omega) (by kernel_rfl) ?_
        intro w9 hbw9 hkw9
        have HBw9 := hid (hbw9.below HBw8.out HBw8.out.size (by omega))
        have hsw9 := HBw9.out.size
        rw [sigC_set HRR.out] at hkw9
        have Khw9 := hid (hbw9.blk Khw8.out (by have := Khw8.out.lt; omega))
        have Ksw9 := hid (hbw9.blk Ksw8.out (by have := Ksw8.out.lt; omega))
        have Kkw9 := hid (hbw9.blk Kkw8.out (by have := Kkw8.out.lt; omega))
        have Kgw9 := hid (hbw9.blk Kgw8.out (by have := Kgw8.out.lt; omega))
        have HOww9 := hid (HOww8.out.kept Klw8.out (by decide) (by decide) hbw9)
        have Klw9 := hid hkw9
        have hv33w9 := sigC_parts HRR.out Kgw9.out
        clear hbw9 hkw9)
     | (refine wpList_load_blk rfl 75 _ rfl (bw5) rfl _ 75 Kgw9.out _ Tryd.underlying75 rfl 34 size_sig (sigC_size HRR.out) ?_)
     | (
        refine wpList_store_blk rfl 75 _ _ rfl (w9.heap.size) (sigC (x % mm) RR (.slice (some ⟨g, 0, none⟩) L xc)).toArray rfl rfl _ 75 (Blk.new rfl zSig.toArray _) 34 size_sig zSig_size (sigC_size HRR.out) (sigC_ones _ _ _ rfl) ?_
        intro w10 hbw10 hkw10
        have hw10 := hbw10.below ((Below.refl w9.heap.size w9).alloc (Nat.le_refl _) _) (by simp only [World.size_alloc]; omega) (Nat.le_refl _)
        have HBw10 := hid (Below.on HBw9.out hw10)
        have hsw10 := HBw10.out.size
        have Khw10 := hid (Khw9.out.below hw10)
        have hlhw10 := Khw9.out.lt
        have Ksw10 := hid (Ksw9.out.below hw10)
        have hlsw10 := Ksw9.out.lt
        have Kkw10 := hid (Kkw9.out.below hw10)
        have hlkw10 := Kkw9.out.lt
        have Kgw10 := hid (Kgw9.out.below hw10)
        have hlgw10 := Kgw9.out.lt
        have Klw10 := hid (Klw9.out.below hw10)
        have hllw10 := Klw9.out.lt
        have Kqw10 := hid hkw10
        have hfw10 : w.heap.size ≤ w9.heap.size := HBw9.out.size
        have HOww10 := hid (HOww9.out.below hw10)
        have hv33w10 := sigC_parts HRR.out Kgw10.out
        clear hbw10 hkw10 hw10)
     | (
        refine wpList_build_noparts rfl rfl w10.heap.size (Nat.le_refl _) ?_
        intro w11 hoNw11 bw11 hgtw11
        have HNw11 := hid hoNw11
        have HBw11 := hid (Below.on HBw10.out bw11)
        have hsw11 := HBw11.out.size
        have hgxw11 : g ≠ w10.heap.size := by have := (HOww10.out.lt g rfl).2; omega
        have HOww11 := hid (HOww10.out.below bw11)
        have Khw11 := hid (Khw10.out.below bw11)
        have hlhw11 := Khw10.out.lt
        have Ksw11 := hid (Ksw10.out.below bw11)
        have hlsw11 := Ksw10.out.lt
        have Kkw11 := hid (Kkw10.out.below bw11)
        have hlkw11 := Kkw10.out.lt
        have Kgw11 := hid (Kgw10.out.below bw11)
        have hlgw11 := Kgw10.out.lt
        have Klw11 := hid (Klw10.out.below bw11)
        have hllw11 := Klw10.out.lt
        have Kqw11 := hid (Kqw10.out.below bw11)
        have hlqw11 := Kqw10.out.lt
        have hv33w11 := sigC_parts HRR.out Kgw11.out
        clear hoNw11 bw11)
     | (
        refine wpList_append_parts rfl _ _ rfl Tryd.underlying73 hi hz0 hzs hz1 hz2 (v := .slice (some ⟨w10.heap.size, 0, none⟩) 0 0) ?ch (base := w.heap.size) (base2 := w10.heap.size) (ps := PS) (g := g) (cap := xc) ?ca ?cg ?cb ?cc ?cd ?ce ?cf
        case ch => go_must (rfl)
        case cg => go_must (exact HNw11.out)
        case ca => go_must (exact HBw10.out.size)
        case cb => go_must (rw [HPL.out]; rfl)
        case cc => go_must (rw [HPL.out]; exact HOww11.out)
        case cd => go_must (rw [HPL.out]; omega)
        case ce => go_must (exact Nat.le_of_lt hgtw11)
        intro vw12 w12 how12 hgw12 bw12 hpw12
        have HQw12 := hid how12
        have HOww12 := hid (HOww11.out.stays HNw11.out hgw12 (.inr (fun e => hgxw11 (Option.some.inj e))))
        have HBw12 := hid (Below.trans HBw11.out (bw12.mono HBw10.out.size))
        have hsw12 := HBw12.out.size
        have Khw12 := hid (Khw11.out.grown hgw12 (fun q hq => by have hq := Option.some.inj hq; simp only at hq; omega))
        have Ksw12 := hid (Ksw11.out.grown hgw12 (fun q hq => by have hq := Option.some.inj hq; simp only at hq; omega))
        have Kkw12 := hid (Kkw11.out.grown hgw12 (fun q hq => by have hq := Option.some.inj hq; simp only at hq; omega))
        have Kgw12 := hid (Kgw11.out.grown hgw12 (fun q hq => by have hq := Option.some.inj hq; simp only at hq; omega))
        have Klw12 := hid (Klw11.out.grown hgw12 (fun q hq => by have hq := Option.some.inj hq; simp only at hq; omega))
        have Kqw12 := hid (Kqw11.out.grown hgw12 (fun q hq => by have hq := Option.some.inj hq; simp only at hq; omega))
        obtain ⟨p, pc, _, _, rfl, hpBw12, hplw12, hpcw12, _⟩ := HQw12.out.first HL0.out
        have hpgw12 : w10.heap.size ≤ p := hpw12 p rfl
        have hgpw12 : g ≠ p := by have := (HOww10.out.lt g rfl).2; omega
        clear how12 hgw12 bw12 hpw12)
     | (
        refine wpList_store_cell rfl 73 _ _ rfl (w9.heap.size) 33 (.slice (some ⟨p, 0, none⟩) PS.length pc) rfl rfl rfl rfl (sigC (x % mm) RR (.slice (some ⟨g, 0, none⟩) L xc)).toArray 75 Kqw12.out (by rw [sigC_size HRR.out]; omega) (by kernel_rfl) ?_
        intro w13 hbw13 hkw13
        have HBw13 := hid (hbw13.below HBw12.out HBw12.out.size (by omega))
        have hsw13 := HBw13.out.size
        rw [sigC_set HRR.out] at hkw13
        have Khw13 := hid (hbw13.blk Khw12.out (by have := Khw12.out.lt; omega))
        have Ksw13 := hid (hbw13.blk Ksw12.out (by have := Ksw12.out.lt; omega))
        have Kkw13 := hid (hbw13.blk Kkw12.out (by have := Kkw12.out.lt; omega))
        have Kgw13 := hid (hbw13.blk Kgw12.out (by have := Kgw12.out.lt; omega))
        have Klw13 := hid (hbw13.blk Klw12.out (by have := Klw12.out.lt; omega))
        have HOww13 := hid (HOww12.out.kept Kqw12.out (by decide) (by decide) hbw13)
        have HQw13 := hid (HQw12.out.kept Kqw12.out (by decide) (by decide) hbw13)
        have Kqw13 := hid hkw13
        have hv33w13 := sigC_parts HRR.out Kgw13.out
        clear hbw13 hkw13))
  obtain ⟨g', xc', u0, u1, hq, _, _, _, _, hc0b, hc1b, r0, r1⟩ := HOww13.out.first HL0.out
  rw [HPL.out] at hq
  injection hq with hq1 _ hq2
  injection hq1 with hq1
  injection hq1 with hq1
  subst hq1 hq2
  rw [HPA.out] at r0
  rw [HPB.out] at r1
  obtain ⟨_, _, gub, _, rfl, _⟩ := (id r0)
  obtain ⟨_, _, gvb, _, rfl, _⟩ := (id r1)
  have HR0b := hid r0
  have HR1b := hid r1
  clear r0 r1
  have hglt := (HOww13.out.lt g rfl).2
  simp only [Act.put]
  refine wp_region_flow 14 (List.range 14) [] [] (by kernel_rfl) (by kernel_rfl) ?_
  apply Exists.intro
  refine ⟨fun w0 hb0 hF0 => ?_, ?_⟩
  · skip
    have yg : ∀ w', (∃ x : Ext w0, w' = x.at_) → w'.cell? ⟨bw5, 33, none⟩ = some (.slice (some ⟨g, 0, none⟩) L xc) := fun w' ⟨x, hx⟩ => hx ▸ sigC_parts HRR.out ((Kgw13.out.below hb0).below x.same)
    have yq : ∀ w', (∃ x : Ext w0, w' = x.at_) → w'.cell? ⟨w9.heap.size, 33, none⟩ = some (.slice (some ⟨p, 0, none⟩) PS.length pc) := fun w' ⟨x, hx⟩ => hx ▸ sigC_parts HRR.out ((Kqw13.out.below hb0).below x.same)
    have y0 : ∀ w', (∃ x : Ext w0, w' = x.at_) → w'.cell? ⟨g, 0, none⟩ = some (.slice (some ⟨gub, 0, none⟩) 67 67) := fun w' ⟨x, hx⟩ => by rw [hx]; exact (x.same.cell (Nat.lt_of_lt_of_le hglt hb0.size)).trans ((hb0.cell hglt).trans hc0b)
    have y1 : ∀ w', (∃ x : Ext w0, w' = x.at_) → w'.cell? ⟨g, 1, none⟩ = some (.slice (some ⟨gvb, 0, none⟩) n n) := fun w' ⟨x, hx⟩ => by rw [hx]; exact (x.same.cell (Nat.lt_of_lt_of_le hglt hb0.size)).trans ((hb0.cell hglt).trans hc1b)
    simp only [pick, List.range, List.range.loop, List.getElem?_toArray, List.getElem?_cons_succ, List.getElem?_cons_zero, Option.toList_some, List.cons_append, List.nil_append]
    repeat (first | (go_big_quiet_want; refine quiet_load_one 73 _ rfl ⟨bw5, 33, none⟩ rfl _ yg _ Tryd.underlying73 rfl ?_; go_big_quiet_on; simp only [Act.put, List.setIfInBounds_toArray, List.set_cons_zero, List.set_cons_succ]) | (go_big_quiet_want; refine quiet_load_one 73 _ rfl ⟨w9.heap.size, 33, none⟩ rfl _ yq _ Tryd.underlying73 rfl ?_; go_big_quiet_on; simp only [Act.put, List.setIfInBounds_toArray, List.set_cons_zero, List.set_cons_succ]) | (go_big_quiet_want; refine quiet_load_one 28 _ rfl ⟨g, 0, none⟩ rfl _ y0 _ Tryd.underlying28 rfl ?_; go_big_quiet_on; simp only [Act.put, List.setIfInBounds_toArray, List.set_cons_zero, List.set_cons_succ]) | (go_big_quiet_want; refine quiet_load_one 28 _ rfl ⟨g, 1, none⟩ rfl _ y1 _ Tryd.underlying28 rfl ?_; go_big_quiet_on; simp only [Act.put, List.setIfInBounds_toArray, List.set_cons_zero, List.set_cons_succ]) | (go_big_quiet_want; refine quiet_index_s 2 73 _ _ rfl Tryd.underlying73 size_part g 0 L xc rfl _ _ rfl 0 rfl (by omega) ?_; go_big_quiet_on; simp only [Act.put, List.setIfInBounds_toArray, List.set_cons_zero, List.set_cons_succ]) | (go_big_quiet_want; refine quiet_cut_l _ _ rfl (some ⟨gub, 0, none⟩) 67 67 1 rfl rfl (by omega) ?_; go_big_quiet_on; simp only [Act.put, List.setIfInBounds_toArray, List.set_cons_zero, List.set_cons_succ]) | (go_big_quiet_want; refine quiet_build _ _ rfl [(0, .slice (cutD (some ⟨gub, 0, none⟩) 1 67) (67 - 1) (67 - 1)), (1, .slice (some ⟨gvb, 0, none⟩) n n)] rfl _ (build_part2 _ _ _ _ _ _) ?_; go_big_quiet_on; simp only [Act.put, List.setIfInBounds_toArray, List.set_cons_zero, List.set_cons_succ]) | go_big_quiet_step (fail))
    exact wpQuiet_nil rfl
  refine AlChk.nil ?_
  refine Walk.fin fun w14 hw14 _ _ => ?_
  simp only [List.drop_succ_cons, List.drop_zero]
  have HBw14 := hid (Below.on HBw13.out hw14)
  have hsw14 := HBw14.out.size
  have Khw14 := hid (Khw13.out.below hw14)
  have Ksw14 := hid (Ksw13.out.below hw14)
  have Kkw14 := hid (Kkw13.out.below hw14)
  have Kgw14 := hid (Kgw13.out.below hw14)
  have Klw14 := hid (Klw13.out.below hw14)
  have Kqw14 := hid (Kqw13.out.below hw14)
  have HOww14 := hid (HOww13.out.below hw14)
  have HQw14 := hid (HQw13.out.below hw14)
  have HR0w14 := hid (HR0b.out.below hw14)
  have HR1w14 := hid (HR1b.out.below hw14)
  clear hw14
  have HP66 : Hid ((((PS.getD 0 ([], [])).1.drop 1).take 66).length = 66) := hid (by rw [List.length_take, List.length_drop, HPA.out]; rfl)
  go_wp2_with (first
     | (refine wpList_index_s 2 (by first | rfl | go_simp) 73 _ _ rfl Tryd.underlying73 size_part p 0 PS.length pc rfl _ _ rfl 0 rfl (by have := HL0.out; omega) ?_)
     | (
        refine wpList_store_part rfl _ _ rfl p rfl (.slice (cutD (some ⟨gub, 0, none⟩) 1 67) (67 - 1) (67 - 1)) (.slice (some ⟨gvb, 0, none⟩) n n) rfl rfl rfl (p := (((PS.getD 0 ([], [])).1.drop 1).take 66, (PS.getD 0 ([], [])).2)) HQw14.out HL0.out HSZ.out (fun w' hb ⟨cur, hc⟩ => ⟨?_, ?_⟩) ?_
        · have := (HR0w14.out.kept hc hb).cut (by omega) (by omega)
          show RowV (((PS.getD 0 ([], [])).1.drop 1).take 66).length _ _ w'
          rw [HP66.out]
          exact this
        · show RowV (PS.getD 0 ([], [])).2.length _ _ w'
          rw [HPB.out]
          exact (HR1w14.out.kept hc hb).row (by omega)
        intro w15 hbw15 hPw15
        have HBw15 := hid (hbw15.below HBw14.out HBw14.out.size (by have := hpBw12; omega))
        have hsw15 := HBw15.out.size
        have HPw15 := hid hPw15
        have HOww15 := hid (HOww14.out.but_part HQw14.out hbw15 hgpw12)
        have Khw15 := hid (hbw15.blk Khw14.out (by have := Khw14.out.lt; omega))
        have Ksw15 := hid (hbw15.blk Ksw14.out (by have := Ksw14.out.lt; omega))
        have Kkw15 := hid (hbw15.blk Kkw14.out (by have := Kkw14.out.lt; omega))
        have Kgw15 := hid (hbw15.blk Kgw14.out (by have := Kgw14.out.lt; omega))
        have Klw15 := hid (hbw15.blk Klw14.out (by have := Klw14.out.lt; omega))
        have Kqw15 := hid (hbw15.blk Kqw14.out (by have := Kqw14.out.lt; omega))
        clear hbw15 hPw15)
     | (refine wpList_load_blk rfl 68 _ rfl (w3.heap.size) rfl _ 68 Kkw15.out _ Tryd.underlying68 rfl 66 size_public (pubC_size HRT.out hpub) ?_)
     | (refine wpList_load_blk rfl 75 _ rfl (w7.heap.size) rfl _ 75 Klw15.out _ Tryd.underlying75 rfl 34 size_sig (sigC_size HRR.out) ?_))
  have HPlw15 := hid (hcp ▸ (HOww15.out.partsAt HSZ.out).tail (by omega))
  have halw16 := HBw15.out.alloc HBw15.out.size (.cells #[.slice ta tn tc] 81 (0, 0))
  have kalw16 : Blk (w15.alloc (.cells #[.slice ta tn tc] 81 (0, 0))) w15.heap.size #[.slice ta tn tc] 81 := Blk.new rfl _ _
  have talw16 := TextsAt.one kalw16 (hT.below halw16)
  have balw16 := (Below.refl w15.heap.size w15).alloc (Nat.le_refl _) (.cells #[.slice ta tn tc] 81 (0, 0))
  refine (verify_false L n (x % mm) RT pub RR cp (L - 1) (xc - 1) (PS.drop 1) _ _ hr HF1.out HRR.out (HPlw15.out.below balw16)).mono ?_
  rintro e w16 ⟨rfl, bqw16⟩
  have bw16 := Below.trans balw16 (bqw16.mono (by simp only [World.size_alloc]; omega))
  have HBw16 := hid (Below.on HBw15.out bw16)
  have hsw16 := HBw16.out.size
  have Khw16 := hid (Khw15.out.below bw16)
  have Ksw16 := hid (Ksw15.out.below bw16)
  have Kkw16 := hid (Kkw15.out.below bw16)
  have Kgw16 := hid (Kgw15.out.below bw16)
  have Klw16 := hid (Klw15.out.below bw16)
  have Kqw16 := hid (Kqw15.out.below bw16)
  have HPw16 := hid (HPw15.out.below bw16)
  clear bw16 bqw16 balw16 talw16 kalw16 halw16
  go_wp2_with (first
     | (refine wpList_load_blk_if (by first | rfl | go_simp) 68 _ rfl (w3.heap.size) rfl _ 68 Kkw16.out _ Tryd.underlying68 rfl 66 size_public (pubC_size HRT.out hpub) ?_)
     | (refine wpList_load_blk_if (by first | rfl | go_simp) 75 _ rfl (w9.heap.size) rfl _ 75 Kqw16.out _ Tryd.underlying75 rfl 34 size_sig (sigC_size HRR.out) ?_))
  have halw17 := HBw16.out.alloc HBw16.out.size (.cells #[.slice ta tn tc] 81 (0, 0))
  have kalw17 : Blk (w16.alloc (.cells #[.slice ta tn tc] 81 (0, 0))) w16.heap.size #[.slice ta tn tc] 81 := Blk.new rfl _ _
  have talw17 := TextsAt.one kalw17 (hT.below halw17)
  have balw17 := (Below.refl w16.heap.size w16).alloc (Nat.le_refl _) (.cells #[.slice ta tn tc] 81 (0, 0))
  refine (verify_false L n (x % mm) RT pub RR (some ⟨p, 0, none⟩) PS.length pc _ _ _ hr HF2.out HRR.out (HPw16.out.below balw17)).mono ?_
  rintro e w17 ⟨rfl, bqw17⟩
  have bw17 := Below.trans balw17 (bqw17.mono (by simp only [World.size_alloc]; omega))
  have HBw17 := hid (Below.on HBw16.out bw17)
  have hsw17 := HBw17.out.size
  have Khw17 := hid (Khw16.out.below bw17)
  have Ksw17 := hid (Ksw16.out.below bw17)
  have Kkw17 := hid (Kkw16.out.below bw17)
  have Kgw17 := hid (Kgw16.out.below bw17)
  have Klw17 := hid (Klw16.out.below bw17)
  have Kqw17 := hid (Kqw16.out.below bw17)
  clear bw17 bqw17 balw17 talw17 kalw17 halw17
  go_wp2_with fail
  refine (knows11 _).mono ?_
  rintro e w18 ⟨rfl, bw18⟩
  have HBw18 := hid (Below.on HBw17.out bw18)
  have hsw18 := HBw18.out.size
  have Khw18 := hid (Khw17.out.below bw18)
  have Ksw18 := hid (Ksw17.out.below bw18)
  have Kkw18 := hid (Kkw17.out.below bw18)
  have Kgw18 := hid (Kgw17.out.below bw18)
  have Klw18 := hid (Klw17.out.below bw18)
  have Kqw18 := hid (Kqw17.out.below bw18)
  clear bw18
  go_wp2_with fail
  go_returns
  exact ⟨rfl, HBw18.out⟩
end Go.Proofs.YtjkfbeillmeomaaDoor
