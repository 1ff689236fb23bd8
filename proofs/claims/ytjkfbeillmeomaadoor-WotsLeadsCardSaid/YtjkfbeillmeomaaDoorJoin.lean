/-
  Layer 9: two digests joined, as the program and the reference join them.
-/
import Derived.Test.YtjkfbeillmeomaaDoorMChain
import Derived.Test.YtjkfbeillmeomaaDoorTwo
namespace Go.Proofs.YtjkfbeillmeomaaDoor
open Go.ChangeShapes Go.WideShapes Go.ChangeAt Go.RowKit

@[irreducible] def joinZ (a b pub ad : List Int) : List Int :=
  hZ (atZ pub (setAd ad (ad.getD 5 0) (ad.getD 6 0) 0)) (xorD a (atZ pub (setAd ad (ad.getD 5 0) (ad.getD 6 0) 1))) (xorD b (atZ pub (setAd ad (ad.getD 5 0) (ad.getD 6 0) 2)))
theorem Dg.join (a b pub ad : List Int) : Dg (joinZ a b pub ad) := by unfold joinZ; exact Dg.h _ _ _
theorem for_gen (ad : List Int) (q : Int) (w : World) (h : Aw ad) : Calls Tryd.prog 81 #[.agg (ad.map (Value.int .u32)).toArray, .int .u32 q] w fun e w' => e = .returned (.agg ((setAd ad (ad.getD 5 0) (ad.getD 6 0) q).map (Value.int .u32)).toArray) ∧ Below w.heap.size w w' := by
  obtain ⟨a0, a1, a2, a3, a4, a5, a6, a7, rfl⟩ := h.cases
  exact for_any a0 a1 a2 a3 a4 a5 a6 a7 q w

set_option maxHeartbeats 4000000 in
set_option maxRecDepth 100000 in
theorem ljoin_any (a b pub ad : List Int) (w : World) (ha : Dg a) (hb : Dg b) (hpub : Dg pub) (had : Aw ad) (tab : ShaTab w) :
    Calls Tryd.prog 29 #[(.agg (a.map (Value.int .u8)).toArray), (.agg (b.map (Value.int .u8)).toArray), (.agg (pub.map (Value.int .u8)).toArray), (.agg (ad.map (Value.int .u32)).toArray)] w fun e w' => e = .returned (.agg ((joinZ a b pub ad).map (Value.int .u8)).toArray) ∧ Below w.heap.size w w' := by
  have HM : Hid (joinZ a b pub ad = hZ (atZ pub (setAd ad (ad.getD 5 0) (ad.getD 6 0) 0)) (xorD a (atZ pub (setAd ad (ad.getD 5 0) (ad.getD 6 0) 1))) (xorD b (atZ pub (setAd ad (ad.getD 5 0) (ad.getD 6 0) 2)))) := hid (by unfold joinZ; rfl)
  have HD := hid (Dg.join a b pub ad)
  have CF := hid (fun (q : Int) (W : World) => for_gen ad q W had)
  have hf := had.get 5
  have hs := had.get 6
  have HA0 := hid (had.set hf hs (show (0 : Int) ≤ 0 ∧ (0 : Int) < 4294967296 by omega))
  have HA1 := hid (had.set hf hs (show (0 : Int) ≤ 1 ∧ (1 : Int) < 4294967296 by omega))
  have HA2 := hid (had.set hf hs (show (0 : Int) ≤ 2 ∧ (2 : Int) < 4294967296 by omega))
  have HQ0 := hid (Dg.at_ pub (setAd ad (ad.getD 5 0) (ad.getD 6 0) 0))
  have HQ1 := hid (Dg.at_ pub (setAd ad (ad.getD 5 0) (ad.getD 6 0) 1))
  have HQ2 := hid (Dg.at_ pub (setAd ad (ad.getD 5 0) (ad.getD 6 0) 2))
  clear hf hs
  generalize ad.getD 5 0 = f at *
  generalize ad.getD 6 0 = s at *
  have b1 := (Below.refl w.heap.size w).alloc (Nat.le_refl _) (.cells (a.map (Value.int .u8)).toArray 23 (0, 0))
  have b2 := b1.alloc b1.size (.cells (b.map (Value.int .u8)).toArray 23 (0, 0))
  have b3 := b2.alloc b2.size (.cells (pub.map (Value.int .u8)).toArray 23 (0, 0))
  have b4 := b3.alloc b3.size (.cells (ad.map (Value.int .u32)).toArray 26 (0, 0))
  have b5 := b4.alloc b4.size (.cells (byteCells 32 []) 23 (0, 0))
  have Ka := hid (((((Blk.new (w := w) (n := w.heap.size) rfl (a.map (Value.int .u8)).toArray 23).old (.cells (b.map (Value.int .u8)).toArray 23 (0, 0))).old (.cells (pub.map (Value.int .u8)).toArray 23 (0, 0))).old (.cells (ad.map (Value.int .u32)).toArray 26 (0, 0))).old (.cells (byteCells 32 []) 23 (0, 0)))
  have Kb := hid ((((Blk.new (w := (w.alloc (.cells (a.map (Value.int .u8)).toArray 23 (0, 0)))) (n := w.heap.size + 1) (by simp only [World.size_alloc]) (b.map (Value.int .u8)).toArray 23).old (.cells (pub.map (Value.int .u8)).toArray 23 (0, 0))).old (.cells (ad.map (Value.int .u32)).toArray 26 (0, 0))).old (.cells (byteCells 32 []) 23 (0, 0)))
  have Kp := hid (((Blk.new (w := ((w.alloc (.cells (a.map (Value.int .u8)).toArray 23 (0, 0))).alloc (.cells (b.map (Value.int .u8)).toArray 23 (0, 0)))) (n := w.heap.size + 1 + 1) (by simp only [World.size_alloc]) (pub.map (Value.int .u8)).toArray 23).old (.cells (ad.map (Value.int .u32)).toArray 26 (0, 0))).old (.cells (byteCells 32 []) 23 (0, 0)))
  have Kad := hid ((Blk.new (w := (((w.alloc (.cells (a.map (Value.int .u8)).toArray 23 (0, 0))).alloc (.cells (b.map (Value.int .u8)).toArray 23 (0, 0))).alloc (.cells (pub.map (Value.int .u8)).toArray 23 (0, 0)))) (n := w.heap.size + 1 + 1 + 1) (by simp only [World.size_alloc]) (ad.map (Value.int .u32)).toArray 26).old (.cells (byteCells 32 []) 23 (0, 0)))
  have Kr0 := hid (Blk.new (w := ((((w.alloc (.cells (a.map (Value.int .u8)).toArray 23 (0, 0))).alloc (.cells (b.map (Value.int .u8)).toArray 23 (0, 0))).alloc (.cells (pub.map (Value.int .u8)).toArray 23 (0, 0))).alloc (.cells (ad.map (Value.int .u32)).toArray 26 (0, 0)))) (n := w.heap.size + 1 + 1 + 1 + 1) (by simp only [World.size_alloc]) (byteCells 32 []) 23)
  have Hb := hid b5
  have HzA := hid zsize
  have hbz := b5.size
  have Hbs := hid (show w.heap.size + 1 + 1 + 1 + 1 + 1 = (((((w.alloc (.cells (a.map (Value.int .u8)).toArray 23 (0, 0))).alloc (.cells (b.map (Value.int .u8)).toArray 23 (0, 0))).alloc (.cells (pub.map (Value.int .u8)).toArray 23 (0, 0))).alloc (.cells (ad.map (Value.int .u32)).toArray 26 (0, 0))).alloc (.cells (byteCells 32 []) 23 (0, 0))).heap.size by simp only [World.size_alloc])
  have Htab := hid tab
  clear b1 b2 b3 b4 b5 tab
  go_enter Tryd.func29, Tryd.ntmps29
  go_wp2_with fail
  refine wp_region_flow 5 [0, 1, 2, 3] [4] [(.b 4, [], [])] (by kernel_rfl) (by kernel_rfl) ?_
  apply Exists.intro
  refine ⟨fun w0 hb0 hF0 => ?_, ?_⟩
  · skip
    have x0 : ∀ w', (∃ x : Ext w0, w' = x.at_) → ∃ T, Blk w' (w.heap.size + 1 + 1) (pub.map (Value.int .u8)).toArray T := fun w' ⟨x, hx⟩ => ⟨_, hx ▸ (Kp.out.below hb0).below x.same⟩
    have x1 : ∀ w', (∃ x : Ext w0, w' = x.at_) → ∃ T, Blk w' (w.heap.size + 1 + 1 + 1) (ad.map (Value.int .u32)).toArray T := fun w' ⟨x, hx⟩ => ⟨_, hx ▸ (Kad.out.below hb0).below x.same⟩
    have c0 := fun e : Ext w0 => CF.out 0 e.at_
    have c1 := fun e : Ext w0 => At_any pub (setAd ad f s 0) e.at_ hpub HA0.out ((Htab.out.below (Below.on Hb.out hb0)).below e.same)
    simp only [pick, List.getElem?_toArray, List.getElem?_cons_succ, List.getElem?_cons_zero, Option.toList_some, List.cons_append, List.nil_append]
    repeat (first | (go_big_quiet_want; refine quiet_load_blk 23 _ rfl (w.heap.size + 1 + 1) rfl _ x0 _ Tryd.underlying23 rfl 32 size_digest hpub.size ?_; go_big_quiet_on; simp only [Act.put, List.setIfInBounds_toArray, List.set_cons_zero, List.set_cons_succ]) | (go_big_quiet_want; refine quiet_load_blk 26 _ rfl (w.heap.size + 1 + 1 + 1) rfl _ x1 _ Tryd.underlying26 rfl 8 sizeAdrs had.size ?_; go_big_quiet_on; simp only [Act.put, List.setIfInBounds_toArray, List.set_cons_zero, List.set_cons_succ]) | go_big_quiet_step (first | (go_at_call 81; with_reducible exact Calls.ext (c0 _)) | (go_at_call 69; with_reducible exact Calls.ext (c1 _))))
    exact wpQuiet_nil rfl
  refine AlChk.one rfl (fun b => .pointer (some ⟨b, 0, none⟩)) (.cells (byteCells 32 []) 23 (0, 0)) rfl (fun w3 hb3 hF3 => by go_simp; rfl) ?_
  refine AlChk.nil ?_
  refine Walk.blk rfl (fun b => .pointer (some ⟨b, 0, none⟩)) (.cells (byteCells 32 []) 23 (0, 0)) (by simp) ?_
  intro bw1 wz hbz_ hFz hgew1 _
  apply Exists.intro
  refine ⟨fun w4 hb4 hF4 => wpQuiet_nil rfl, ?_⟩
  refine AlChk.nil ?_
  refine Walk.fin fun w1 hw1 hFw1 _ => ?_
  simp only [List.drop_succ_cons, List.drop_zero]
  have kbw1 : Blk w1 bw1 (byteCells 32 []) 23 := hFw1.2
  have Kzw1 := hid kbw1
  have hgww1 : w.heap.size ≤ bw1 := Nat.le_trans Hb.out.size hgew1
  clear hbz_ hFz hFw1 kbw1
  have hgsw1 : w.heap.size + 1 + 1 + 1 + 1 + 1 ≤ bw1 := by rw [Hbs.out]; exact hgew1
  have hnaw1 : w.heap.size ≠ bw1 := by omega
  have hnbw1 : w.heap.size + 1 ≠ bw1 := by omega
  have hnpw1 : w.heap.size + 1 + 1 ≠ bw1 := by omega
  have hnadw1 : w.heap.size + 1 + 1 + 1 ≠ bw1 := by omega
  have hnr0w1 : w.heap.size + 1 + 1 + 1 + 1 ≠ bw1 := by omega
  have HBw1 := hid (Below.on Hb.out hw1)
  have hsw1 := HBw1.out.size
  have Kaw1 := hid (Ka.out.below hw1)
  have Kbw1 := hid (Kb.out.below hw1)
  have Kpw1 := hid (Kp.out.below hw1)
  have Kadw1 := hid (Kad.out.below hw1)
  have Kr0w1 := hid (Kr0.out.below hw1)
  clear hw1
  generalize hQ0 : atZ pub (setAd ad f s 0) = Q0 at *
  go_wp2_with (
        refine wpList_store_blk rfl 23 _ _ rfl bw1 (Q0.map (Value.int .u8)).toArray rfl rfl _ 23 Kzw1.out 32 size_digest HzA.out HQ0.out.size (ints_one _ _) ?_
        intro w2 hbw2 hkw2
        have HBw2 := hid (hbw2.below HBw1.out HBw1.out.size hgww1)
        have hsw2 := HBw2.out.size
        have Kxw2 := hid hkw2
        have Kaw2 := hid (hbw2.blk Kaw1.out hnaw1)
        have Kbw2 := hid (hbw2.blk Kbw1.out hnbw1)
        have Kpw2 := hid (hbw2.blk Kpw1.out hnpw1)
        have Kadw2 := hid (hbw2.blk Kadw1.out hnadw1)
        have Kr0w2 := hid (hbw2.blk Kr0w1.out hnr0w1)
        clear hbw2 hkw2)
  simp only [Act.put, List.setIfInBounds_toArray, List.set_cons_zero, List.set_cons_succ]
  refine wp_region_flow 5 [0, 1, 2, 3] [4] [(.b 4, [], [])] (by kernel_rfl) (by kernel_rfl) ?_
  apply Exists.intro
  refine ⟨fun w0 hb0 hF0 => ?_, ?_⟩
  · skip
    have x0 : ∀ w', (∃ x : Ext w0, w' = x.at_) → ∃ T, Blk w' (w.heap.size + 1 + 1) (pub.map (Value.int .u8)).toArray T := fun w' ⟨x, hx⟩ => ⟨_, hx ▸ (Kpw2.out.below hb0).below x.same⟩
    have x1 : ∀ w', (∃ x : Ext w0, w' = x.at_) → ∃ T, Blk w' (w.heap.size + 1 + 1 + 1) (ad.map (Value.int .u32)).toArray T := fun w' ⟨x, hx⟩ => ⟨_, hx ▸ (Kadw2.out.below hb0).below x.same⟩
    have c0 := fun e : Ext w0 => CF.out 1 e.at_
    have c1 := fun e : Ext w0 => At_any pub (setAd ad f s 1) e.at_ hpub HA1.out ((Htab.out.below (Below.on HBw2.out hb0)).below e.same)
    simp only [pick, List.getElem?_toArray, List.getElem?_cons_succ, List.getElem?_cons_zero, Option.toList_some, List.cons_append, List.nil_append]
    repeat (first | (go_big_quiet_want; refine quiet_load_blk 23 _ rfl (w.heap.size + 1 + 1) rfl _ x0 _ Tryd.underlying23 rfl 32 size_digest hpub.size ?_; go_big_quiet_on; simp only [Act.put, List.setIfInBounds_toArray, List.set_cons_zero, List.set_cons_succ]) | (go_big_quiet_want; refine quiet_load_blk 26 _ rfl (w.heap.size + 1 + 1 + 1) rfl _ x1 _ Tryd.underlying26 rfl 8 sizeAdrs had.size ?_; go_big_quiet_on; simp only [Act.put, List.setIfInBounds_toArray, List.set_cons_zero, List.set_cons_succ]) | go_big_quiet_step (first | (go_at_call 81; with_reducible exact Calls.ext (c0 _)) | (go_at_call 69; with_reducible exact Calls.ext (c1 _))))
    exact wpQuiet_nil rfl
  refine AlChk.one rfl (fun b => .pointer (some ⟨b, 0, none⟩)) (.cells (byteCells 32 []) 23 (0, 0)) rfl (fun w3 hb3 hF3 => by go_simp; rfl) ?_
  refine AlChk.nil ?_
  refine Walk.blk rfl (fun b => .pointer (some ⟨b, 0, none⟩)) (.cells (byteCells 32 []) 23 (0, 0)) (by simp) ?_
  intro bw3 wz hbz_ hFz hgew3 _
  apply Exists.intro
  refine ⟨fun w4 hb4 hF4 => wpQuiet_nil rfl, ?_⟩
  refine AlChk.nil ?_
  refine Walk.fin fun w3 hw3 hFw3 _ => ?_
  simp only [List.drop_succ_cons, List.drop_zero]
  have kbw3 : Blk w3 bw3 (byteCells 32 []) 23 := hFw3.2
  have Kzw3 := hid kbw3
  have hgww3 : w.heap.size ≤ bw3 := Nat.le_trans HBw2.out.size hgew3
  clear hbz_ hFz hFw3 kbw3
  have hnaw3 : w.heap.size ≠ bw3 := by have := Kaw2.out.lt; omega
  have hnbw3 : w.heap.size + 1 ≠ bw3 := by have := Kbw2.out.lt; omega
  have hnpw3 : w.heap.size + 1 + 1 ≠ bw3 := by have := Kpw2.out.lt; omega
  have hnadw3 : w.heap.size + 1 + 1 + 1 ≠ bw3 := by have := Kadw2.out.lt; omega
  have hnr0w3 : w.heap.size + 1 + 1 + 1 + 1 ≠ bw3 := by have := Kr0w2.out.lt; omega
  have hnxw3 : bw1 ≠ bw3 := by have := Kxw2.out.lt; omega
  have HBw3 := hid (Below.on HBw2.out hw3)
  have hsw3 := HBw3.out.size
  have Kaw3 := hid (Kaw2.out.below hw3)
  have Kbw3 := hid (Kbw2.out.below hw3)
  have Kpw3 := hid (Kpw2.out.below hw3)
  have Kadw3 := hid (Kadw2.out.below hw3)
  have Kr0w3 := hid (Kr0w2.out.below hw3)
  have Kxw3 := hid (Kxw2.out.below hw3)
  clear hw3
  generalize hQ1 : atZ pub (setAd ad f s 1) = Q1 at *
  go_wp2_with (
        refine wpList_store_blk rfl 23 _ _ rfl bw3 (Q1.map (Value.int .u8)).toArray rfl rfl _ 23 Kzw3.out 32 size_digest HzA.out HQ1.out.size (ints_one _ _) ?_
        intro w4 hbw4 hkw4
        have HBw4 := hid (hbw4.below HBw3.out HBw3.out.size hgww3)
        have hsw4 := HBw4.out.size
        have Kyw4 := hid hkw4
        have Kaw4 := hid (hbw4.blk Kaw3.out hnaw3)
        have Kbw4 := hid (hbw4.blk Kbw3.out hnbw3)
        have Kpw4 := hid (hbw4.blk Kpw3.out hnpw3)
        have Kadw4 := hid (hbw4.blk Kadw3.out hnadw3)
        have Kr0w4 := hid (hbw4.blk Kr0w3.out hnr0w3)
        have Kxw4 := hid (hbw4.blk Kxw3.out hnxw3)
        clear hbw4 hkw4)
  simp only [Act.put, List.setIfInBounds_toArray, List.set_cons_zero, List.set_cons_succ]
  refine wp_region_flow 5 [0, 1, 2, 3] [4] [(.b 4, [], [])] (by kernel_rfl) (by kernel_rfl) ?_
  apply Exists.intro
  refine ⟨fun w0 hb0 hF0 => ?_, ?_⟩
  · skip
    have x0 : ∀ w', (∃ x : Ext w0, w' = x.at_) → ∃ T, Blk w' (w.heap.size + 1 + 1) (pub.map (Value.int .u8)).toArray T := fun w' ⟨x, hx⟩ => ⟨_, hx ▸ (Kpw4.out.below hb0).below x.same⟩
    have x1 : ∀ w', (∃ x : Ext w0, w' = x.at_) → ∃ T, Blk w' (w.heap.size + 1 + 1 + 1) (ad.map (Value.int .u32)).toArray T := fun w' ⟨x, hx⟩ => ⟨_, hx ▸ (Kadw4.out.below hb0).below x.same⟩
    have c0 := fun e : Ext w0 => CF.out 2 e.at_
    have c1 := fun e : Ext w0 => At_any pub (setAd ad f s 2) e.at_ hpub HA2.out ((Htab.out.below (Below.on HBw4.out hb0)).below e.same)
    simp only [pick, List.getElem?_toArray, List.getElem?_cons_succ, List.getElem?_cons_zero, Option.toList_some, List.cons_append, List.nil_append]
    repeat (first | (go_big_quiet_want; refine quiet_load_blk 23 _ rfl (w.heap.size + 1 + 1) rfl _ x0 _ Tryd.underlying23 rfl 32 size_digest hpub.size ?_; go_big_quiet_on; simp only [Act.put, List.setIfInBounds_toArray, List.set_cons_zero, List.set_cons_succ]) | (go_big_quiet_want; refine quiet_load_blk 26 _ rfl (w.heap.size + 1 + 1 + 1) rfl _ x1 _ Tryd.underlying26 rfl 8 sizeAdrs had.size ?_; go_big_quiet_on; simp only [Act.put, List.setIfInBounds_toArray, List.set_cons_zero, List.set_cons_succ]) | go_big_quiet_step (first | (go_at_call 81; with_reducible exact Calls.ext (c0 _)) | (go_at_call 69; with_reducible exact Calls.ext (c1 _))))
    exact wpQuiet_nil rfl
  refine AlChk.one rfl (fun b => .pointer (some ⟨b, 0, none⟩)) (.cells (byteCells 32 []) 23 (0, 0)) rfl (fun w3 hb3 hF3 => by go_simp; rfl) ?_
  refine AlChk.nil ?_
  refine Walk.blk rfl (fun b => .pointer (some ⟨b, 0, none⟩)) (.cells (byteCells 32 []) 23 (0, 0)) (by simp) ?_
  intro bw5 wz hbz_ hFz hgew5 _
  apply Exists.intro
  refine ⟨fun w4 hb4 hF4 => wpQuiet_nil rfl, ?_⟩
  refine AlChk.nil ?_
  refine Walk.fin fun w5 hw5 hFw5 _ => ?_
  simp only [List.drop_succ_cons, List.drop_zero]
  have kbw5 : Blk w5 bw5 (byteCells 32 []) 23 := hFw5.2
  have Kzw5 := hid kbw5
  have hgww5 : w.heap.size ≤ bw5 := Nat.le_trans HBw4.out.size hgew5
  clear hbz_ hFz hFw5 kbw5
  have hnaw5 : w.heap.size ≠ bw5 := by have := Kaw4.out.lt; omega
  have hnbw5 : w.heap.size + 1 ≠ bw5 := by have := Kbw4.out.lt; omega
  have hnpw5 : w.heap.size + 1 + 1 ≠ bw5 := by have := Kpw4.out.lt; omega
  have hnadw5 : w.heap.size + 1 + 1 + 1 ≠ bw5 := by have := Kadw4.out.lt; omega
  have hnr0w5 : w.heap.size + 1 + 1 + 1 + 1 ≠ bw5 := by have := Kr0w4.out.lt; omega
  have hnxw5 : bw1 ≠ bw5 := by have := Kxw4.out.lt; omega
  have hnyw5 : bw3 ≠ bw5 := by have := Kyw4.out.lt; omega
  have HBw5 := hid (Below.on HBw4.out hw5)
  have hsw5 := HBw5.out.size
  have Kaw5 := hid (Kaw4.out.below hw5)
  have Kbw5 := hid (Kbw4.out.below hw5)
  have Kpw5 := hid (Kpw4.out.below hw5)
  have Kadw5 := hid (Kadw4.out.below hw5)
  have Kr0w5 := hid (Kr0w4.out.below hw5)
  have Kxw5 := hid (Kxw4.out.below hw5)
  have Kyw5 := hid (Kyw4.out.below hw5)
  clear hw5
  generalize hQ2 : atZ pub (setAd ad f s 2) = Q2 at *
  go_wp2_with (
        refine wpList_store_blk rfl 23 _ _ rfl bw5 (Q2.map (Value.int .u8)).toArray rfl rfl _ 23 Kzw5.out 32 size_digest HzA.out HQ2.out.size (ints_one _ _) ?_
        intro w6 hbw6 hkw6
        have HBw6 := hid (hbw6.below HBw5.out HBw5.out.size hgww5)
        have hsw6 := HBw6.out.size
        have Kzw6 := hid hkw6
        have Kaw6 := hid (hbw6.blk Kaw5.out hnaw5)
        have Kbw6 := hid (hbw6.blk Kbw5.out hnbw5)
        have Kpw6 := hid (hbw6.blk Kpw5.out hnpw5)
        have Kadw6 := hid (hbw6.blk Kadw5.out hnadw5)
        have Kr0w6 := hid (hbw6.blk Kr0w5.out hnr0w5)
        have Kxw6 := hid (hbw6.blk Kxw5.out hnxw5)
        have Kyw6 := hid (hbw6.blk Kyw5.out hnyw5)
        clear hbw6 hkw6)
  simp only [Act.put, List.setIfInBounds_toArray, List.set_cons_zero, List.set_cons_succ]
  refine wp_region_flow 8 (List.range 8) [] [] (by kernel_rfl) (by kernel_rfl) ?_
  apply Exists.intro
  refine ⟨fun w0 hb0 hF0 => ?_, ?_⟩
  · skip
    have x0 : ∀ w', (∃ x : Ext w0, w' = x.at_) → ∃ T, Blk w' (bw1) (Q0.map (Value.int .u8)).toArray T := fun w' ⟨x, hx⟩ => ⟨_, hx ▸ (Kxw6.out.below hb0).below x.same⟩
    have x1 : ∀ w', (∃ x : Ext w0, w' = x.at_) → ∃ T, Blk w' (w.heap.size) (a.map (Value.int .u8)).toArray T := fun w' ⟨x, hx⟩ => ⟨_, hx ▸ (Kaw6.out.below hb0).below x.same⟩
    have x2 : ∀ w', (∃ x : Ext w0, w' = x.at_) → ∃ T, Blk w' (bw3) (Q1.map (Value.int .u8)).toArray T := fun w' ⟨x, hx⟩ => ⟨_, hx ▸ (Kyw6.out.below hb0).below x.same⟩
    have x3 : ∀ w', (∃ x : Ext w0, w' = x.at_) → ∃ T, Blk w' (w.heap.size + 1) (b.map (Value.int .u8)).toArray T := fun w' ⟨x, hx⟩ => ⟨_, hx ▸ (Kbw6.out.below hb0).below x.same⟩
    have x4 : ∀ w', (∃ x : Ext w0, w' = x.at_) → ∃ T, Blk w' (bw5) (Q2.map (Value.int .u8)).toArray T := fun w' ⟨x, hx⟩ => ⟨_, hx ▸ (Kzw6.out.below hb0).below x.same⟩
    have c0 := fun e : Ext w0 => Mask_any a Q1 e.at_ ha HQ1.out
    have c1 := fun e : Ext w0 => Mask_any b Q2 e.at_ hb HQ2.out
    have c2 := fun e : Ext w0 => H_any Q0 (xorD a Q1) (xorD b Q2) e.at_ HQ0.out (ha.xor HQ1.out) (hb.xor HQ2.out) ((Htab.out.below (Below.on HBw6.out hb0)).below e.same)
    rw [← HM.out] at c2
    simp only [pick, List.range, List.range.loop, List.getElem?_toArray, List.getElem?_cons_succ, List.getElem?_cons_zero, Option.toList_some, List.cons_append, List.nil_append]
    repeat (first | (go_big_quiet_want; refine quiet_load_blk 23 _ rfl (bw1) rfl _ x0 _ Tryd.underlying23 rfl 32 size_digest HQ0.out.size ?_; go_big_quiet_on; simp only [Act.put, List.setIfInBounds_toArray, List.set_cons_zero, List.set_cons_succ]) | (go_big_quiet_want; refine quiet_load_blk 23 _ rfl (w.heap.size) rfl _ x1 _ Tryd.underlying23 rfl 32 size_digest ha.size ?_; go_big_quiet_on; simp only [Act.put, List.setIfInBounds_toArray, List.set_cons_zero, List.set_cons_succ]) | (go_big_quiet_want; refine quiet_load_blk 23 _ rfl (bw3) rfl _ x2 _ Tryd.underlying23 rfl 32 size_digest HQ1.out.size ?_; go_big_quiet_on; simp only [Act.put, List.setIfInBounds_toArray, List.set_cons_zero, List.set_cons_succ]) | (go_big_quiet_want; refine quiet_load_blk 23 _ rfl (w.heap.size + 1) rfl _ x3 _ Tryd.underlying23 rfl 32 size_digest hb.size ?_; go_big_quiet_on; simp only [Act.put, List.setIfInBounds_toArray, List.set_cons_zero, List.set_cons_succ]) | (go_big_quiet_want; refine quiet_load_blk 23 _ rfl (bw5) rfl _ x4 _ Tryd.underlying23 rfl 32 size_digest HQ2.out.size ?_; go_big_quiet_on; simp only [Act.put, List.setIfInBounds_toArray, List.set_cons_zero, List.set_cons_succ]) | go_big_quiet_step (first | (go_at_call 83; with_reducible exact Calls.ext (c0 _)) | (go_at_call 83; with_reducible exact Calls.ext (c1 _)) | (go_at_call 82; with_reducible exact Calls.ext (c2 _))))
    exact wpQuiet_nil rfl
  refine AlChk.nil ?_
  refine Walk.fin fun w7 hw7 _ _ => ?_
  simp only [List.drop_succ_cons, List.drop_zero]
  have HBw7 := hid (Below.on HBw6.out hw7)
  have hsw7 := HBw7.out.size
  have Kaw7 := hid (Kaw6.out.below hw7)
  have Kbw7 := hid (Kbw6.out.below hw7)
  have Kpw7 := hid (Kpw6.out.below hw7)
  have Kadw7 := hid (Kadw6.out.below hw7)
  have Kr0w7 := hid (Kr0w6.out.below hw7)
  have Kxw7 := hid (Kxw6.out.below hw7)
  have Kyw7 := hid (Kyw6.out.below hw7)
  have Kzw7 := hid (Kzw6.out.below hw7)
  clear hw7
  generalize hR : joinZ a b pub ad = R at *
  go_wp2_with (refine wpList_store_blk rfl 23 _ _ rfl (w.heap.size + 1 + 1 + 1 + 1) _ rfl rfl _ 23 Kr0w7.out 32 size_digest HzA.out HD.out.size (ints_one _ _) ?_; intro wr hbutr hkr)
  exact bodyPost_ret (v := (.agg (R.map (Value.int .u8)).toArray)) (results_blk Tryd.results29 _ (w.heap.size + 1 + 1 + 1 + 1) rfl _ 23 hkr _ Tryd.underlying23 rfl 32 size_digest HD.out.size) rfl ⟨by rw [hR], hbutr.below HBw7.out HBw7.out.size (by omega)⟩

set_option maxHeartbeats 4000000 in
set_option maxRecDepth 100000 in
theorem refjoin_any (a b pub ad : List Int) (w : World) (ha : Dg a) (hb : Dg b) (hpub : Dg pub) (had : Aw ad) :
    Calls Tryd.prog 30 #[(.agg (a.map (Value.int .u8)).toArray), (.agg (b.map (Value.int .u8)).toArray), (.agg (pub.map (Value.int .u8)).toArray), (.agg (ad.map (Value.int .u32)).toArray)] w fun e w' => e = .returned (.agg ((joinZ a b pub ad).map (Value.int .u8)).toArray) ∧ Below w.heap.size w w' := by
  have HM : Hid (joinZ a b pub ad = hZ (atZ pub (setAd ad (ad.getD 5 0) (ad.getD 6 0) 0)) (xorD a (atZ pub (setAd ad (ad.getD 5 0) (ad.getD 6 0) 1))) (xorD b (atZ pub (setAd ad (ad.getD 5 0) (ad.getD 6 0) 2)))) := hid (by unfold joinZ; rfl)
  have HD := hid (Dg.join a b pub ad)
  have CF := hid (fun (q : Int) (W : World) => refat_list ad (ad.getD 5 0) (ad.getD 6 0) q W had)
  have hc5 : ∀ W : World, Blk W (w.heap.size + 1 + 1 + 1) (ad.map (Value.int .u32)).toArray 26 → W.cell? ⟨w.heap.size + 1 + 1 + 1, 5, none⟩ = some (.int .u32 (ad.getD 5 0)) := fun W k => by
    rw [k.cell]
    have := had.len
    simp [List.getD_eq_getElem?_getD, show 5 < ad.length by omega]
  have Hc5 := hid hc5
  have hc6 : ∀ W : World, Blk W (w.heap.size + 1 + 1 + 1) (ad.map (Value.int .u32)).toArray 26 → W.cell? ⟨w.heap.size + 1 + 1 + 1, 6, none⟩ = some (.int .u32 (ad.getD 6 0)) := fun W k => by
    rw [k.cell]
    have := had.len
    simp [List.getD_eq_getElem?_getD, show 6 < ad.length by omega]
  have Hc6 := hid hc6
  clear hc5 hc6
  have hf := had.get 5
  have hs := had.get 6
  have HA0 := hid (had.set hf hs (show (0 : Int) ≤ 0 ∧ (0 : Int) < 4294967296 by omega))
  have HA1 := hid (had.set hf hs (show (0 : Int) ≤ 1 ∧ (1 : Int) < 4294967296 by omega))
  have HA2 := hid (had.set hf hs (show (0 : Int) ≤ 2 ∧ (2 : Int) < 4294967296 by omega))
  have HQ0 := hid (Dg.at_ pub (setAd ad (ad.getD 5 0) (ad.getD 6 0) 0))
  have HQ1 := hid (Dg.at_ pub (setAd ad (ad.getD 5 0) (ad.getD 6 0) 1))
  have HQ2 := hid (Dg.at_ pub (setAd ad (ad.getD 5 0) (ad.getD 6 0) 2))
  clear hf hs
  generalize ad.getD 5 0 = f at *
  generalize ad.getD 6 0 = s at *
  have b1 := (Below.refl w.heap.size w).alloc (Nat.le_refl _) (.cells (a.map (Value.int .u8)).toArray 23 (0, 0))
  have b2 := b1.alloc b1.size (.cells (b.map (Value.int .u8)).toArray 23 (0, 0))
  have b3 := b2.alloc b2.size (.cells (pub.map (Value.int .u8)).toArray 23 (0, 0))
  have b4 := b3.alloc b3.size (.cells (ad.map (Value.int .u32)).toArray 26 (0, 0))
  have b5 := b4.alloc b4.size (.cells (byteCells 32 []) 23 (0, 0))
  have Ka := hid (((((Blk.new (w := w) (n := w.heap.size) rfl (a.map (Value.int .u8)).toArray 23).old (.cells (b.map (Value.int .u8)).toArray 23 (0, 0))).old (.cells (pub.map (Value.int .u8)).toArray 23 (0, 0))).old (.cells (ad.map (Value.int .u32)).toArray 26 (0, 0))).old (.cells (byteCells 32 []) 23 (0, 0)))
  have Kb := hid ((((Blk.new (w := (w.alloc (.cells (a.map (Value.int .u8)).toArray 23 (0, 0)))) (n := w.heap.size + 1) (by simp only [World.size_alloc]) (b.map (Value.int .u8)).toArray 23).old (.cells (pub.map (Value.int .u8)).toArray 23 (0, 0))).old (.cells (ad.map (Value.int .u32)).toArray 26 (0, 0))).old (.cells (byteCells 32 []) 23 (0, 0)))
  have Kp := hid (((Blk.new (w := ((w.alloc (.cells (a.map (Value.int .u8)).toArray 23 (0, 0))).alloc (.cells (b.map (Value.int .u8)).toArray 23 (0, 0)))) (n := w.heap.size + 1 + 1) (by simp only [World.size_alloc]) (pub.map (Value.int .u8)).toArray 23).old (.cells (ad.map (Value.int .u32)).toArray 26 (0, 0))).old (.cells (byteCells 32 []) 23 (0, 0)))
  have Kad := hid ((Blk.new (w := (((w.alloc (.cells (a.map (Value.int .u8)).toArray 23 (0, 0))).alloc (.cells (b.map (Value.int .u8)).toArray 23 (0, 0))).alloc (.cells (pub.map (Value.int .u8)).toArray 23 (0, 0)))) (n := w.heap.size + 1 + 1 + 1) (by simp only [World.size_alloc]) (ad.map (Value.int .u32)).toArray 26).old (.cells (byteCells 32 []) 23 (0, 0)))
  have Kr0 := hid (Blk.new (w := ((((w.alloc (.cells (a.map (Value.int .u8)).toArray 23 (0, 0))).alloc (.cells (b.map (Value.int .u8)).toArray 23 (0, 0))).alloc (.cells (pub.map (Value.int .u8)).toArray 23 (0, 0))).alloc (.cells (ad.map (Value.int .u32)).toArray 26 (0, 0)))) (n := w.heap.size + 1 + 1 + 1 + 1) (by simp only [World.size_alloc]) (byteCells 32 []) 23)
  have Hb := hid b5
  have HzA := hid zsize
  have hbz := b5.size
  have Hbs := hid (show w.heap.size + 1 + 1 + 1 + 1 + 1 = (((((w.alloc (.cells (a.map (Value.int .u8)).toArray 23 (0, 0))).alloc (.cells (b.map (Value.int .u8)).toArray 23 (0, 0))).alloc (.cells (pub.map (Value.int .u8)).toArray 23 (0, 0))).alloc (.cells (ad.map (Value.int .u32)).toArray 26 (0, 0))).alloc (.cells (byteCells 32 []) 23 (0, 0))).heap.size by simp only [World.size_alloc])
  clear b1 b2 b3 b4 b5
  go_enter Tryd.func30, Tryd.ntmps30
  go_wp2_with fail
  refine wp_region_flow 9 [0, 1, 2, 3, 4, 5, 6, 7] [8] [(.b 8, [], [])] (by kernel_rfl) (by kernel_rfl) ?_
  apply Exists.intro
  refine ⟨fun w0 hb0 hF0 => ?_, ?_⟩
  · skip
    have x0 : ∀ w', (∃ x : Ext w0, w' = x.at_) → ∃ T, Blk w' (w.heap.size + 1 + 1) (pub.map (Value.int .u8)).toArray T := fun w' ⟨x, hx⟩ => ⟨_, hx ▸ (Kp.out.below hb0).below x.same⟩
    have x1 : ∀ w', (∃ x : Ext w0, w' = x.at_) → ∃ T, Blk w' (w.heap.size + 1 + 1 + 1) (ad.map (Value.int .u32)).toArray T := fun w' ⟨x, hx⟩ => ⟨_, hx ▸ (Kad.out.below hb0).below x.same⟩
    have c0 := fun e : Ext w0 => CF.out 0 e.at_
    have c1 := fun e : Ext w0 => refAt_any pub (setAd ad f s 0) e.at_ hpub HA0.out
    have c5 : ∀ e : Ext w0, e.at_.cell? ⟨w.heap.size + 1 + 1 + 1, 5, none⟩ = some (.int .u32 f) := fun e => Hc5.out _ ((Kad.out.below hb0).below e.same)
    have c6 : ∀ e : Ext w0, e.at_.cell? ⟨w.heap.size + 1 + 1 + 1, 6, none⟩ = some (.int .u32 s) := fun e => Hc6.out _ ((Kad.out.below hb0).below e.same)
    simp only [pick, List.getElem?_toArray, List.getElem?_cons_succ, List.getElem?_cons_zero, Option.toList_some, List.cons_append, List.nil_append]
    repeat (first | (go_big_quiet_want; refine quiet_load_blk 23 _ rfl (w.heap.size + 1 + 1) rfl _ x0 _ Tryd.underlying23 rfl 32 size_digest hpub.size ?_; go_big_quiet_on; simp only [Act.put, List.setIfInBounds_toArray, List.set_cons_zero, List.set_cons_succ]) | (go_big_quiet_want; refine quiet_load_blk 26 _ rfl (w.heap.size + 1 + 1 + 1) rfl _ x1 _ Tryd.underlying26 rfl 8 sizeAdrs had.size ?_; go_big_quiet_on; simp only [Act.put, List.setIfInBounds_toArray, List.set_cons_zero, List.set_cons_succ]) | go_big_quiet_step (first | (go_at_call 71; with_reducible exact Calls.ext (c0 _)) | (go_at_call 70; with_reducible exact Calls.ext (c1 _))))
    exact wpQuiet_nil rfl
  refine AlChk.one rfl (fun b => .pointer (some ⟨b, 0, none⟩)) (.cells (byteCells 32 []) 23 (0, 0)) rfl (fun w3 hb3 hF3 => by go_simp; rfl) ?_
  refine AlChk.nil ?_
  refine Walk.blk rfl (fun b => .pointer (some ⟨b, 0, none⟩)) (.cells (byteCells 32 []) 23 (0, 0)) (by simp) ?_
  intro bw1 wz hbz_ hFz hgew1 _
  apply Exists.intro
  refine ⟨fun w4 hb4 hF4 => wpQuiet_nil rfl, ?_⟩
  refine AlChk.nil ?_
  refine Walk.fin fun w1 hw1 hFw1 _ => ?_
  simp only [List.drop_succ_cons, List.drop_zero]
  have kbw1 : Blk w1 bw1 (byteCells 32 []) 23 := hFw1.2
  have Kzw1 := hid kbw1
  have hgww1 : w.heap.size ≤ bw1 := Nat.le_trans Hb.out.size hgew1
  clear hbz_ hFz hFw1 kbw1
  have hgsw1 : w.heap.size + 1 + 1 + 1 + 1 + 1 ≤ bw1 := by rw [Hbs.out]; exact hgew1
  have hnaw1 : w.heap.size ≠ bw1 := by omega
  have hnbw1 : w.heap.size + 1 ≠ bw1 := by omega
  have hnpw1 : w.heap.size + 1 + 1 ≠ bw1 := by omega
  have hnadw1 : w.heap.size + 1 + 1 + 1 ≠ bw1 := by omega
  have hnr0w1 : w.heap.size + 1 + 1 + 1 + 1 ≠ bw1 := by omega
  have HBw1 := hid (Below.on Hb.out hw1)
  have hsw1 := HBw1.out.size
  have Kaw1 := hid (Ka.out.below hw1)
  have Kbw1 := hid (Kb.out.below hw1)
  have Kpw1 := hid (Kp.out.below hw1)
  have Kadw1 := hid (Kad.out.below hw1)
  have Kr0w1 := hid (Kr0.out.below hw1)
  clear hw1
  generalize hQ0 : atZ pub (setAd ad f s 0) = Q0 at *
  go_wp2_with (
        refine wpList_store_blk rfl 23 _ _ rfl bw1 (Q0.map (Value.int .u8)).toArray rfl rfl _ 23 Kzw1.out 32 size_digest HzA.out HQ0.out.size (ints_one _ _) ?_
        intro w2 hbw2 hkw2
        have HBw2 := hid (hbw2.below HBw1.out HBw1.out.size hgww1)
        have hsw2 := HBw2.out.size
        have Kxw2 := hid hkw2
        have Kaw2 := hid (hbw2.blk Kaw1.out hnaw1)
        have Kbw2 := hid (hbw2.blk Kbw1.out hnbw1)
        have Kpw2 := hid (hbw2.blk Kpw1.out hnpw1)
        have Kadw2 := hid (hbw2.blk Kadw1.out hnadw1)
        have Kr0w2 := hid (hbw2.blk Kr0w1.out hnr0w1)
        clear hbw2 hkw2)
  simp only [Act.put, List.setIfInBounds_toArray, List.set_cons_zero, List.set_cons_succ]
  refine wp_region_flow 9 [0, 1, 2, 3, 4, 5, 6, 7] [8] [(.b 8, [], [])] (by kernel_rfl) (by kernel_rfl) ?_
  apply Exists.intro
  refine ⟨fun w0 hb0 hF0 => ?_, ?_⟩
  · skip
    have x0 : ∀ w', (∃ x : Ext w0, w' = x.at_) → ∃ T, Blk w' (w.heap.size + 1 + 1) (pub.map (Value.int .u8)).toArray T := fun w' ⟨x, hx⟩ => ⟨_, hx ▸ (Kpw2.out.below hb0).below x.same⟩
    have x1 : ∀ w', (∃ x : Ext w0, w' = x.at_) → ∃ T, Blk w' (w.heap.size + 1 + 1 + 1) (ad.map (Value.int .u32)).toArray T := fun w' ⟨x, hx⟩ => ⟨_, hx ▸ (Kadw2.out.below hb0).below x.same⟩
    have c0 := fun e : Ext w0 => CF.out 1 e.at_
    have c1 := fun e : Ext w0 => refAt_any pub (setAd ad f s 1) e.at_ hpub HA1.out
    have c5 : ∀ e : Ext w0, e.at_.cell? ⟨w.heap.size + 1 + 1 + 1, 5, none⟩ = some (.int .u32 f) := fun e => Hc5.out _ ((Kadw2.out.below hb0).below e.same)
    have c6 : ∀ e : Ext w0, e.at_.cell? ⟨w.heap.size + 1 + 1 + 1, 6, none⟩ = some (.int .u32 s) := fun e => Hc6.out _ ((Kadw2.out.below hb0).below e.same)
    simp only [pick, List.getElem?_toArray, List.getElem?_cons_succ, List.getElem?_cons_zero, Option.toList_some, List.cons_append, List.nil_append]
    repeat (first | (go_big_quiet_want; refine quiet_load_blk 23 _ rfl (w.heap.size + 1 + 1) rfl _ x0 _ Tryd.underlying23 rfl 32 size_digest hpub.size ?_; go_big_quiet_on; simp only [Act.put, List.setIfInBounds_toArray, List.set_cons_zero, List.set_cons_succ]) | (go_big_quiet_want; refine quiet_load_blk 26 _ rfl (w.heap.size + 1 + 1 + 1) rfl _ x1 _ Tryd.underlying26 rfl 8 sizeAdrs had.size ?_; go_big_quiet_on; simp only [Act.put, List.setIfInBounds_toArray, List.set_cons_zero, List.set_cons_succ]) | go_big_quiet_step (first | (go_at_call 71; with_reducible exact Calls.ext (c0 _)) | (go_at_call 70; with_reducible exact Calls.ext (c1 _))))
    exact wpQuiet_nil rfl
  refine AlChk.one rfl (fun b => .pointer (some ⟨b, 0, none⟩)) (.cells (byteCells 32 []) 23 (0, 0)) rfl (fun w3 hb3 hF3 => by go_simp; rfl) ?_
  refine AlChk.nil ?_
  refine Walk.blk rfl (fun b => .pointer (some ⟨b, 0, none⟩)) (.cells (byteCells 32 []) 23 (0, 0)) (by simp) ?_
  intro bw3 wz hbz_ hFz hgew3 _
  apply Exists.intro
  refine ⟨fun w4 hb4 hF4 => wpQuiet_nil rfl, ?_⟩
  refine AlChk.nil ?_
  refine Walk.fin fun w3 hw3 hFw3 _ => ?_
  simp only [List.drop_succ_cons, List.drop_zero]
  have kbw3 : Blk w3 bw3 (byteCells 32 []) 23 := hFw3.2
  have Kzw3 := hid kbw3
  have hgww3 : w.heap.size ≤ bw3 := Nat.le_trans HBw2.out.size hgew3
  clear hbz_ hFz hFw3 kbw3
  have hnaw3 : w.heap.size ≠ bw3 := by have := Kaw2.out.lt; omega
  have hnbw3 : w.heap.size + 1 ≠ bw3 := by have := Kbw2.out.lt; omega
  have hnpw3 : w.heap.size + 1 + 1 ≠ bw3 := by have := Kpw2.out.lt; omega
  have hnadw3 : w.heap.size + 1 + 1 + 1 ≠ bw3 := by have := Kadw2.out.lt; omega
  have hnr0w3 : w.heap.size + 1 + 1 + 1 + 1 ≠ bw3 := by have := Kr0w2.out.lt; omega
  have hnxw3 : bw1 ≠ bw3 := by have := Kxw2.out.lt; omega
  have HBw3 := hid (Below.on HBw2.out hw3)
  have hsw3 := HBw3.out.size
  have Kaw3 := hid (Kaw2.out.below hw3)
  have Kbw3 := hid (Kbw2.out.below hw3)
  have Kpw3 := hid (Kpw2.out.below hw3)
  have Kadw3 := hid (Kadw2.out.below hw3)
  have Kr0w3 := hid (Kr0w2.out.below hw3)
  have Kxw3 := hid (Kxw2.out.below hw3)
  clear hw3
  generalize hQ1 : atZ pub (setAd ad f s 1) = Q1 at *
  go_wp2_with (
        refine wpList_store_blk rfl 23 _ _ rfl bw3 (Q1.map (Value.int .u8)).toArray rfl rfl _ 23 Kzw3.out 32 size_digest HzA.out HQ1.out.size (ints_one _ _) ?_
        intro w4 hbw4 hkw4
        have HBw4 := hid (hbw4.below HBw3.out HBw3.out.size hgww3)
        have hsw4 := HBw4.out.size
        have Kyw4 := hid hkw4
        have Kaw4 := hid (hbw4.blk Kaw3.out hnaw3)
        have Kbw4 := hid (hbw4.blk Kbw3.out hnbw3)
        have Kpw4 := hid (hbw4.blk Kpw3.out hnpw3)
        have Kadw4 := hid (hbw4.blk Kadw3.out hnadw3)
        have Kr0w4 := hid (hbw4.blk Kr0w3.out hnr0w3)
        have Kxw4 := hid (hbw4.blk Kxw3.out hnxw3)
        clear hbw4 hkw4)
  simp only [Act.put, List.setIfInBounds_toArray, List.set_cons_zero, List.set_cons_succ]
  refine wp_region_flow 9 [0, 1, 2, 3, 4, 5, 6, 7] [8] [(.b 8, [], [])] (by kernel_rfl) (by kernel_rfl) ?_
  apply Exists.intro
  refine ⟨fun w0 hb0 hF0 => ?_, ?_⟩
  · skip
    have x0 : ∀ w', (∃ x : Ext w0, w' = x.at_) → ∃ T, Blk w' (w.heap.size + 1 + 1) (pub.map (Value.int .u8)).toArray T := fun w' ⟨x, hx⟩ => ⟨_, hx ▸ (Kpw4.out.below hb0).below x.same⟩
    have x1 : ∀ w', (∃ x : Ext w0, w' = x.at_) → ∃ T, Blk w' (w.heap.size + 1 + 1 + 1) (ad.map (Value.int .u32)).toArray T := fun w' ⟨x, hx⟩ => ⟨_, hx ▸ (Kadw4.out.below hb0).below x.same⟩
    have c0 := fun e : Ext w0 => CF.out 2 e.at_
    have c1 := fun e : Ext w0 => refAt_any pub (setAd ad f s 2) e.at_ hpub HA2.out
    have c5 : ∀ e : Ext w0, e.at_.cell? ⟨w.heap.size + 1 + 1 + 1, 5, none⟩ = some (.int .u32 f) := fun e => Hc5.out _ ((Kadw4.out.below hb0).below e.same)
    have c6 : ∀ e : Ext w0, e.at_.cell? ⟨w.heap.size + 1 + 1 + 1, 6, none⟩ = some (.int .u32 s) := fun e => Hc6.out _ ((Kadw4.out.below hb0).below e.same)
    simp only [pick, List.getElem?_toArray, List.getElem?_cons_succ, List.getElem?_cons_zero, Option.toList_some, List.cons_append, List.nil_append]
    repeat (first | (go_big_quiet_want; refine quiet_load_blk 23 _ rfl (w.heap.size + 1 + 1) rfl _ x0 _ Tryd.underlying23 rfl 32 size_digest hpub.size ?_; go_big_quiet_on; simp only [Act.put, List.setIfInBounds_toArray, List.set_cons_zero, List.set_cons_succ]) | (go_big_quiet_want; refine quiet_load_blk 26 _ rfl (w.heap.size + 1 + 1 + 1) rfl _ x1 _ Tryd.underlying26 rfl 8 sizeAdrs had.size ?_; go_big_quiet_on; simp only [Act.put, List.setIfInBounds_toArray, List.set_cons_zero, List.set_cons_succ]) | go_big_quiet_step (first | (go_at_call 71; with_reducible exact Calls.ext (c0 _)) | (go_at_call 70; with_reducible exact Calls.ext (c1 _))))
    exact wpQuiet_nil rfl
  refine AlChk.one rfl (fun b => .pointer (some ⟨b, 0, none⟩)) (.cells (byteCells 32 []) 23 (0, 0)) rfl (fun w3 hb3 hF3 => by go_simp; rfl) ?_
  refine AlChk.nil ?_
  refine Walk.blk rfl (fun b => .pointer (some ⟨b, 0, none⟩)) (.cells (byteCells 32 []) 23 (0, 0)) (by simp) ?_
  intro bw5 wz hbz_ hFz hgew5 _
  apply Exists.intro
  refine ⟨fun w4 hb4 hF4 => wpQuiet_nil rfl, ?_⟩
  refine AlChk.nil ?_
  refine Walk.fin fun w5 hw5 hFw5 _ => ?_
  simp only [List.drop_succ_cons, List.drop_zero]
  have kbw5 : Blk w5 bw5 (byteCells 32 []) 23 := hFw5.2
  have Kzw5 := hid kbw5
  have hgww5 : w.heap.size ≤ bw5 := Nat.le_trans HBw4.out.size hgew5
  clear hbz_ hFz hFw5 kbw5
  have hnaw5 : w.heap.size ≠ bw5 := by have := Kaw4.out.lt; omega
  have hnbw5 : w.heap.size + 1 ≠ bw5 := by have := Kbw4.out.lt; omega
  have hnpw5 : w.heap.size + 1 + 1 ≠ bw5 := by have := Kpw4.out.lt; omega
  have hnadw5 : w.heap.size + 1 + 1 + 1 ≠ bw5 := by have := Kadw4.out.lt; omega
  have hnr0w5 : w.heap.size + 1 + 1 + 1 + 1 ≠ bw5 := by have := Kr0w4.out.lt; omega
  have hnxw5 : bw1 ≠ bw5 := by have := Kxw4.out.lt; omega
  have hnyw5 : bw3 ≠ bw5 := by have := Kyw4.out.lt; omega
  have HBw5 := hid (Below.on HBw4.out hw5)
  have hsw5 := HBw5.out.size
  have Kaw5 := hid (Kaw4.out.below hw5)
  have Kbw5 := hid (Kbw4.out.below hw5)
  have Kpw5 := hid (Kpw4.out.below hw5)
  have Kadw5 := hid (Kadw4.out.below hw5)
  have Kr0w5 := hid (Kr0w4.out.below hw5)
  have Kxw5 := hid (Kxw4.out.below hw5)
  have Kyw5 := hid (Kyw4.out.below hw5)
  clear hw5
  generalize hQ2 : atZ pub (setAd ad f s 2) = Q2 at *
  go_wp2_with (
        refine wpList_store_blk rfl 23 _ _ rfl bw5 (Q2.map (Value.int .u8)).toArray rfl rfl _ 23 Kzw5.out 32 size_digest HzA.out HQ2.out.size (ints_one _ _) ?_
        intro w6 hbw6 hkw6
        have HBw6 := hid (hbw6.below HBw5.out HBw5.out.size hgww5)
        have hsw6 := HBw6.out.size
        have Kzw6 := hid hkw6
        have Kaw6 := hid (hbw6.blk Kaw5.out hnaw5)
        have Kbw6 := hid (hbw6.blk Kbw5.out hnbw5)
        have Kpw6 := hid (hbw6.blk Kpw5.out hnpw5)
        have Kadw6 := hid (hbw6.blk Kadw5.out hnadw5)
        have Kr0w6 := hid (hbw6.blk Kr0w5.out hnr0w5)
        have Kxw6 := hid (hbw6.blk Kxw5.out hnxw5)
        have Kyw6 := hid (hbw6.blk Kyw5.out hnyw5)
        clear hbw6 hkw6)
  simp only [Act.put, List.setIfInBounds_toArray, List.set_cons_zero, List.set_cons_succ]
  refine wp_region_flow 8 (List.range 8) [] [] (by kernel_rfl) (by kernel_rfl) ?_
  apply Exists.intro
  refine ⟨fun w0 hb0 hF0 => ?_, ?_⟩
  · skip
    have x0 : ∀ w', (∃ x : Ext w0, w' = x.at_) → ∃ T, Blk w' (bw1) (Q0.map (Value.int .u8)).toArray T := fun w' ⟨x, hx⟩ => ⟨_, hx ▸ (Kxw6.out.below hb0).below x.same⟩
    have x1 : ∀ w', (∃ x : Ext w0, w' = x.at_) → ∃ T, Blk w' (w.heap.size) (a.map (Value.int .u8)).toArray T := fun w' ⟨x, hx⟩ => ⟨_, hx ▸ (Kaw6.out.below hb0).below x.same⟩
    have x2 : ∀ w', (∃ x : Ext w0, w' = x.at_) → ∃ T, Blk w' (bw3) (Q1.map (Value.int .u8)).toArray T := fun w' ⟨x, hx⟩ => ⟨_, hx ▸ (Kyw6.out.below hb0).below x.same⟩
    have x3 : ∀ w', (∃ x : Ext w0, w' = x.at_) → ∃ T, Blk w' (w.heap.size + 1) (b.map (Value.int .u8)).toArray T := fun w' ⟨x, hx⟩ => ⟨_, hx ▸ (Kbw6.out.below hb0).below x.same⟩
    have x4 : ∀ w', (∃ x : Ext w0, w' = x.at_) → ∃ T, Blk w' (bw5) (Q2.map (Value.int .u8)).toArray T := fun w' ⟨x, hx⟩ => ⟨_, hx ▸ (Kzw6.out.below hb0).below x.same⟩
    have c0 := fun e : Ext w0 => refMask_any a Q1 e.at_ ha HQ1.out
    have c1 := fun e : Ext w0 => refMask_any b Q2 e.at_ hb HQ2.out
    have c2 := fun e : Ext w0 => refH_any Q0 (xorD a Q1) (xorD b Q2) e.at_ HQ0.out (ha.xor HQ1.out) (hb.xor HQ2.out)
    rw [← HM.out] at c2
    simp only [pick, List.range, List.range.loop, List.getElem?_toArray, List.getElem?_cons_succ, List.getElem?_cons_zero, Option.toList_some, List.cons_append, List.nil_append]
    repeat (first | (go_big_quiet_want; refine quiet_load_blk 23 _ rfl (bw1) rfl _ x0 _ Tryd.underlying23 rfl 32 size_digest HQ0.out.size ?_; go_big_quiet_on; simp only [Act.put, List.setIfInBounds_toArray, List.set_cons_zero, List.set_cons_succ]) | (go_big_quiet_want; refine quiet_load_blk 23 _ rfl (w.heap.size) rfl _ x1 _ Tryd.underlying23 rfl 32 size_digest ha.size ?_; go_big_quiet_on; simp only [Act.put, List.setIfInBounds_toArray, List.set_cons_zero, List.set_cons_succ]) | (go_big_quiet_want; refine quiet_load_blk 23 _ rfl (bw3) rfl _ x2 _ Tryd.underlying23 rfl 32 size_digest HQ1.out.size ?_; go_big_quiet_on; simp only [Act.put, List.setIfInBounds_toArray, List.set_cons_zero, List.set_cons_succ]) | (go_big_quiet_want; refine quiet_load_blk 23 _ rfl (w.heap.size + 1) rfl _ x3 _ Tryd.underlying23 rfl 32 size_digest hb.size ?_; go_big_quiet_on; simp only [Act.put, List.setIfInBounds_toArray, List.set_cons_zero, List.set_cons_succ]) | (go_big_quiet_want; refine quiet_load_blk 23 _ rfl (bw5) rfl _ x4 _ Tryd.underlying23 rfl 32 size_digest HQ2.out.size ?_; go_big_quiet_on; simp only [Act.put, List.setIfInBounds_toArray, List.set_cons_zero, List.set_cons_succ]) | go_big_quiet_step (first | (go_at_call 85; with_reducible exact Calls.ext (c0 _)) | (go_at_call 85; with_reducible exact Calls.ext (c1 _)) | (go_at_call 84; with_reducible exact Calls.ext (c2 _))))
    exact wpQuiet_nil rfl
  refine AlChk.nil ?_
  refine Walk.fin fun w7 hw7 _ _ => ?_
  simp only [List.drop_succ_cons, List.drop_zero]
  have HBw7 := hid (Below.on HBw6.out hw7)
  have hsw7 := HBw7.out.size
  have Kaw7 := hid (Kaw6.out.below hw7)
  have Kbw7 := hid (Kbw6.out.below hw7)
  have Kpw7 := hid (Kpw6.out.below hw7)
  have Kadw7 := hid (Kadw6.out.below hw7)
  have Kr0w7 := hid (Kr0w6.out.below hw7)
  have Kxw7 := hid (Kxw6.out.below hw7)
  have Kyw7 := hid (Kyw6.out.below hw7)
  have Kzw7 := hid (Kzw6.out.below hw7)
  clear hw7
  generalize hR : joinZ a b pub ad = R at *
  go_wp2_with (refine wpList_store_blk rfl 23 _ _ rfl (w.heap.size + 1 + 1 + 1 + 1) _ rfl rfl _ 23 Kr0w7.out 32 size_digest HzA.out HD.out.size (ints_one _ _) ?_; intro wr hbutr hkr)
  exact bodyPost_ret (v := (.agg (R.map (Value.int .u8)).toArray)) (results_blk Tryd.results30 _ (w.heap.size + 1 + 1 + 1 + 1) rfl _ 23 hkr _ Tryd.underlying23 rfl 32 size_digest HD.out.size) rfl ⟨by rw [hR], hbutr.below HBw7.out HBw7.out.size (by omega)⟩

end Go.Proofs.YtjkfbeillmeomaaDoor
