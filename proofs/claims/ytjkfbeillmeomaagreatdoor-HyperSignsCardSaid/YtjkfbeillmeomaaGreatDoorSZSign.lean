/-
  Layer 11: signing, by the program.
-/
import Derived.Test.YtjkfbeillmeomaaGreatDoorSZSignA
namespace Go.Proofs.YtjkfbeillmeomaaGreatDoor
set_option maxRecDepth 100000
open Go.ChangeShapes Go.WideShapes Go.ChangeAt Go.RowKit
/-- What is signed at a layer. -/
def sgM (seed pub : List Int) (n : Nat) (p i : Int) (M : List Int) : Nat → List Int
  | 0 => M
  | k + 1 => RootW seed pub (k : Int) (atK p i (k + 1)) n
/-- A layer's part. -/
def sgP (seed pub : List Int) (n : Nat) (p i : Int) (M : List Int) (k : Nat) : Prt :=
  (rowW (sigP (sgM seed pub n p i M k) seed pub (otsZ (k : Int) (atK p i (k + 1)) (atK p i k % p))), WayW seed pub (k : Int) (atK p i (k + 1)) n (atK p i k % p).toNat)
/-- The parts of so many layers. -/
def sgPs (seed pub : List Int) (n : Nat) (p i : Int) (M : List Int) (L : Nat) : List Prt := (List.range L).map (sgP seed pub n p i M)
theorem sgPs_length (seed pub : List Int) (n : Nat) (p i : Int) (M : List Int) (L : Nat) : (sgPs seed pub n p i M L).length = L := by simp [sgPs]
theorem sgPs_succ (seed pub : List Int) (n : Nat) (p i : Int) (M : List Int) (L : Nat) : sgPs seed pub n p i M (L + 1) = sgPs seed pub n p i M L ++ [sgP seed pub n p i M L] := by simp [sgPs, List.range_succ]
theorem Dg.sg {seed pub : List Int} {n : Nat} {p i : Int} {M : List Int} (hM : Dg M) : ∀ k, Dg (sgM seed pub n p i M k)
  | 0 => hM
  | _ + 1 => Dg.node pub (treeZ _ _) (fun j => Dg.leaf seed pub _ _ (j : Int)) n 0
theorem sgPs_at (seed pub : List Int) (n : Nat) (p i : Int) (M : List Int) {L j : Nat} (h : j < L) : (sgPs seed pub n p i M L).getD j ([], []) = sgP seed pub n p i M j := by
  rw [List.getD_eq_getElem?_getD]
  simp [sgPs, h]
theorem sgP_len (seed pub : List Int) (n : Nat) (p i : Int) (M : List Int) (k : Nat) : (sgP seed pub n p i M k).1.length = 67 ∧ (sgP seed pub n p i M k).2.length = n := ⟨rowW_length _, wayZ_length _ _ _ _ _⟩
set_option maxHeartbeats 4000000 in
theorem sign_good (L n : Nat) (i : Int) (root pk seed prf pub : List Int) (ta : Option Addr) (tn tc : Nat) (ts : List (List Int)) (w : World) (hrt : rightS L n = true) (h0 : 0 ≤ i) (h1 : i < manyS L n) (hroot : Dg root) (_hpk : Dg pk) (hseed : Dg seed) (hprf : Dg prf) (hpub : Dg pub) (hT : TextsAt w ta tn tc ts) (htn : tn ≤ 4000000000000) (hsl : sumLen ts < 1000000000000000000) (tab : ShaTab w) :
    Calls Tryz.prog 7 #[.agg (pubC L n root pk).toArray, .agg ((secL seed prf pub).map (Value.int .u8)).toArray, .int .i64 i, .slice ta tn tc] w fun e w' => ∃ a cap, e = .returned (.tuple #[.agg (sigC i (prfZ prf (be 32 i)) (.slice a L cap)).toArray, .int .i64 0]) ∧ Below w.heap.size w w' ∧ PartsAt w' a L cap (sgPs seed pub n ((2 ^ n : Nat) : Int) i (msgZ (prfZ prf (be 32 i)) root i ts.flatten) L) ∧ OwnP w' w.heap.size (.slice a L cap) (sgPs seed pub n ((2 ^ n : Nat) : Int) i (msgZ (prfZ prf (be 32 i)) root i ts.flatten) L) := by
  have hrt2 := hrt
  simp only [rightS, decide_eq_true_eq] at hrt2
  have hn : 1 ≤ n ∧ n ≤ 4 := by omega
  have hmy := manyS_le hrt
  have hi16 : i < 65536 := by omega
  have Hss := hid (show ((secL seed prf pub).map (Value.int .u8)).toArray.size = 96 by rw [List.size_toArray, List.length_map, secL_length hseed hprf hpub])
  have hm1 : ¬ (manyS L n ≤ i) := by omega
  have hi1 : ¬ (i < 0) := by omega
  have CMa := hid (fun W : World => many_any L n W)
  have CPrf := hid (fun (a : Option Addr) (len cap : Nat) (W : World) (h : TextAt W a len cap (be 32 i)) (hl : len < 1000000000000000000) (t : ShaTab W) => Prf_any prf (be 32 i) a len cap W hprf h hl t)
  have HRR := hid (Dg.prf prf (be 32 i))
  have CM := hid (fun (W : World) (h : TextsAt W ta tn tc ts) (t : ShaTab W) => Message_any (prfZ prf (be 32 i)) root i ta tn tc ts W (Dg.prf _ _) hroot h0 (by omega) h htn hsl t)
  have HM := hid (Dg.msg (prfZ prf (be 32 i)) root i ts.flatten)
  have Hbs2 := hid (fun W : World => build_sig2 i (prfZ prf (be 32 i)) (Dg.prf _ _) W)
  generalize msgZ (prfZ prf (be 32 i)) root i ts.flatten = M at *
  generalize prfZ prf (be 32 i) = RR at *
  have CLo := hid (fun W : World => lowest_any L i n W hn h0 (by omega))
  have CAb := hid (fun (la tr leaf : Int) (W : World) (hla : 0 ≤ la ∧ la < 100) (q0 : 0 ≤ tr) (q1 : tr < 18446744073709551616) => above_pl la tr leaf n W hn hla q0 q1)
  have Hlf := hid (fun x : Int => leaf_right (x := x) hn)
  have hp0 : (0 : Int) < ((2 ^ n : Nat) : Int) := by have := Nat.pow_pos (n := n) (show 0 < 2 by omega); omega
  generalize ((2 ^ n : Nat) : Int) = p at *
  have Hbw := hid (fun W : World => build_way seed prf pub 0 (i / p) (i % p) n hseed hprf hpub W)
  clear hmy
  have b1 := (Below.refl w.heap.size w).alloc (Nat.le_refl _) (.cells (pubC L n root pk).toArray 27 (0, 0))
  have b2 := b1.alloc b1.size (.cells ((secL seed prf pub).map (Value.int .u8)).toArray 29 (0, 0))
  have b3 := b2.alloc b2.size (.cells zSig.toArray 36 (0, 0))
  have Kp := hid (((Blk.new (w := w) (n := w.heap.size) rfl (pubC L n root pk).toArray 27).old (.cells ((secL seed prf pub).map (Value.int .u8)).toArray 29 (0, 0))).old (.cells zSig.toArray 36 (0, 0)))
  have Ks := hid ((Blk.new (w := (w.alloc (.cells (pubC L n root pk).toArray 27 (0, 0)))) (n := w.heap.size + 1) (by simp only [World.size_alloc]) ((secL seed prf pub).map (Value.int .u8)).toArray 29).old (.cells zSig.toArray 36 (0, 0)))
  have Ko := hid (Blk.new (w := ((w.alloc (.cells (pubC L n root pk).toArray 27 (0, 0))).alloc (.cells ((secL seed prf pub).map (Value.int .u8)).toArray 29 (0, 0)))) (n := w.heap.size + 1 + 1) (by simp only [World.size_alloc]) zSig.toArray 36)
  have Hb := hid b3
  have hbz := b3.size
  have Hbs := hid (show w.heap.size + 1 + 1 + 1 = (((w.alloc (.cells (pubC L n root pk).toArray 27 (0, 0))).alloc (.cells ((secL seed prf pub).map (Value.int .u8)).toArray 29 (0, 0))).alloc (.cells zSig.toArray 36 (0, 0))).heap.size by simp only [World.size_alloc])
  have Htab := hid tab
  clear b1 b2 b3 tab 
  go_enter Tryz.func7, Tryz.ntmps7
  go_wp2_with (refine wpList_load_mid rfl 23 _ rfl (w.heap.size) 0 rfl _ _ (pubC_shape Kp.out) Tryz.underlying23 rfl (by exact size_shape) ?_)
  refine (hright_b L n true hrt _).mono ?_
  rintro e w1 ⟨rfl, bw1⟩
  have HBw1 := hid (Below.on Hb.out bw1)
  have hsw1 := HBw1.out.size
  have Kpw1 := hid (Kp.out.below bw1)
  have Ksw1 := hid (Ks.out.below bw1)
  have Kow1 := hid (Ko.out.below bw1)
  clear bw1
  go_wp2_with (refine wpList_load_mid rfl 23 _ rfl (w.heap.size) 0 rfl _ _ (pubC_shape Kpw1.out) Tryz.underlying23 rfl (by exact size_shape) ?_)
  refine (CMa.out _).mono ?_
  rintro e w2 ⟨rfl, bw2⟩
  have HBw2 := hid (Below.on HBw1.out bw2)
  have hsw2 := HBw2.out.size
  have Kpw2 := hid (Kpw1.out.below bw2)
  have Ksw2 := hid (Ksw1.out.below bw2)
  have Kow2 := hid (Kow1.out.below bw2)
  clear bw2
  go_wp2_with fail
  refine wp_region_flow 9 [0, 1, 2, 3, 4] [8] [(.c 5, [], []), (.c 6, [7], []), (.b 8, [], [])] (by kernel_rfl) (by kernel_rfl) ?_
  apply Exists.intro
  refine ⟨fun w0 hb0 hF0 => ?_, ?_⟩
  · skip
    have z0 : ∀ w', (∃ x : Ext w0, w' = x.at_) → w'.rangeAt (w.heap.size + 1) 32 (prf.map (Value.int .u8)) := fun w' ⟨x, hx⟩ => hx ▸ secL_prf hseed ((Ksw2.out.below hb0).below x.same)
    simp only [pick, List.getElem?_toArray, List.getElem?_cons_succ, List.getElem?_cons_zero, Option.toList_some, List.cons_append, List.nil_append]
    repeat (first | (go_big_quiet_want; refine quiet_load_mid 25 _ rfl (w.heap.size + 1) 32 rfl _ z0 _ Tryz.underlying25 rfl (by rw [List.length_map, hprf.len]; exact size_digest) ?_; go_big_quiet_on; simp only [Act.put, List.setIfInBounds_toArray, List.set_cons_zero, List.set_cons_succ]) | go_big_quiet_step (fail))
    exact wpQuiet_nil rfl
  refine AlChk.one rfl (fun b => .pointer (some ⟨b, 0, none⟩)) (.cells zSig.toArray 36 (0, 0)) rfl (fun w3 hb3 hF3 => by go_simp; rfl) ?_
  refine AlChk.nil ?_
  refine Walk.call rfl 19 #[.int .u64 i, .int .i64 32] (fun v w' => ∃ g, v = .slice (some ⟨g, 0, none⟩) 32 32 ∧ Blk w' g ((be 32 i).map (Value.int .u8)).toArray 5) (fun v w' w'' h k => by obtain ⟨g, h1, h2⟩ := h; exact ⟨g, h1, h2.below k⟩) rfl (fun w1 hb1 hF1 => ⟨by go_simp, ?_⟩) ?_
  · refine (number_any i 32 32 w1 h0 (by omega) (by omega)).mono ?_
    rintro e w2 ⟨g, hg, rfl, b2, k2⟩
    exact ⟨_, rfl, b2, g, rfl, k2⟩
  rintro v1 w1 hb1 hF1 ⟨gn, rfl, _⟩
  apply Exists.intro
  refine ⟨fun w0 hb0 hF0 => wpQuiet_nil rfl, ?_⟩
  refine AlChk.nil ?_
  refine Walk.call rfl 18 #[.agg (prf.map (Value.int .u8)).toArray, .slice (some ⟨gn, 0, none⟩) 32 32] (fun v w' => v = .agg (RR.map (Value.int .u8)).toArray) (fun v w' w'' h k => h) rfl (fun w1 hb1 hF1 => ⟨by go_simp, ?_⟩) ?_
  · have kn : Blk w1 gn ((be 32 i).map (Value.int .u8)).toArray 5 := by
      obtain ⟨u, h1, h2⟩ := hF1.2
      injection h1 with h1
      simp at h1
      rw [h1]; exact h2
    refine (CPrf.out _ _ _ w1 (TextAt.of_ints kn (be_length _ _) (by omega) (be_small _ _)) (by omega) ((Htab.out.below HBw2.out).below hb1)).mono ?_
    rintro e w2 ⟨rfl, b2⟩
    exact ⟨_, rfl, b2, rfl⟩
  rintro v2 w1 hb1 hF1 rfl
  apply Exists.intro
  refine ⟨fun w0 hb0 hF0 => ?_, ?_⟩
  · skip
    simp only [pick, List.getElem?_toArray, List.getElem?_cons_succ, List.getElem?_cons_zero, Option.toList_some, List.cons_append, List.nil_append, Act.put, List.setIfInBounds_toArray, List.set_cons_zero, List.set_cons_succ]
    repeat (first | (go_big_quiet_want; refine quiet_build _ _ rfl [(0, .int .i64 i), (1, .agg (RR.map (Value.int .u8)).toArray)] rfl _ Hbs2.out ?_; go_big_quiet_on; simp only [Act.put, List.setIfInBounds_toArray, List.set_cons_zero, List.set_cons_succ]) | go_big_quiet_step (fail))
    exact wpQuiet_nil rfl
  refine AlChk.nil ?_
  refine Walk.blk rfl (fun b => .pointer (some ⟨b, 0, none⟩)) (.cells zSig.toArray 36 (0, 0)) (by simp) ?_
  intro bw3 wz hbz_ hFz hgew3 _
  apply Exists.intro
  refine ⟨fun w4 hb4 hF4 => wpQuiet_nil rfl, ?_⟩
  refine AlChk.nil ?_
  refine Walk.fin fun w3 hw3 hFw3 _ => ?_
  simp only [List.drop_succ_cons, List.drop_zero]
  have Kzw3 := hid (show Blk w3 bw3 zSig.toArray 36 from hFw3.2)
  have hgww3 : w.heap.size ≤ bw3 := Nat.le_trans HBw2.out.size hgew3
  clear hbz_ hFz hFw3
  have hnpw3 : w.heap.size ≠ bw3 := by have := Kpw2.out.lt; omega
  have hnsw3 : w.heap.size + 1 ≠ bw3 := by have := Ksw2.out.lt; omega
  have hnow3 : w.heap.size + 1 + 1 ≠ bw3 := by have := Kow2.out.lt; omega
  have HBw3 := hid (Below.on HBw2.out hw3)
  have hsw3 := HBw3.out.size
  have Kpw3 := hid (Kpw2.out.below hw3)
  have Ksw3 := hid (Ksw2.out.below hw3)
  have Kow3 := hid (Kow2.out.below hw3)
  clear hw3
  go_wp2_with (first
     | (
        refine wpList_store_blk rfl 36 _ _ rfl bw3 (sigC i RR (.slice none 0 0)).toArray rfl rfl _ 36 Kzw3.out 34 size_sig zSig_size (sigC_size HRR.out) (sigC_ones _ _ _ rfl) ?_
        intro w4 hbw4 hkw4
        have HBw4 := hid (hbw4.below HBw3.out HBw3.out.size hgww3)
        have hsw4 := HBw4.out.size
        have Kgw4 := hid hkw4
        have Kpw4 := hid (hbw4.blk Kpw3.out hnpw3)
        have Ksw4 := hid (hbw4.blk Ksw3.out hnsw3)
        have Kow4 := hid (hbw4.blk Kow3.out hnow3)
        clear hbw4 hkw4)
     | (refine wpList_load_mid rfl 25 _ rfl (bw3) 1 rfl _ _ (sigC_r Kgw4.out) Tryz.underlying25 rfl (by rw [List.length_map, HRR.out.len]; exact size_digest) ?_)
     | (refine wpList_load_mid rfl 25 _ rfl (w.heap.size) 2 rfl _ _ (pubC_root Kpw4.out) Tryz.underlying25 rfl (by rw [List.length_map, hroot.len]; exact size_digest) ?_))
  refine (CM.out _ (hT.below HBw4.out) (Htab.out.below HBw4.out)).mono ?_
  rintro e w5 ⟨rfl, bw5⟩
  have HBw5 := hid (Below.on HBw4.out bw5)
  have hsw5 := HBw5.out.size
  have Kpw5 := hid (Kpw4.out.below bw5)
  have Ksw5 := hid (Ksw4.out.below bw5)
  have Kow5 := hid (Kow4.out.below bw5)
  have Kgw5 := hid (Kgw4.out.below bw5)
  clear bw5
  go_wp2_with (
        refine wpList_store_blk rfl 25 _ _ rfl (w5.heap.size) (M.map (Value.int .u8)).toArray rfl rfl _ 25 (Blk.new rfl (byteCells 32 []) _) 32 size_digest zsize HM.out.size (ints_one _ _) ?_
        intro w6 hbw6 hkw6
        have hw6 := hbw6.below ((Below.refl w5.heap.size w5).alloc (Nat.le_refl _) _) (by simp only [World.size_alloc]; omega) (Nat.le_refl _)
        have HBw6 := hid (Below.on HBw5.out hw6)
        have hsw6 := HBw6.out.size
        have Kpw6 := hid (Kpw5.out.below hw6)
        have hlpw6 := Kpw5.out.lt
        have Ksw6 := hid (Ksw5.out.below hw6)
        have hlsw6 := Ksw5.out.lt
        have Kow6 := hid (Kow5.out.below hw6)
        have hlow6 := Kow5.out.lt
        have Kgw6 := hid (Kgw5.out.below hw6)
        have hlgw6 := Kgw5.out.lt
        have Kmw6 := hid hkw6
        have hfw6 : w.heap.size ≤ w5.heap.size := HBw5.out.size
        clear hbw6 hkw6 hw6)
  simp only [Act.put]
  refine wp_region_flow 7 [0, 1, 2, 3] [6] [(.c 4, [5], []), (.b 6, [], [])] (by kernel_rfl) (by kernel_rfl) ?_
  apply Exists.intro
  refine ⟨fun w0 hb0 hF0 => ?_, ?_⟩
  · skip
    have x0 : ∀ w', (∃ x : Ext w0, w' = x.at_) → ∃ T, Blk w' (w.heap.size + 1) ((secL seed prf pub).map (Value.int .u8)).toArray T := fun w' ⟨x, hx⟩ => ⟨_, hx ▸ (Ksw6.out.below hb0).below x.same⟩
    have z0 : ∀ w', (∃ x : Ext w0, w' = x.at_) → w'.rangeAt (w.heap.size) 0 ((shC L n).toList) := fun w' ⟨x, hx⟩ => hx ▸ pubC_shape ((Kpw6.out.below hb0).below x.same)
    simp only [pick, List.getElem?_toArray, List.getElem?_cons_succ, List.getElem?_cons_zero, Option.toList_some, List.cons_append, List.nil_append]
    repeat (first | (go_big_quiet_want; refine quiet_load_blk 29 _ rfl (w.heap.size + 1) rfl _ x0 _ Tryz.underlying29 rfl 96 size_secret Hss.out ?_; go_big_quiet_on; simp only [Act.put, List.setIfInBounds_toArray, List.set_cons_zero, List.set_cons_succ]) | (go_big_quiet_want; refine quiet_load_mid 23 _ rfl (w.heap.size) 0 rfl _ z0 _ Tryz.underlying23 rfl (by exact size_shape) ?_; go_big_quiet_on; simp only [Act.put, List.setIfInBounds_toArray, List.set_cons_zero, List.set_cons_succ]) | go_big_quiet_step (fail))
    exact wpQuiet_nil rfl
  refine AlChk.one rfl (fun b => .pointer (some ⟨b, 0, none⟩)) (.cells (wayC zD zD zD 0 0 0 0).toArray 60 (0, 0)) rfl (fun w3 hb3 hF3 => by go_simp; rfl) ?_
  refine AlChk.nil ?_
  refine Walk.call rfl 21 #[.agg (shC L n), .int .i64 i] (fun v w' => v = .agg #[.int .u32 0, .int .u64 (i / p), .int .i64 (i % p), .int .i64 n]) (fun v w' w'' h k => h) rfl (fun w1 hb1 hF1 => ⟨by go_simp, ?_⟩) ?_
  · refine (CLo.out w1).mono ?_
    rintro e w2 ⟨rfl, b2⟩
    exact ⟨_, rfl, b2, rfl⟩
  rintro v2 w1 hb1 hF1 rfl
  apply Exists.intro
  refine ⟨fun w0 hb0 hF0 => ?_, ?_⟩
  · skip
    simp only [pick, List.getElem?_toArray, List.getElem?_cons_succ, List.getElem?_cons_zero, Option.toList_some, List.cons_append, List.nil_append, Act.put, List.setIfInBounds_toArray, List.set_cons_zero, List.set_cons_succ]
    repeat (first | (go_big_quiet_want; refine quiet_build _ _ rfl [(0, .agg ((secL seed prf pub).map (Value.int .u8)).toArray), (1, .agg #[.int .u32 0, .int .u64 (i / p), .int .i64 (i % p), .int .i64 n])] rfl _ Hbw.out ?_; go_big_quiet_on; simp only [Act.put, List.setIfInBounds_toArray, List.set_cons_zero, List.set_cons_succ]) | go_big_quiet_step (fail))
    exact wpQuiet_nil rfl
  refine AlChk.nil ?_
  refine Walk.blk rfl (fun b => .pointer (some ⟨b, 0, none⟩)) (.cells (wayC zD zD zD 0 0 0 0).toArray 60 (0, 0)) (by simp) ?_
  intro bw7 wz hbz_ hFz hgew7 _
  apply Exists.intro
  refine ⟨fun w4 hb4 hF4 => wpQuiet_nil rfl, ?_⟩
  refine AlChk.nil ?_
  refine Walk.fin fun w7 hw7 hFw7 _ => ?_
  simp only [List.drop_succ_cons, List.drop_zero]
  have Kzw7 := hid (show Blk w7 bw7 (wayC zD zD zD 0 0 0 0).toArray 60 from hFw7.2)
  have hgww7 : w.heap.size ≤ bw7 := Nat.le_trans HBw6.out.size hgew7
  clear hbz_ hFz hFw7
  have hnpw7 : w.heap.size ≠ bw7 := by have := Kpw6.out.lt; omega
  have hvpw7 : w.heap.size < bw7 := by have := Kpw6.out.lt; omega
  have hnsw7 : w.heap.size + 1 ≠ bw7 := by have := Ksw6.out.lt; omega
  have hvsw7 : w.heap.size + 1 < bw7 := by have := Ksw6.out.lt; omega
  have hnow7 : w.heap.size + 1 + 1 ≠ bw7 := by have := Kow6.out.lt; omega
  have hvow7 : w.heap.size + 1 + 1 < bw7 := by have := Kow6.out.lt; omega
  have hngw7 : bw3 ≠ bw7 := by have := Kgw6.out.lt; omega
  have hvgw7 : bw3 < bw7 := by have := Kgw6.out.lt; omega
  have hnmw7 : w5.heap.size ≠ bw7 := by have := Kmw6.out.lt; omega
  have hvmw7 : w5.heap.size < bw7 := by have := Kmw6.out.lt; omega
  have HBw7 := hid (Below.on HBw6.out hw7)
  have hsw7 := HBw7.out.size
  have Kpw7 := hid (Kpw6.out.below hw7)
  have Ksw7 := hid (Ksw6.out.below hw7)
  have Kow7 := hid (Kow6.out.below hw7)
  have Kgw7 := hid (Kgw6.out.below hw7)
  have Kmw7 := hid (Kmw6.out.below hw7)
  clear hw7
  go_wp2_with (
        refine wpList_store_blk rfl 60 _ _ rfl bw7 (wayC seed prf pub 0 (i / p) (i % p) n).toArray rfl rfl _ 60 Kzw7.out 100 size_way (wayC_size Dg.zero Dg.zero Dg.zero) (wayC_size hseed hprf hpub) (wayC_ones _ _ _ _ _ _ _) ?_
        intro w8 hbw8 hkw8
        have HBw8 := hid (hbw8.below HBw7.out HBw7.out.size hgww7)
        have hsw8 := HBw8.out.size
        have Kww8 := hid hkw8
        have Kpw8 := hid (hbw8.blk Kpw7.out hnpw7)
        have Ksw8 := hid (hbw8.blk Ksw7.out hnsw7)
        have Kow8 := hid (hbw8.blk Kow7.out hnow7)
        have Kgw8 := hid (hbw8.blk Kgw7.out hngw7)
        have Kmw8 := hid (hbw8.blk Kmw7.out hnmw7)
        clear hbw8 hkw8
        have gl : w8.cell? ⟨w.heap.size, 0, none⟩ = some (.int .i64 L) := by rw [Kpw8.out.cell]; rfl)
  have Hpb := hid Kpw8.out
  have Hsb := hid Ksw8.out
  have Hob := hid Kow8.out
  have Hgb := hid Kgw8.out
  have Hmb := hid Kmw8.out
  have Hwb := hid Kww8.out
  have Hbe := hid HBw8.out
  have hbgm : bw3 < w5.heap.size := by have := Kgw8.out.lt; omega
  have hbmw : w5.heap.size < bw7 := by omega
  have hbg0 : w.heap.size + 1 + 1 < bw3 := by omega
  generalize w5.heap.size = bm at *
  obtain ⟨B0, hB0e⟩ : ∃ B0, B0 = w8.heap.size := ⟨_, rfl⟩
  have Hsz0 := hid (show B0 ≤ w8.heap.size by omega)
  have hB0 : bw7 < B0 := by rw [hB0e]; exact Hwb.out.lt
  have hB1 : w.heap.size ≤ B0 := by rw [hB0e]; exact Hbe.out.size
  clear hB0e
  clear hbz
  go_loopw [55] (fun iv wr => ∃ (k : Nat) (v : Value), k ≤ L ∧ iv = .int .i64 k ∧ Blk wr (w.heap.size) (pubC L n root pk).toArray 27 ∧ Blk wr (w.heap.size + 1) ((secL seed prf pub).map (Value.int .u8)).toArray 29 ∧ Blk wr (w.heap.size + 1 + 1) zSig.toArray 36 ∧ Blk wr bw3 (sigC i RR v).toArray 36 ∧ OwnP wr B0 v (sgPs seed pub n p i M k) ∧ Blk wr bm ((sgM seed pub n p i M k).map (Value.int .u8)).toArray 25 ∧ Blk wr bw7 (wayC seed prf pub k (atK p i (k + 1)) (atK p i k % p) n).toArray 60 ∧ Below w.heap.size w wr ∧ B0 ≤ wr.heap.size) (fun iv _ => L - (intOf iv).toNat)
  case atStart => exact ⟨0, _, Nat.zero_le _, rfl, Hpb.out, Hsb.out, Hob.out, Hgb.out, OwnP.nil _ _, Hmb.out, Hwb.out, Hbe.out, Hsz0.out⟩
  case round =>
    obtain ⟨k, pv, hk, rfl, kp, ks, ko, kg, kown, km, kw, bel, hBw⟩ := hrel
    have Kpwr := hid kp
    have Kswr := hid ks
    have Kowr := hid ko
    have Kgwr := hid kg
    have Kmwr := hid km
    have Kwwr := hid kw
    have HOwr := hid kown
    have HBwr := hid bel
    have hswr := bel.size
    have hbwlt := kw.lt
    clear kp ks ko kg kown km kw bel
    by_cases hlt : k < L
    · have hc0 : (k : Int) < L := by omega
      obtain ⟨lf, hlf⟩ : ∃ lf : Nat, atK p i k % p = (lf : Int) := ⟨(atK p i k % p).toNat, by have := Int.emod_nonneg (atK p i k) (show p ≠ 0 by omega); omega⟩
      have hrz := Hlf.out (atK p i k)
      have ha1 : 0 ≤ atK p i (k + 1) ∧ atK p i (k + 1) < 18446744073709551616 := ⟨atK_nonneg hp0 h0 _, by have := atK_le hp0 h0 (k + 1); omega⟩
      obtain ⟨iP, zP, hi, hz0, hzs, hz1, hz2⟩ := info_part
      have HX := hid (Dg.sg (seed := seed) (pub := pub) (n := n) (p := p) (i := i) HM.out k)
      have HX2 := hid (Dg.sg (seed := seed) (pub := pub) (n := n) (p := p) (i := i) HM.out (k + 1))
      have hps : sgP seed pub n p i M k = (rowW (sigP (sgM seed pub n p i M k) seed pub (otsZ (k : Int) (atK p i (k + 1)) (lf : Int))), WayW seed pub (k : Int) (atK p i (k + 1)) n lf) := by unfold sgP; rw [hlf]; rfl
      have Hat := hid (show atK p i (k + 1 + 1) = atK p i (k + 1) / p from rfl)
      have CA := hid (fun (W : World) => CAb.out (k : Int) (atK p i (k + 1)) (lf : Int) W (by omega) ha1.1 ha1.2)
      rw [← Hat.out] at CA
      rw [hlf] at Kwwr hrz
      have CP := hid (fun (W : World) (kw : Blk W bw7 (wayC seed prf pub k (atK p i (k + 1)) (lf : Int) n).toArray 60) (t : ShaTab W) => part_any seed prf pub (sgM seed pub n p i M k) k (atK p i (k + 1)) n lf bw7 W kw hseed hprf hpub HX.out (by omega) ha1 hrz t)
      rw [show RootW seed pub (k : Int) (atK p i (k + 1)) n = sgM seed pub n p i M (k + 1) from rfl] at CP
      have Hnx := hid (sgPs_succ seed pub n p i M k)
      have Hpn := hid (sgP_len seed pub n p i M k)
      have Hpl := hid (sgPs_length seed pub n p i M k)
      rw [hps] at Hnx Hpn
      clear Hat hrz hps
      generalize hdl : sgM seed pub n p i M (k + 1) = dl at *
      generalize hdk : sgM seed pub n p i M k = dk at *
      generalize hl2 : atK p i (k + 1) % p = l2 at *
      generalize ha2 : atK p i (k + 1 + 1) = a2 at *
      generalize ha1' : atK p i (k + 1) = a1 at *
      generalize hps1 : sgPs seed pub n p i M k = ps at *
      go_wp2_with (refine wpList_load_blk rfl 25 _ rfl (bm) rfl _ 25 Kmwr.out _ Tryz.underlying25 rfl 32 size_digest HX.out.size ?_)
      refine (CP.out _ Kwwr.out (Htab.out.below HBwr.out)).mono ?_
      rintro e w31 ⟨sv, av, rfl, b31, r1, r2⟩
      have Hon := hid (show (#[sv, av] : Array Value).all (·.oneCell') = true by simp [r1.one, r2.one])
      have HR1 := hid r1
      have HR2 := hid r2
      have HOw31 := hid (HOwr.out.below b31)
      have HBw31 := hid (Below.on HBwr.out b31)
      have hsw31 := HBw31.out.size
      have Kpw31 := hid (Kpwr.out.below b31)
      have Ksw31 := hid (Kswr.out.below b31)
      have Kow31 := hid (Kowr.out.below b31)
      have Kgw31 := hid (Kgwr.out.below b31)
      have Kmw31 := hid (Kmwr.out.below b31)
      have Kww31 := hid (Kwwr.out.below b31)
      have hsz31 := b31.size
      have hB31 : B0 ≤ w31.heap.size := Nat.le_trans hBw b31.size
      clear b31 r1 r2
      have hlp31 := Kpw31.out.lt
      have hls31 := Ksw31.out.lt
      have hlo31 := Kow31.out.lt
      have hlg31 := Kgw31.out.lt
      have hlm31 := Kmw31.out.lt
      have hlw31 := Kww31.out.lt
      go_wp2_with (first
         | (
            refine wpList_store_blk rfl 63 _ _ rfl (w31.heap.size) #[sv, av] rfl rfl _ 63 ((Blk.new (w := w31) (n := w31.heap.size) rfl #[.slice none 0 0, .slice none 0 0] 63).old (.cells (byteCells 32 []) 25 (0, 0))) 2 size_part rfl rfl Hon.out ?_
            intro w32 hb32 hk32
            have h32 := hb32.below (((Below.refl w31.heap.size w31).alloc (Nat.le_refl _) (.cells #[.slice none 0 0, .slice none 0 0] 63 (0, 0))).alloc (by simp only [World.size_alloc]; omega) (.cells (byteCells 32 []) 25 (0, 0))) (by simp only [World.size_alloc]; omega) (Nat.le_refl _)
            have Ky32 := hid (hb32.blk (Blk.new (w := w31.alloc (.cells #[.slice none 0 0, .slice none 0 0] 63 (0, 0))) (n := w31.heap.size + 1) (by simp only [World.size_alloc]) (byteCells 32 []) 25) (by omega))
            have Kx32 := hid hk32
            have H32 := hid h32
            clear hb32 hk32 h32)
         | (
            refine wpList_store_blk rfl 25 _ _ rfl (w31.heap.size + 1) (dl.map (Value.int .u8)).toArray rfl rfl _ 25 Ky32.out 32 size_digest zsize HX2.out.size (ints_one _ _) ?_
            intro w33 hb33 hk33
            have h33 := hb33.below H32.out H32.out.size (by omega)
            have HBw33 := hid (Below.on HBw31.out h33)
            have hsw33 := HBw33.out.size
            have HOw33 := hid (HOw31.out.below h33)
            have HR133 := hid (HR1.out.below h33)
            have HR233 := hid (HR2.out.below h33)
            have Kyw33 := hid hk33
            have Kxw33 := hid (hb33.blk Kx32.out (by omega))
            have Kpw33 := hid (Kpw31.out.below h33)
            have Ksw33 := hid (Ksw31.out.below h33)
            have Kow33 := hid (Kow31.out.below h33)
            have Kgw33 := hid (Kgw31.out.below h33)
            have Kmw33 := hid (Kmw31.out.below h33)
            have Kww33 := hid (Kww31.out.below h33)
            have hv33 := sigC_parts HRR.out Kgw33.out
            have hB33 : B0 ≤ w33.heap.size := Nat.le_trans hB31 h33.size
            clear hb33 hk33 h33)
         | (refine wpList_load_blk rfl 63 _ rfl (w31.heap.size) rfl _ 63 Kxw33.out _ Tryz.underlying63 rfl 2 size_part rfl ?_)
         | (refine wpList_build_part rfl _ rfl rfl ?_)
         | (
            refine wpList_append_part rfl _ _ rfl Tryz.underlying34 hi hz0 hzs hz1 hz2 rfl (HOw33.out.below ((Below.refl w33.heap.size w33).alloc (Nat.le_refl _) (.cells #[sv, av] 63 (0, 0)))) rfl (Blk.new rfl #[sv, av] 63) (p := (rowW (sigP dk seed pub (otsZ (k : Int) a1 (lf : Int))), WayW seed pub (k : Int) a1 n lf)) (by rw [Hpn.out.1]; exact (HR133.out.re hBw).below ((Below.refl w33.heap.size w33).alloc (Nat.le_refl _) (.cells #[sv, av] 63 (0, 0)))) (by rw [Hpn.out.2]; exact (HR233.out.re hBw).below ((Below.refl w33.heap.size w33).alloc (Nat.le_refl _) (.cells #[sv, av] 63 (0, 0)))) (by rw [Hpl.out]; omega) (by rw [World.size_alloc]; omega) ?_
            intro v34 w34 hown34 hg34 hbel34
            obtain ⟨sa, sn, sc, rfl⟩ := hown34.slice
            have HOw34 := hid hown34
            have hsz34 := hbel34.size
            rw [World.size_alloc] at hsz34
            have hB34 : B0 ≤ w34.heap.size := by omega
            have HBw34 := hid (Below.trans (HBw33.out.alloc HBw33.out.size (.cells #[sv, av] 63 (0, 0))) (hbel34.mono hB1))
            have Kyw34 := hid (show Blk w34 (w31.heap.size + 1) (dl.map (Value.int .u8)).toArray 25 from by
              show w34.heap[w31.heap.size + 1]? = _
              rw [hg34.block _ (by rw [World.size_alloc]; have := Kyw33.out.lt; omega) (fun e => by have := (HOwr.out.lt _ e.symm).2; omega)]
              exact Kyw33.out.old (.cells #[sv, av] 63 (0, 0)))
            have Kpw34 := hid ((Kpw33.out.old (.cells #[sv, av] 63 (0, 0))).low (B := B0) (by omega) hbel34)
            have Ksw34 := hid ((Ksw33.out.old (.cells #[sv, av] 63 (0, 0))).low (B := B0) (by omega) hbel34)
            have Kow34 := hid ((Kow33.out.old (.cells #[sv, av] 63 (0, 0))).low (B := B0) (by omega) hbel34)
            have Kgw34 := hid ((Kgw33.out.old (.cells #[sv, av] 63 (0, 0))).low (B := B0) (by omega) hbel34)
            have Kmw34 := hid ((Kmw33.out.old (.cells #[sv, av] 63 (0, 0))).low (B := B0) (by omega) hbel34)
            have Kww34 := hid ((Kww33.out.old (.cells #[sv, av] 63 (0, 0))).low (B := B0) (by omega) hbel34)
            clear hown34 hg34 hbel34)
         | (
            refine wpList_store_cell rfl 34 _ _ rfl bw3 33 (.slice sa sn sc) rfl rfl rfl rfl (sigC i RR pv).toArray 36 Kgw34.out (by rw [sigC_size HRR.out]; omega) (by kernel_rfl) ?_
            intro w35 hb35 hk35
            have HBw35 := hid (hb35.below HBw34.out HBw34.out.size (by omega))
            have HOw35 := hid (HOw34.out.but (by omega) hb35)
            have hB35 : B0 ≤ w35.heap.size := Nat.le_trans hB34 hb35.size
            rw [sigC_set HRR.out] at hk35
            have Kgw35 := hid hk35
            have Kpw35 := hid (hb35.blk Kpw34.out (by omega))
            have Ksw35 := hid (hb35.blk Ksw34.out (by omega))
            have Kow35 := hid (hb35.blk Kow34.out (by omega))
            have Kmw35 := hid (hb35.blk Kmw34.out (by omega))
            have Kww35 := hid (hb35.blk Kww34.out (by omega))
            have Kyw35 := hid (hb35.blk Kyw34.out (by omega))
            clear hb35 hk35)
         | (refine wpList_load_blk rfl 25 _ rfl (w31.heap.size + 1) rfl _ 25 Kyw35.out _ Tryz.underlying25 rfl 32 size_digest HX2.out.size ?_)
         | (
            refine wpList_store_blk rfl 25 _ _ rfl bm (dl.map (Value.int .u8)).toArray rfl rfl _ 25 Kmw35.out 32 size_digest HX.out.size HX2.out.size (ints_one _ _) ?_
            intro w36 hb36 hk36
            have HBw36 := hid (hb36.below HBw35.out HBw35.out.size (by omega))
            have HOw36 := hid (HOw35.out.but (by omega) hb36)
            have hB36 : B0 ≤ w36.heap.size := Nat.le_trans hB35 hb36.size
            have Kmw36 := hid hk36
            have Kpw36 := hid (hb36.blk Kpw35.out (by omega))
            have Ksw36 := hid (hb36.blk Ksw35.out (by omega))
            have Kow36 := hid (hb36.blk Kow35.out (by omega))
            have Kgw36 := hid (hb36.blk Kgw35.out (by omega))
            have Kww36 := hid (hb36.blk Kww35.out (by omega))
            clear hb36 hk36)
         | (refine wpList_load_mid rfl 57 _ rfl (bw7) 96 rfl _ _ (wayC_place hseed hprf hpub Kww36.out) Tryz.underlying57 rfl (by exact size_place) ?_))
      refine (CA.out _).mono ?_
      rintro e w37 ⟨rfl, b37⟩
      have HBw37 := hid (Below.on HBw36.out b37)
      have HOw37 := hid (HOw36.out.below b37)
      have hB37 : B0 ≤ w37.heap.size := Nat.le_trans hB36 b37.size
      have Kpw37 := hid (Kpw36.out.below b37)
      have Ksw37 := hid (Ksw36.out.below b37)
      have Kow37 := hid (Kow36.out.below b37)
      have Kgw37 := hid (Kgw36.out.below b37)
      have Kmw37 := hid (Kmw36.out.below b37)
      have Kww37 := hid (Kww36.out.below b37)
      clear b37
      go_wp2_with (
            refine wpList_store_place rfl _ _ rfl bw7 rfl ((k : Int) + 1) a2 l2 n rfl Kww37.out hseed hprf hpub ?_
            intro w38 hb38 hk38
            have HBw38 := hid (hb38.below HBw37.out HBw37.out.size (by omega))
            have HOw38 := hid (HOw37.out.but (by omega) hb38)
            have hB38 : B0 ≤ w38.heap.size := Nat.le_trans hB37 hb38.size
            have Kww38 := hid hk38
            have Kpw38 := hid (hb38.blk Kpw37.out (by omega))
            have Ksw38 := hid (hb38.blk Ksw37.out (by omega))
            have Kow38 := hid (hb38.blk Kow37.out (by omega))
            have Kgw38 := hid (hb38.blk Kgw37.out (by omega))
            have Kmw38 := hid (hb38.blk Kmw37.out (by omega))
            clear hb38 hk38)
      exact ⟨⟨k + 1, _, by omega, by first | rfl | simp, Kpw38.out, Ksw38.out, Kow38.out, Kgw38.out, by rw [Hnx.out]; exact HOw38.out, by rw [hdl]; exact Kmw38.out, by rw [ha2, ha1', hl2]; exact Kww38.out, HBw38.out, hB38⟩, by simp [intOf]; omega⟩
    · obtain rfl : k = L := by omega
      have hc0 : ¬ ((k : Int) < k) := by omega
      have hsz : ∀ j, j < (sgPs seed pub n p i M k).length → ((sgPs seed pub n p i M k).getD j ([], [])).1.length ≤ 9223372036854775807 ∧ ((sgPs seed pub n p i M k).getD j ([], [])).2.length ≤ 9223372036854775807 := fun j hj => by
        rw [sgPs_length] at hj
        have := sgP_len seed pub n p i M j
        rw [sgPs_at _ _ _ _ _ _ hj]
        omega
      obtain ⟨a, cap, rfl, _⟩ := HOwr.out.parts hsz
      have hpl := sgPs_length seed pub n p i M k
      go_wp2_with (first
         | (refine wpList_load_blk rfl 36 _ rfl (bw3) rfl _ 36 Kgwr.out _ Tryz.underlying36 rfl 34 size_sig (sigC_size HRR.out) ?_)
         | (
            refine wpList_store_blk rfl 36 _ _ rfl (w.heap.size + 1 + 1) (sigC i RR (.slice a (sgPs seed pub n p i M k).length cap)).toArray rfl rfl _ 36 Kowr.out 34 size_sig zSig_size (sigC_size HRR.out) (sigC_ones _ _ _ rfl) ?_
            intro w61 hb61 hk61
            have HBw61 := hid (hb61.below HBwr.out HBwr.out.size (by omega))
            have HOw61 := hid (HOwr.out.but (by omega) hb61)
            have Kow61 := hid hk61
            clear hb61 hk61))
      obtain ⟨a', cap', hav, hPA⟩ := HOw61.out.parts hsz
      injection hav with hav1 _ hav2
      subst hav1 hav2
      rw [hpl] at hPA
      refine bodyPost_ret (v := .tuple #[.agg (sigC i RR (.slice a (sgPs seed pub n p i M k).length cap)).toArray, .int .i64 0]) (results_blk_tmp Tryz.results7 _ (w.heap.size + 1 + 1) rfl _ rfl _ 36 Kow61.out _ Tryz.underlying36 rfl 34 size_sig (sigC_size HRR.out)) rfl ⟨_, _, by rw [hpl], HBw61.out, hPA, by have h9 := HOw61.out.re hB1; rw [hpl] at h9; exact h9⟩
end Go.Proofs.YtjkfbeillmeomaaGreatDoor
