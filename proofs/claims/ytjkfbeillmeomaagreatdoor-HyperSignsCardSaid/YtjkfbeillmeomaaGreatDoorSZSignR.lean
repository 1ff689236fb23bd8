/-
  Layer 11: signing, by the reference.
-/
import Derived.Test.YtjkfbeillmeomaaGreatDoorSZSignQ
namespace Go.Proofs.YtjkfbeillmeomaaGreatDoor
set_option maxRecDepth 100000
open Go.ChangeShapes Go.WideShapes Go.ChangeAt Go.RowKit
set_option maxHeartbeats 4000000 in
theorem refsign_good (L n : Nat) (i : Int) (root pk seed prf pub : List Int) (ta : Option Addr) (tn tc : Nat) (m : List Int) (w : World) (hrt : rightS L n = true) (h0 : 0 ≤ i) (h1 : i < manyS L n) (hroot : Dg root) (hpk : Dg pk) (hseed : Dg seed) (hprf : Dg prf) (hpub : Dg pub) (hT : TextAt w ta tn tc m) (htn : tn ≤ 140737488320000) :
    Calls Tryz.prog 11 #[.agg (pubC L n root pk).toArray, .agg ((secL seed prf pub).map (Value.int .u8)).toArray, .int .i64 i, .slice ta tn tc] w fun e w' => ∃ a cap, e = .returned (.agg (sigC i (prfZ prf (be 32 i)) (.slice a L cap)).toArray) ∧ Below w.heap.size w w' ∧ PartsAt w' a L cap (sgPs seed pub n ((2 ^ n : Nat) : Int) i (msgZ (prfZ prf (be 32 i)) root i m) L) := by
  have hrt2 := hrt
  simp only [rightS, decide_eq_true_eq] at hrt2
  have hn : 1 ≤ n ∧ n ≤ 4 := by omega
  have hmy := manyS_le hrt
  have hi16 : i < 65536 := by omega
  have Hss := hid (show ((secL seed prf pub).map (Value.int .u8)).toArray.size = 96 by rw [List.size_toArray, List.length_map, secL_length hseed hprf hpub])
  have CPrf := hid (fun (a : Option Addr) (len cap : Nat) (W : World) (h : TextAt W a len cap (be 32 i)) (hl : len ≤ 140737488320000) => refPrf_any prf (be 32 i) a len cap W hprf h hl)
  have HRR := hid (Dg.prf prf (be 32 i))
  have CM := hid (fun (W : World) (h : TextAt W ta tn tc m) => refmsg11_any L n i root pk (prfZ prf (be 32 i)) m ta tn tc W (Dg.prf _ _) hroot hpk h0 hi16 h htn)
  have HM := hid (Dg.msg (prfZ prf (be 32 i)) root i m)
  have Hbs2 := hid (fun W : World => build_sig2 i (prfZ prf (be 32 i)) (Dg.prf _ _) W)
  have CP := hid (fun W : World => power_any n (by omega) W)
  generalize msgZ (prfZ prf (be 32 i)) root i m = M at *
  generalize prfZ prf (be 32 i) = RR at *
  have Hlf := hid (fun x : Int => leaf_right (x := x) hn)
  have hp0 : (0 : Int) < ((2 ^ n : Nat) : Int) := by have := Nat.pow_pos (n := n) (show 0 < 2 by omega); omega
  have hp16 : ((2 ^ n : Nat) : Int) ≤ 16 := by
    rcases (show n = 1 ∨ n = 2 ∨ n = 3 ∨ n = 4 by omega) with h | h | h | h <;> rw [h] <;> decide
  generalize ((2 ^ n : Nat) : Int) = p at *
  clear hmy
  have b1 := (Below.refl w.heap.size w).alloc (Nat.le_refl _) (.cells (pubC L n root pk).toArray 27 (0, 0))
  have b2 := b1.alloc b1.size (.cells ((secL seed prf pub).map (Value.int .u8)).toArray 29 (0, 0))
  have b3 := b2.alloc b2.size (.cells zSig.toArray 36 (0, 0))
  have Kp := hid (((Blk.new (w := w) (n := w.heap.size) rfl (pubC L n root pk).toArray 27).old (.cells ((secL seed prf pub).map (Value.int .u8)).toArray 29 (0, 0))).old (.cells zSig.toArray 36 (0, 0)))
  have Ks := hid ((Blk.new (w := (w.alloc (.cells (pubC L n root pk).toArray 27 (0, 0)))) (n := w.heap.size + 1) (by simp only [World.size_alloc]) ((secL seed prf pub).map (Value.int .u8)).toArray 29).old (.cells zSig.toArray 36 (0, 0)))
  have Ko := hid (Blk.new (w := ((w.alloc (.cells (pubC L n root pk).toArray 27 (0, 0))).alloc (.cells ((secL seed prf pub).map (Value.int .u8)).toArray 29 (0, 0)))) (n := w.heap.size + 1 + 1) (by simp only [World.size_alloc]) zSig.toArray 36)
  have Hb := hid b3
  have hbz := b3.size
  have Hbs := hid (show w.heap.size + 1 + 1 + 1 = (((w.alloc (.cells (pubC L n root pk).toArray 27 (0, 0))).alloc (.cells ((secL seed prf pub).map (Value.int .u8)).toArray 29 (0, 0))).alloc (.cells zSig.toArray 36 (0, 0))).heap.size by simp only [World.size_alloc])
  clear b1 b2 b3 
  go_enter Tryz.func11, Tryz.ntmps11
  go_wp2_with fail
  refine wp_region_flow 9 [0, 1, 2, 3, 4] [8] [(.c 5, [], []), (.c 6, [7], []), (.b 8, [], [])] (by kernel_rfl) (by kernel_rfl) ?_
  apply Exists.intro
  refine ⟨fun w0 hb0 hF0 => ?_, ?_⟩
  · skip
    have z0 : ∀ w', (∃ x : Ext w0, w' = x.at_) → w'.rangeAt (w.heap.size + 1) 32 (prf.map (Value.int .u8)) := fun w' ⟨x, hx⟩ => hx ▸ secL_prf hseed ((Ks.out.below hb0).below x.same)
    simp only [pick, List.getElem?_toArray, List.getElem?_cons_succ, List.getElem?_cons_zero, Option.toList_some, List.cons_append, List.nil_append]
    repeat (first | (go_big_quiet_want; refine quiet_load_mid 25 _ rfl (w.heap.size + 1) 32 rfl _ z0 _ Tryz.underlying25 rfl (by rw [List.length_map, hprf.len]; exact size_digest) ?_; go_big_quiet_on; simp only [Act.put, List.setIfInBounds_toArray, List.set_cons_zero, List.set_cons_succ]) | go_big_quiet_step (fail))
    exact wpQuiet_nil rfl
  refine AlChk.one rfl (fun b => .pointer (some ⟨b, 0, none⟩)) (.cells zSig.toArray 36 (0, 0)) rfl (fun w3 hb3 hF3 => by go_simp; rfl) ?_
  refine AlChk.nil ?_
  refine Walk.call rfl 26 #[.int .u64 i, .int .i64 32] (TextV (be 32 i)) (fun v w' w'' h k => h.below k) rfl (fun w1 hb1 hF1 => ⟨by go_simp, ?_⟩) ?_
  · refine (refnumber_own i 32 32 w1 h0 (by omega) rfl (by omega)).mono ?_
    rintro e w2 ⟨v, rfl, b2, o2⟩
    exact ⟨v, rfl, b2, TextV.of_own o2⟩
  rintro v1 w1 hb1 hF1 ⟨na, nn, nc, rfl, _⟩
  apply Exists.intro
  refine ⟨fun w0 hb0 hF0 => wpQuiet_nil rfl, ?_⟩
  refine AlChk.nil ?_
  refine Walk.call rfl 25 #[.agg (prf.map (Value.int .u8)).toArray, .slice na nn nc] (fun v w' => v = .agg (RR.map (Value.int .u8)).toArray) (fun v w' w'' h k => h) rfl (fun w1 hb1 hF1 => ⟨by go_simp, ?_⟩) ?_
  · have kn := (show TextV (be 32 i) (.slice na nn nc) w1 from hF1.2).text
    have kl := kn.length
    rw [be_length] at kl
    refine (CPrf.out _ _ _ w1 kn (by omega)).mono ?_
    rintro e w2 ⟨rfl, b2⟩
    exact ⟨_, rfl, b2, rfl⟩
  rintro v2 w1 hb1 hF1 rfl
  apply Exists.intro
  refine ⟨fun w0 hb0 hF0 => ?_, ?_⟩
  · skip
    simp only [pick, List.getElem?_toArray, List.getElem?_cons_succ, List.getElem?_cons_zero, Option.toList_some, List.cons_append, List.nil_append, Act.put, List.setIfInBounds_toArray, List.set_cons_zero, List.set_cons_succ]
    repeat (first | (go_big_quiet_want; refine quiet_build _ _ rfl [(0, .int .i64 i), (1, .agg (RR.map (Value.int .u8)).toArray)] rfl _ Hbs2.out ?_; go_big_quiet_on; simp only [Act.put, List.setIfInBounds_toArray, List.set_cons_zero, List.set_cons_succ]) | go_big_quiet_step (fail))
    exact wpQuiet_nil rfl
  refine AlChk.nil ?_
  refine Walk.blk rfl (fun b => .pointer (some ⟨b, 0, none⟩)) (.cells zSig.toArray 36 (0, 0)) (by simp) ?_
  intro bw1 wz hbz_ hFz hgew1 _
  apply Exists.intro
  refine ⟨fun w4 hb4 hF4 => wpQuiet_nil rfl, ?_⟩
  refine AlChk.nil ?_
  refine Walk.fin fun w1 hw1 hFw1 _ => ?_
  simp only [List.drop_succ_cons, List.drop_zero]
  have Kzw1 := hid (show Blk w1 bw1 zSig.toArray 36 from hFw1.2)
  have hgww1 : w.heap.size ≤ bw1 := Nat.le_trans Hb.out.size hgew1
  have hgsw1 : w.heap.size + 1 + 1 + 1 ≤ bw1 := by rw [Hbs.out]; exact hgew1
  clear hbz_ hFz hFw1
  have hnpw1 : w.heap.size ≠ bw1 := by have := Kp.out.lt; omega
  have hnsw1 : w.heap.size + 1 ≠ bw1 := by have := Ks.out.lt; omega
  have hnow1 : w.heap.size + 1 + 1 ≠ bw1 := by have := Ko.out.lt; omega
  have HBw1 := hid (Below.on Hb.out hw1)
  have hsw1 := HBw1.out.size
  have Kpw1 := hid (Kp.out.below hw1)
  have Ksw1 := hid (Ks.out.below hw1)
  have Kow1 := hid (Ko.out.below hw1)
  clear hw1
  go_wp2_with (first
     | (
        refine wpList_store_blk rfl 36 _ _ rfl bw1 (sigC i RR (.slice none 0 0)).toArray rfl rfl _ 36 Kzw1.out 34 size_sig zSig_size (sigC_size HRR.out) (sigC_ones _ _ _ rfl) ?_
        intro w2 hbw2 hkw2
        have HBw2 := hid (hbw2.below HBw1.out HBw1.out.size hgww1)
        have hsw2 := HBw2.out.size
        have Kgw2 := hid hkw2
        have Kpw2 := hid (hbw2.blk Kpw1.out hnpw1)
        have Ksw2 := hid (hbw2.blk Ksw1.out hnsw1)
        have Kow2 := hid (hbw2.blk Kow1.out hnow1)
        clear hbw2 hkw2)
     | (refine wpList_load_blk rfl 27 _ rfl (w.heap.size) rfl _ 27 Kpw2.out _ Tryz.underlying27 rfl 66 size_public (pubC_size hroot hpk) ?_)
     | (refine wpList_load_mid rfl 25 _ rfl (bw1) 1 rfl _ _ (sigC_r Kgw2.out) Tryz.underlying25 rfl (by rw [List.length_map, HRR.out.len]; exact size_digest) ?_))
  refine (CM.out _ (hT.below HBw2.out)).mono ?_
  rintro e w3 ⟨rfl, bw3⟩
  have HBw3 := hid (Below.on HBw2.out bw3)
  have hsw3 := HBw3.out.size
  have Kpw3 := hid (Kpw2.out.below bw3)
  have Ksw3 := hid (Ksw2.out.below bw3)
  have Kow3 := hid (Kow2.out.below bw3)
  have Kgw3 := hid (Kgw2.out.below bw3)
  clear bw3
  go_wp2_with (
        refine wpList_store_blk rfl 25 _ _ rfl (w3.heap.size) (M.map (Value.int .u8)).toArray rfl rfl _ 25 (Blk.new rfl (byteCells 32 []) _) 32 size_digest zsize HM.out.size (ints_one _ _) ?_
        intro w4 hbw4 hkw4
        have hw4 := hbw4.below ((Below.refl w3.heap.size w3).alloc (Nat.le_refl _) _) (by simp only [World.size_alloc]; omega) (Nat.le_refl _)
        have HBw4 := hid (Below.on HBw3.out hw4)
        have hsw4 := HBw4.out.size
        have Kpw4 := hid (Kpw3.out.below hw4)
        have hlpw4 := Kpw3.out.lt
        have Ksw4 := hid (Ksw3.out.below hw4)
        have hlsw4 := Ksw3.out.lt
        have Kow4 := hid (Kow3.out.below hw4)
        have hlow4 := Kow3.out.lt
        have Kgw4 := hid (Kgw3.out.below hw4)
        have hlgw4 := Kgw3.out.lt
        have Kmw4 := hid hkw4
        have hfw4 : w.heap.size ≤ w3.heap.size := HBw3.out.size
        clear hbw4 hkw4 hw4
        have s1 : w4.cell? ⟨w.heap.size, 1, none⟩ = some (.int .i64 n) := by rw [Kpw4.out.cell]; rfl)
  refine (CP.out _).mono ?_
  rintro e w5 ⟨rfl, bw5⟩
  have HBw5 := hid (Below.on HBw4.out bw5)
  have hsw5 := HBw5.out.size
  have Kpw5 := hid (Kpw4.out.below bw5)
  have Ksw5 := hid (Ksw4.out.below bw5)
  have Kow5 := hid (Kow4.out.below bw5)
  have Kgw5 := hid (Kgw4.out.below bw5)
  have Kmw5 := hid (Kmw4.out.below bw5)
  clear bw5
  go_wp2_with fail
  have Hpb := hid Kpw5.out
  have Hsb := hid Ksw5.out
  have Hob := hid Kow5.out
  have Hgb := hid Kgw5.out
  have Hmb := hid Kmw5.out
  have Hbe := hid HBw5.out
  have hbgm : bw1 < w3.heap.size := hlgw4
  have hbg0 : w.heap.size + 1 + 1 < bw1 := by omega
  generalize w3.heap.size = bm at *
  obtain ⟨B0, hB0e⟩ : ∃ B0, B0 = w5.heap.size := ⟨_, rfl⟩
  have Hsz0 := hid (show B0 ≤ w5.heap.size by omega)
  have hB0 : bm < B0 := by rw [hB0e]; exact Hmb.out.lt
  have hB1 : w.heap.size ≤ B0 := by rw [hB0e]; exact Hbe.out.size
  clear hB0e
  go_loopw [12, 13] (fun av iv wr => ∃ (k : Nat) (v : Value), k ≤ L ∧ iv = .int .i64 k ∧ av = .int .i64 (atK p i k) ∧ Blk wr (w.heap.size) (pubC L n root pk).toArray 27 ∧ Blk wr (w.heap.size + 1) ((secL seed prf pub).map (Value.int .u8)).toArray 29 ∧ Blk wr (w.heap.size + 1 + 1) zSig.toArray 36 ∧ Blk wr bw1 (sigC i RR v).toArray 36 ∧ OwnQ wr B0 v (sgPs seed pub n p i M k) ∧ Blk wr bm ((sgM seed pub n p i M k).map (Value.int .u8)).toArray 25 ∧ Below w.heap.size w wr ∧ B0 ≤ wr.heap.size) (fun _ iv _ => L - (intOf iv).toNat)
  case atStart => exact ⟨0, _, Nat.zero_le _, rfl, rfl, Hpb.out, Hsb.out, Hob.out, Hgb.out, OwnQ.nil _ _, Hmb.out, Hbe.out, Hsz0.out⟩
  case round =>
    obtain ⟨k, pv, hk, rfl, rfl, kp, ks, ko, kg, kown, km, bel, hBw⟩ := hrel
    have Kpwr := hid kp
    have Kswr := hid ks
    have Kowr := hid ko
    have Kgwr := hid kg
    have Kmwr := hid km
    have HOwr := hid kown
    have HBwr := hid bel
    have hswr := bel.size
    have s0 : wr.cell? ⟨w.heap.size, 0, none⟩ = some (.int .i64 L) := by rw [kp.cell]; rfl
    have s1 : wr.cell? ⟨w.heap.size, 1, none⟩ = some (.int .i64 n) := by rw [kp.cell]; rfl
    clear kp ks ko kg kown km bel
    by_cases hlt : k < L
    · have hc0 : (k : Int) < L := by omega
      obtain ⟨lf, hlf⟩ : ∃ lf : Nat, atK p i k % p = (lf : Int) := ⟨(atK p i k % p).toNat, by have := Int.emod_nonneg (atK p i k) (show p ≠ 0 by omega); omega⟩
      have hrz := Hlf.out (atK p i k)
      have ha0 : 0 ≤ atK p i k ∧ atK p i k < 65536 := ⟨atK_nonneg hp0 h0 _, by have := atK_le hp0 h0 k; omega⟩
      have ha1 : 0 ≤ atK p i (k + 1) ∧ atK p i (k + 1) < 65536 := ⟨atK_nonneg hp0 h0 _, by have := atK_le hp0 h0 (k + 1); omega⟩
      have hl0 : 0 ≤ atK p i k % p ∧ atK p i k % p < 16 := ⟨Int.emod_nonneg _ (by omega), Int.lt_of_lt_of_le (Int.emod_lt_of_pos _ hp0) hp16⟩
      have Hat := hid (show atK p i (k + 1) = atK p i k / p from rfl)
      obtain ⟨iP, zP, hi, hz0, hzs, hz1, hz2⟩ := info_part
      have HX := hid (Dg.sg (seed := seed) (pub := pub) (n := n) (p := p) (i := i) HM.out k)
      have HX2 := hid (Dg.sg (seed := seed) (pub := pub) (n := n) (p := p) (i := i) HM.out (k + 1))
      have hps : sgP seed pub n p i M k = (rowW (sigP (sgM seed pub n p i M k) seed pub (otsZ (k : Int) (atK p i (k + 1)) (lf : Int))), WayW seed pub (k : Int) (atK p i (k + 1)) n lf) := by unfold sgP; rw [hlf]; rfl
      rw [hlf] at hrz hl0
      have CB := hid (fun W : World => refbuild_own seed prf pub (k : Int) (atK p i (k + 1)) n lf W hseed hprf hpub (by omega) (by omega) hrz)
      have HAo := hid (Aw.ots (la := (k : Int)) (tr := atK p i (k + 1)) (i := (lf : Int)) (by omega) (by omega) (by omega))
      have CSg := hid (fun W : World => refsign_own (sgM seed pub n p i M k) seed pub (otsZ (k : Int) (atK p i (k + 1)) (lf : Int)) W HX.out hseed hpub HAo.out)
      rw [show nodeZ pub (treeZ (k : Int) (atK p i (k + 1))) (fun j => leafZ seed pub (k : Int) (atK p i (k + 1)) j) n 0 = sgM seed pub n p i M (k + 1) from rfl, show wayZ pub (treeZ (k : Int) (atK p i (k + 1))) (fun j => leafZ seed pub (k : Int) (atK p i (k + 1)) j) lf n = WayW seed pub (k : Int) (atK p i (k + 1)) n lf from rfl] at CB
      have Hnx := hid (sgPs_succ seed pub n p i M k)
      have Hpl := hid (sgPs_length seed pub n p i M k)
      rw [hps] at Hnx
      clear hrz hps
      generalize hdl : sgM seed pub n p i M (k + 1) = dl at *
      generalize hdk : sgM seed pub n p i M k = dk at *
      generalize hps1 : sgPs seed pub n p i M k = ps at *
      generalize ha0' : atK p i k = a0 at *
      generalize ha1' : atK p i (k + 1) = a1 at *
      generalize hW1 : rowW (sigP dk seed pub (otsZ (k : Int) a1 (lf : Int))) = W1 at *
      generalize hW2 : WayW seed pub (k : Int) a1 n lf = W2 at *
      have hz0' : ¬ p = 0 := by omega
      have hl1' : Int.tmod a0 p = (lf : Int) := by rw [Int.tmod_eq_emod_of_nonneg ha0.1]; exact hlf
      have hl2' : a0 % p = (lf : Int) := hlf
      have hq1' : Int.tdiv a0 p = a1 := by rw [Int.tdiv_eq_ediv_of_nonneg ha0.1, ← Hat.out]
      have hq2' : a0 / p = a1 := Hat.out.symm
      have hw1 : wrap64 a1 = a1 := by unfold wrap64; omega
      clear hlf
      go_wp2_with (refine wpList_load_blk rfl 29 _ rfl (w.heap.size + 1) rfl _ 29 Kswr.out _ Tryz.underlying29 rfl 96 size_secret Hss.out ?_)
      refine (CB.out _).mono ?_
      rintro e w31 ⟨wv, rfl, b31, r2⟩
      have HR2w31 := hid (r2.re hBw)
      have HOw31 := hid (HOwr.out.below b31)
      have HBw31 := hid (Below.on HBwr.out b31)
      have hsw31 := HBw31.out.size
      have Kpw31 := hid (Kpwr.out.below b31)
      have Ksw31 := hid (Kswr.out.below b31)
      have Kow31 := hid (Kowr.out.below b31)
      have Kgw31 := hid (Kgwr.out.below b31)
      have Kmw31 := hid (Kmwr.out.below b31)
      have hsz31 := b31.size
      have hB31 : B0 ≤ w31.heap.size := Nat.le_trans hBw b31.size
      clear b31 r2
      go_wp2_with (
            refine wpList_store_blk rfl 25 _ _ rfl (w31.heap.size) (dl.map (Value.int .u8)).toArray rfl rfl _ 25 (Blk.new rfl (byteCells 32 []) _) 32 size_digest zsize HX2.out.size (ints_one _ _) ?_
            intro w32 hbw32 hkw32
            have hw32 := hbw32.below ((Below.refl w31.heap.size w31).alloc (Nat.le_refl _) _) (by simp only [World.size_alloc]; omega) (Nat.le_refl _)
            have HBw32 := hid (Below.on HBw31.out hw32)
            have hsw32 := HBw32.out.size
            have Kpw32 := hid (Kpw31.out.below hw32)
            have hlpw32 := Kpw31.out.lt
            have Ksw32 := hid (Ksw31.out.below hw32)
            have hlsw32 := Ksw31.out.lt
            have Kow32 := hid (Kow31.out.below hw32)
            have hlow32 := Kow31.out.lt
            have Kgw32 := hid (Kgw31.out.below hw32)
            have hlgw32 := Kgw31.out.lt
            have Kmw32 := hid (Kmw31.out.below hw32)
            have hlmw32 := Kmw31.out.lt
            have Krw32 := hid hkw32
            have hfw32 : w.heap.size ≤ w31.heap.size := HBw31.out.size
            have HR2w32 := hid (HR2w31.out.below hw32)
            have HOw32 := hid (HOw31.out.below hw32)
            have hBw32 : B0 ≤ w32.heap.size := Nat.le_trans hB31 hw32.size
            have hrBw32 : B0 ≤ w31.heap.size := hB31
            clear hbw32 hkw32 hw32)
      refine wp_region_flow 13 [0, 1, 2, 3, 4, 5, 6, 7, 8, 9, 10, 11] [] [(.c 12, [], [])] (by kernel_rfl) (by kernel_rfl) ?_
      apply Exists.intro
      refine ⟨fun w0 hb0 hF0 => ?_, ?_⟩
      · skip
        have x0 : ∀ w', (∃ x : Ext w0, w' = x.at_) → ∃ T, Blk w' (bm) (dk.map (Value.int .u8)).toArray T := fun w' ⟨x, hx⟩ => ⟨_, hx ▸ (Kmw32.out.below hb0).below x.same⟩
        have z0 : ∀ w', (∃ x : Ext w0, w' = x.at_) → w'.rangeAt (w.heap.size + 1) 0 (seed.map (Value.int .u8)) := fun w' ⟨x, hx⟩ => hx ▸ secL_seed ((Ksw32.out.below hb0).below x.same)
        have z1 : ∀ w', (∃ x : Ext w0, w' = x.at_) → w'.rangeAt (w.heap.size + 1) 64 (pub.map (Value.int .u8)) := fun w' ⟨x, hx⟩ => hx ▸ secL_pub hseed hprf ((Ksw32.out.below hb0).below x.same)
        have c0 := fun e : Ext w0 => refbase_ots k a1 lf e.at_ (by omega) (by omega)
        simp only [pick, List.getElem?_toArray, List.getElem?_cons_succ, List.getElem?_cons_zero, Option.toList_some, List.cons_append, List.nil_append]
        repeat (first | (go_big_quiet_want; refine quiet_load_blk 25 _ rfl (bm) rfl _ x0 _ Tryz.underlying25 rfl 32 size_digest HX.out.size ?_; go_big_quiet_on; simp only [Act.put, List.setIfInBounds_toArray, List.set_cons_zero, List.set_cons_succ]) | (go_big_quiet_want; refine quiet_load_mid 25 _ rfl (w.heap.size + 1) 0 rfl _ z0 _ Tryz.underlying25 rfl (by rw [List.length_map, hseed.len]; exact size_digest) ?_; go_big_quiet_on; simp only [Act.put, List.setIfInBounds_toArray, List.set_cons_zero, List.set_cons_succ]) | (go_big_quiet_want; refine quiet_load_mid 25 _ rfl (w.heap.size + 1) 64 rfl _ z1 _ Tryz.underlying25 rfl (by rw [List.length_map, hpub.len]; exact size_digest) ?_; go_big_quiet_on; simp only [Act.put, List.setIfInBounds_toArray, List.set_cons_zero, List.set_cons_succ]) | go_big_quiet_step (first | (go_at_call 30; with_reducible exact Calls.ext (c0 _))))
        exact wpQuiet_nil rfl
      refine AlChk.nil ?_
      refine Walk.call rfl 29 #[.agg (dk.map (Value.int .u8)).toArray, .agg (seed.map (Value.int .u8)).toArray, .agg (pub.map (Value.int .u8)).toArray, .agg ((otsZ k a1 lf).map (Value.int .u32)).toArray] ((fun v w' => OwnD w' B0 25 v W1)) (fun v w' w'' h k => OwnD.below h k) rfl (fun w1 hb1 hF1 => ⟨by go_simp, ?_⟩) ?_
      · skip
        refine (CSg.out w1).mono ?_
        rintro e w2 ⟨v, rfl, b2, o2⟩
        exact ⟨v, rfl, b2, o2.re (Nat.le_trans hBw32 hb1.size)⟩
      rintro v0 w1 hb1 hF1 hov
      apply Exists.intro
      refine ⟨fun w0 hb0 hF0 => ?_, ?_⟩
      · skip
        exact wpQuiet_nil rfl
      refine AlChk.nil ?_
      refine Walk.fin fun w33 hw33 hFw33 _ => ?_
      simp only [List.drop_succ_cons, List.drop_zero]
      have HFw33 := hid hFw33
      have HBw33 := hid (Below.on HBw32.out hw33)
      have hsw33 := HBw33.out.size
      have Kpw33 := hid (Kpw32.out.below hw33)
      have Ksw33 := hid (Ksw32.out.below hw33)
      have Kow33 := hid (Kow32.out.below hw33)
      have Kgw33 := hid (Kgw32.out.below hw33)
      have Kmw33 := hid (Kmw32.out.below hw33)
      have Krw33 := hid (Krw32.out.below hw33)
      have HR2w33 := hid (HR2w32.out.below hw33)
      have HOw33 := hid (HOw32.out.below hw33)
      have hBw33 : B0 ≤ w33.heap.size := Nat.le_trans hBw32 hw33.size
      have HR1w33 := hid (show OwnD w33 B0 25 v0 W1 from HFw33.out.2)
      clear hw33 hFw33
      clear HFw33
      have hv33 := sigC_parts HRR.out Kgw33.out
      obtain ⟨wa, wc, rfl, hwd, _⟩ := (id HR2w33.out.digs)
      obtain ⟨sa, sc, rfl, hsd, _⟩ := (id HR1w33.out.digs)
      clear hwd hsd
      have hlpw33 := Kpw33.out.lt
      have hlsw33 := Ksw33.out.lt
      have hlow33 := Kow33.out.lt
      have hlgw33 := Kgw33.out.lt
      have hlmw33 := Kmw33.out.lt
      have hlrw33 := Krw33.out.lt
      have hbp := (fun W => build_part2 sa wa W1.length sc W2.length wc W)
      go_wp2_with (first
         | (refine wpList_build_part rfl _ rfl rfl ?_)
         | (
            refine wpList_append_partq rfl _ _ rfl Tryz.underlying34 hi hz0 hzs hz1 hz2 rfl (HOw33.out.below ((Below.refl w33.heap.size w33).alloc (Nat.le_refl _) (.cells #[.slice sa W1.length sc, .slice wa W2.length wc] 63 (0, 0)))) rfl (Blk.new rfl #[.slice sa W1.length sc, .slice wa W2.length wc] 63) (p := (W1, W2)) (HR1w33.out.below ((Below.refl w33.heap.size w33).alloc (Nat.le_refl _) (.cells #[.slice sa W1.length sc, .slice wa W2.length wc] 63 (0, 0)))) (HR2w33.out.below ((Below.refl w33.heap.size w33).alloc (Nat.le_refl _) (.cells #[.slice sa W1.length sc, .slice wa W2.length wc] 63 (0, 0)))) (by rw [Hpl.out]; omega) (by rw [World.size_alloc]; omega) ?_
            intro vw34 w34 hownw34 hgw34 hbelw34
            obtain ⟨qa, qn, qc, rfl⟩ := hownw34.slice
            have HOw34 := hid hownw34
            have hszw34 := hbelw34.size
            rw [World.size_alloc] at hszw34
            have hBw34 : B0 ≤ w34.heap.size := by omega
            have HBw34 := hid (Below.trans (HBw33.out.alloc HBw33.out.size (.cells #[.slice sa W1.length sc, .slice wa W2.length wc] 63 (0, 0))) (hbelw34.mono hB1))
            have Krw34 := hid (show Blk w34 (w31.heap.size) (dl.map (Value.int .u8)).toArray 25 from by
              show w34.heap[w31.heap.size]? = _
              rw [hgw34.block _ (by rw [World.size_alloc]; have := Krw33.out.lt; omega) (fun e => by have := (HOwr.out.lt _ e.symm).2; omega)]
              exact Krw33.out.old (.cells #[.slice sa W1.length sc, .slice wa W2.length wc] 63 (0, 0)))
            have Kpw34 := hid ((Kpw33.out.old (.cells #[.slice sa W1.length sc, .slice wa W2.length wc] 63 (0, 0))).low (B := B0) (by omega) hbelw34)
            have Ksw34 := hid ((Ksw33.out.old (.cells #[.slice sa W1.length sc, .slice wa W2.length wc] 63 (0, 0))).low (B := B0) (by omega) hbelw34)
            have Kow34 := hid ((Kow33.out.old (.cells #[.slice sa W1.length sc, .slice wa W2.length wc] 63 (0, 0))).low (B := B0) (by omega) hbelw34)
            have Kgw34 := hid ((Kgw33.out.old (.cells #[.slice sa W1.length sc, .slice wa W2.length wc] 63 (0, 0))).low (B := B0) (by omega) hbelw34)
            have Kmw34 := hid ((Kmw33.out.old (.cells #[.slice sa W1.length sc, .slice wa W2.length wc] 63 (0, 0))).low (B := B0) (by omega) hbelw34)
            clear hownw34 hgw34 hbelw34)
         | (
            refine wpList_store_cell rfl 34 _ _ rfl bw1 33 (.slice qa qn qc) rfl rfl rfl rfl (sigC i RR pv).toArray 36 Kgw34.out (by rw [sigC_size HRR.out]; omega) (by kernel_rfl) ?_
            intro w35 hbw35 hkw35
            have HBw35 := hid (hbw35.below HBw34.out HBw34.out.size (by omega))
            have HOw35 := hid (HOw34.out.but (by omega) hbw35)
            have hBw35 : B0 ≤ w35.heap.size := Nat.le_trans hBw34 hbw35.size
            rw [sigC_set HRR.out] at hkw35
            have Kgw35 := hid hkw35
            have Kpw35 := hid (hbw35.blk Kpw34.out (by omega))
            have Ksw35 := hid (hbw35.blk Ksw34.out (by omega))
            have Kow35 := hid (hbw35.blk Kow34.out (by omega))
            have Kmw35 := hid (hbw35.blk Kmw34.out (by omega))
            have Krw35 := hid (hbw35.blk Krw34.out (by omega))
            clear hbw35 hkw35)
         | (refine wpList_load_blk rfl 25 _ rfl (w31.heap.size) rfl _ 25 Krw35.out _ Tryz.underlying25 rfl 32 size_digest HX2.out.size ?_)
         | (
            refine wpList_store_blk rfl 25 _ _ rfl bm (dl.map (Value.int .u8)).toArray rfl rfl _ 25 Kmw35.out 32 size_digest HX.out.size HX2.out.size (ints_one _ _) ?_
            intro w36 hbw36 hkw36
            have HBw36 := hid (hbw36.below HBw35.out HBw35.out.size (by omega))
            have HOw36 := hid (HOw35.out.but (by omega) hbw36)
            have hBw36 : B0 ≤ w36.heap.size := Nat.le_trans hBw35 hbw36.size
            have Kmw36 := hid hkw36
            have Kpw36 := hid (hbw36.blk Kpw35.out (by omega))
            have Ksw36 := hid (hbw36.blk Ksw35.out (by omega))
            have Kow36 := hid (hbw36.blk Kow35.out (by omega))
            have Kgw36 := hid (hbw36.blk Kgw35.out (by omega))
            clear hbw36 hkw36))
      exact ⟨⟨k + 1, _, by omega, by first | rfl | simp, by rw [ha1'], Kpw36.out, Ksw36.out, Kow36.out, Kgw36.out, by rw [Hnx.out]; exact HOw36.out, by rw [hdl]; exact Kmw36.out, HBw36.out, hBw36⟩, by simp [intOf]; omega⟩
    · obtain rfl : k = L := by omega
      have hc0 : ¬ ((k : Int) < k) := by omega
      have hpl := sgPs_length seed pub n p i M k
      obtain ⟨a, cap, rfl, _⟩ := HOwr.out.parts
      go_wp2_with (first
         | (refine wpList_load_blk rfl 36 _ rfl (bw1) rfl _ 36 Kgwr.out _ Tryz.underlying36 rfl 34 size_sig (sigC_size HRR.out) ?_)
         | (
            refine wpList_store_blk rfl 36 _ _ rfl (w.heap.size + 1 + 1) (sigC i RR (.slice a (sgPs seed pub n p i M k).length cap)).toArray rfl rfl _ 36 Kowr.out 34 size_sig zSig_size (sigC_size HRR.out) (sigC_ones _ _ _ rfl) ?_
            intro w61 hb61 hk61
            have HBw61 := hid (hb61.below HBwr.out HBwr.out.size (by omega))
            have HOw61 := hid (HOwr.out.but (by omega) hb61)
            have Kow61 := hid hk61
            clear hb61 hk61))
      obtain ⟨a', cap', hav, hPA⟩ := HOw61.out.parts
      injection hav with hav1 _ hav2
      subst hav1 hav2
      rw [hpl] at hPA
      refine bodyPost_ret (v := .agg (sigC i RR (.slice a (sgPs seed pub n p i M k).length cap)).toArray) (results_blk Tryz.results11 _ (w.heap.size + 1 + 1) rfl _ 36 Kow61.out _ Tryz.underlying36 rfl 34 size_sig (sigC_size HRR.out)) rfl ⟨_, _, by rw [hpl], HBw61.out, hPA⟩
end Go.Proofs.YtjkfbeillmeomaaGreatDoor
