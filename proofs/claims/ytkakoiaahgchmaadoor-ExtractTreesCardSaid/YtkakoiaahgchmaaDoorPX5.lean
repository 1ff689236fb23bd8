/-
  Put together, as far as wanted: ExZB ExZC ExZD ExZE ExZZ.
-/
import Derived.Test.YtkakoiaahgchmaaDoorPX4
namespace Go.Proofs.YtkakoiaahgchmaaDoor
set_option maxRecDepth 100000
open Go.ChangeShapes Go.WideShapes Go.ChangeAt Go.RowKit
set_option maxHeartbeats 4000000 in
theorem extrees_ttn_yy (o i c d e f : List Int) (aa ba : Option Addr) (an ac bn bc : Nat) (ns ms : List (List Int)) (w : World) (ho : Dg o) (hi : Dg i) (hc : Dg c) (hd : Dg d) (he : Dg e) (hf : Dg f) (hN : DigsAt w aa an ac ns) (hM : DigsAt w ba bn bc ms) (tab : ShaTab w) (hb1 : an ≤ 300) (hb2 : bn ≤ 300) (hce : ¬ c = e) (q1 : isSide o i true c d ns = true) (q2 : isSide o i true e f ms = true) :
    Calls Tryd.prog 5 #[.agg (o.map (Value.int .u8)).toArray, .agg (i.map (Value.int .u8)).toArray, .agg (sideC true c d (.slice aa an ac)).toArray, .agg (sideC true e f (.slice ba bn bc)).toArray] w fun e' w' => e' = .returned (.bool true) ∧ Below w.heap.size w w' := by
  have b1 := (Below.refl w.heap.size w).alloc (Nat.le_refl _) (.cells (o.map (Value.int .u8)).toArray 23 (0, 0))
  have b2 := b1.alloc b1.size (.cells (i.map (Value.int .u8)).toArray 23 (0, 0))
  have b3 := b2.alloc b2.size (.cells (sideC true c d (.slice aa an ac)).toArray 28 (0, 0))
  have b4 := b3.alloc b3.size (.cells (sideC true e f (.slice ba bn bc)).toArray 28 (0, 0))
  have Ko := hid ((((Blk.new (w := w) (n := w.heap.size) rfl (o.map (Value.int .u8)).toArray 23).old (.cells (i.map (Value.int .u8)).toArray 23 (0, 0))).old (.cells (sideC true c d (.slice aa an ac)).toArray 28 (0, 0))).old (.cells (sideC true e f (.slice ba bn bc)).toArray 28 (0, 0)))
  have Ki := hid (((Blk.new (w := (w.alloc (.cells (o.map (Value.int .u8)).toArray 23 (0, 0)))) (n := w.heap.size + 1) (by simp only [World.size_alloc]) (i.map (Value.int .u8)).toArray 23).old (.cells (sideC true c d (.slice aa an ac)).toArray 28 (0, 0))).old (.cells (sideC true e f (.slice ba bn bc)).toArray 28 (0, 0)))
  have Ka := hid ((Blk.new (w := ((w.alloc (.cells (o.map (Value.int .u8)).toArray 23 (0, 0))).alloc (.cells (i.map (Value.int .u8)).toArray 23 (0, 0)))) (n := w.heap.size + 1 + 1) (by simp only [World.size_alloc]) (sideC true c d (.slice aa an ac)).toArray 28).old (.cells (sideC true e f (.slice ba bn bc)).toArray 28 (0, 0)))
  have Kb := hid (Blk.new (w := (((w.alloc (.cells (o.map (Value.int .u8)).toArray 23 (0, 0))).alloc (.cells (i.map (Value.int .u8)).toArray 23 (0, 0))).alloc (.cells (sideC true c d (.slice aa an ac)).toArray 28 (0, 0)))) (n := w.heap.size + 1 + 1 + 1) (by simp only [World.size_alloc]) (sideC true e f (.slice ba bn bc)).toArray 28)
  have Hb := hid b4
  have hbz := b4.size
  have Hbs := hid (show w.heap.size + 1 + 1 + 1 + 1 = ((((w.alloc (.cells (o.map (Value.int .u8)).toArray 23 (0, 0))).alloc (.cells (i.map (Value.int .u8)).toArray 23 (0, 0))).alloc (.cells (sideC true c d (.slice aa an ac)).toArray 28 (0, 0))).alloc (.cells (sideC true e f (.slice ba bn bc)).toArray 28 (0, 0))).heap.size by simp only [World.size_alloc])
  have Htab := hid tab
  clear b1 b2 b3 b4 tab 
  have HN := hid hN
  have HM := hid hM
  have qq : ∀ W : World, (binOp .neq 23 (.agg (c.map (Value.int .u8)).toArray) (.agg (e.map (Value.int .u8)).toArray)).run Tryd.prog W = .ok (.bool true) W := fun W => by
    have h := neD c e hc.len he.len W
    rw [decide_eq_false hce] at h
    exact h
  have VV := hid (fun (W : World) (h1 : DigsAt W aa an ac ns) (h2 : DigsAt W ba bn bc ms) (h3 : ShaTab W) => trees_tt_both o i c d e f aa ba an ac bn bc ns ms W ho hi hc hd he hf h1 h2 h3 hce q1 q2)
  have I1 := hid (fun (W : World) (h1 : DigsAt W aa an ac ns ) (h3 : ShaTab W) => present_is o i c d aa an ac ns W ho hi hc hd h1 h3)
  rw [q1] at I1
  have I2 := hid (fun (W : World) (h1 : DigsAt W ba bn bc ms ) (h3 : ShaTab W) => present_is o i e f ba bn bc ms W ho hi he hf h1 h3)
  rw [q2] at I2
  have hca : ¬ (300 : Int) < (an : Int) := by omega
  have hcb : ¬ (300 : Int) < (bn : Int) := by omega
  clear hN hM
  have cna : ((((w.alloc (.cells (o.map (Value.int .u8)).toArray 23 (0, 0))).alloc (.cells (i.map (Value.int .u8)).toArray 23 (0, 0))).alloc (.cells (sideC true c d (.slice aa an ac)).toArray 28 (0, 0))).alloc (.cells (sideC true e f (.slice ba bn bc)).toArray 28 (0, 0))).cell? ⟨w.heap.size + 1 + 1, 33 + 32, none⟩ = some (.slice aa an ac) := sideC_nodes' hc hd Ka.out
  have cnb : ((((w.alloc (.cells (o.map (Value.int .u8)).toArray 23 (0, 0))).alloc (.cells (i.map (Value.int .u8)).toArray 23 (0, 0))).alloc (.cells (sideC true c d (.slice aa an ac)).toArray 28 (0, 0))).alloc (.cells (sideC true e f (.slice ba bn bc)).toArray 28 (0, 0))).cell? ⟨w.heap.size + 1 + 1 + 1, 33 + 32, none⟩ = some (.slice ba bn bc) := sideC_nodes' he hf Kb.out
  go_enter Tryd.func5, Tryd.ntmps5
  go_wp2_with (first
     | (refine wpList_load_blk rfl 23 _ rfl (w.heap.size) rfl _ 23 Ko.out _ Tryd.underlying23 rfl 32 size_digest ho.size ?_)
     | (refine wpList_load_blk rfl 23 _ rfl (w.heap.size + 1) rfl _ 23 Ki.out _ Tryd.underlying23 rfl 32 size_digest hi.size ?_)
     | (refine wpList_load_blk rfl 28 _ rfl (w.heap.size + 1 + 1) rfl _ 28 Ka.out _ Tryd.underlying28 rfl 66 size_side (sideC_size hc hd) ?_)
     | (refine wpList_load_blk rfl 28 _ rfl (w.heap.size + 1 + 1 + 1) rfl _ 28 Kb.out _ Tryd.underlying28 rfl 66 size_side (sideC_size he hf) ?_))
  clear cna cnb
  refine (VV.out _ (HN.out.below Hb.out) (HM.out.below Hb.out) (Htab.out.below Hb.out)).mono ?_
  rintro e' w1 ⟨u1, v1, X, Y, rfl, ⟨p5, m5, q5, rfl, hu5⟩, ⟨p6, m6, q6, rfl, hv5⟩, l1, l2, nxy, sxy, b1⟩
  have HU5 := hid hu5
  have HV5 := hid hv5
  have HL1 := hid l1
  have HL2 := hid l2
  have HNE := hid nxy
  have HSX := hid sxy
  have HBw1 := hid (Below.on Hb.out b1)
  have hsw1 := HBw1.out.size
  have Kow1 := hid (Ko.out.below b1)
  have Kiw1 := hid (Ki.out.below b1)
  have Kaw1 := hid (Ka.out.below b1)
  have Kbw1 := hid (Kb.out.below b1)
  clear b1 hu5 hv5 l1 l2 nxy sxy
  have cpa : w1.cell? ⟨w.heap.size + 1 + 1, 0, none⟩ = some (.bool true) := by rw [Kaw1.out.cell]; rfl
  have cpb : w1.cell? ⟨w.heap.size + 1 + 1 + 1, 0, none⟩ = some (.bool true) := by rw [Kbw1.out.cell]; rfl
  go_wp2_with (first
     | (with_reducible show wpList _ _ _ (⟨some 40, _, _, _, _, _⟩ :: _) _ _; refine wpList_load_blk_if (by first | rfl | go_simp) 23 _ rfl (w.heap.size) rfl _ 23 Kow1.out _ Tryd.underlying23 rfl 32 size_digest ho.size ?_)
     | (with_reducible show wpList _ _ _ (⟨some 41, _, _, _, _, _⟩ :: _) _ _; refine wpList_load_blk_if (by first | rfl | go_simp) 23 _ rfl (w.heap.size + 1) rfl _ 23 Kiw1.out _ Tryd.underlying23 rfl 32 size_digest hi.size ?_)
     | (with_reducible show wpList _ _ _ (⟨some 43, _, _, _, _, _⟩ :: _) _ _; refine wpList_load_mid_if (by first | rfl | go_simp) 23 _ rfl (w.heap.size + 1 + 1) 1 rfl _ _ (sideC_com Kaw1.out) Tryd.underlying23 rfl (by rw [List.length_map, hc.len]; exact size_digest) ?_)
     | (with_reducible show wpList _ _ _ (⟨some 45, _, _, _, _, _⟩ :: _) _ _; refine wpList_load_mid_if (by first | rfl | go_simp) 26 _ rfl (w.heap.size + 1 + 1) 33 rfl _ _ (sideC_proof hc Kaw1.out) Tryd.underlying26 rfl (by rw [show (prC d (.slice aa an ac)).length = 33 by simp [prC, hd.len]]; exact size_proof) ?_))
  clear cpa cpb
  refine (I1.out _ (HN.out.below HBw1.out) (Htab.out.below HBw1.out)).mono ?_
  rintro e w2 ⟨rfl, bw2⟩
  have hbc2 := hid bw2
  have HBw2 := hid (Below.on HBw1.out bw2)
  have hsw2 := HBw2.out.size
  have Kow2 := hid (Kow1.out.below bw2)
  have Kiw2 := hid (Kiw1.out.below bw2)
  have Kaw2 := hid (Kaw1.out.below bw2)
  have Kbw2 := hid (Kbw1.out.below bw2)
  clear bw2
  have cpa : w2.cell? ⟨w.heap.size + 1 + 1, 0, none⟩ = some (.bool true) := by rw [Kaw2.out.cell]; rfl
  have cpb : w2.cell? ⟨w.heap.size + 1 + 1 + 1, 0, none⟩ = some (.bool true) := by rw [Kbw2.out.cell]; rfl
  go_wp2_with (first
     | (with_reducible show wpList _ _ _ (⟨some 63, _, _, _, _, _⟩ :: _) _ _; refine wpList_load_blk_if (by first | rfl | go_simp) 23 _ rfl (w.heap.size) rfl _ 23 Kow2.out _ Tryd.underlying23 rfl 32 size_digest ho.size ?_)
     | (with_reducible show wpList _ _ _ (⟨some 64, _, _, _, _, _⟩ :: _) _ _; refine wpList_load_blk_if (by first | rfl | go_simp) 23 _ rfl (w.heap.size + 1) rfl _ 23 Kiw2.out _ Tryd.underlying23 rfl 32 size_digest hi.size ?_)
     | (with_reducible show wpList _ _ _ (⟨some 66, _, _, _, _, _⟩ :: _) _ _; refine wpList_load_mid_if (by first | rfl | go_simp) 23 _ rfl (w.heap.size + 1 + 1 + 1) 1 rfl _ _ (sideC_com Kbw2.out) Tryd.underlying23 rfl (by rw [List.length_map, he.len]; exact size_digest) ?_)
     | (with_reducible show wpList _ _ _ (⟨some 68, _, _, _, _, _⟩ :: _) _ _; refine wpList_load_mid_if (by first | rfl | go_simp) 26 _ rfl (w.heap.size + 1 + 1 + 1) 33 rfl _ _ (sideC_proof he Kbw2.out) Tryd.underlying26 rfl (by rw [show (prC f (.slice ba bn bc)).length = 33 by simp [prC, hf.len]]; exact size_proof) ?_))
  clear cpa cpb
  refine (I2.out _ (HM.out.below HBw2.out) (Htab.out.below HBw2.out)).mono ?_
  rintro e w3 ⟨rfl, bw3⟩
  have hbc3 := Below.on hbc2.out bw3
  have HBw3 := hid (Below.on HBw2.out bw3)
  have hsw3 := HBw3.out.size
  have Kow3 := hid (Kow2.out.below bw3)
  have Kiw3 := hid (Kiw2.out.below bw3)
  have Kaw3 := hid (Kaw2.out.below bw3)
  have Kbw3 := hid (Kbw2.out.below bw3)
  clear bw3
  have cpa : w3.cell? ⟨w.heap.size + 1 + 1, 0, none⟩ = some (.bool true) := by rw [Kaw3.out.cell]; rfl
  have cpb : w3.cell? ⟨w.heap.size + 1 + 1 + 1, 0, none⟩ = some (.bool true) := by rw [Kbw3.out.cell]; rfl
  go_wp2_with (first
     | (with_reducible show wpList _ _ _ (⟨some 93, _, _, _, _, _⟩ :: _) _ _; refine wpList_load_mid_if (by first | rfl | go_simp) 23 _ rfl (w.heap.size + 1 + 1) 1 rfl _ _ (sideC_com Kaw3.out) Tryd.underlying23 rfl (by rw [List.length_map, hc.len]; exact size_digest) ?_)
     | (with_reducible show wpList _ _ _ (⟨some 95, _, _, _, _, _⟩ :: _) _ _; refine wpList_load_mid_if (by first | rfl | go_simp) 23 _ rfl (w.heap.size + 1 + 1 + 1) 1 rfl _ _ (sideC_com Kbw3.out) Tryd.underlying23 rfl (by rw [List.length_map, he.len]; exact size_digest) ?_))
  clear cpa cpb
  have hu6 := HU5.out.below hbc3
  have hv6 := HV5.out.below hbc3
  have hlu := hu6.length
  have hlv := hv6.length
  have HL1 := HL1.out
  have HL2 := HL2.out
  refine (found_yes p5 p6 m5 m6 q5 q6 X Y _ hu6 hv6 (by omega) (by omega) HNE.out HSX.out).mono ?_
  rintro e' w7 ⟨rfl, b7⟩
  have HBw7 := hid (Below.on HBw3.out b7)
  have hsw7 := HBw7.out.size
  have Kow7 := hid (Kow3.out.below b7)
  have Kiw7 := hid (Kiw3.out.below b7)
  have Kaw7 := hid (Kaw3.out.below b7)
  have Kbw7 := hid (Kbw3.out.below b7)
  clear b7 hu6 hv6
  go_wp2_with fail
  refine (knows23 _ (Htab.out.below HBw7.out)).mono ?_
  rintro e w8 ⟨rfl, bw8⟩
  have HBw8 := hid (Below.on HBw7.out bw8)
  have hsw8 := HBw8.out.size
  have Kow8 := hid (Kow7.out.below bw8)
  have Kiw8 := hid (Kiw7.out.below bw8)
  have Kaw8 := hid (Kaw7.out.below bw8)
  have Kbw8 := hid (Kbw7.out.below bw8)
  clear bw8
  go_wp2_with fail
  go_returns
  exact ⟨by first | rfl | simp, HBw8.out⟩
set_option maxHeartbeats 4000000 in
theorem extrees_ttn_yn (o i c d e f : List Int) (aa ba : Option Addr) (an ac bn bc : Nat) (ns ms : List (List Int)) (w : World) (ho : Dg o) (hi : Dg i) (hc : Dg c) (hd : Dg d) (he : Dg e) (hf : Dg f) (hN : DigsAt w aa an ac ns) (hM : DigsAt w ba bn bc ms) (tab : ShaTab w) (hb1 : an ≤ 300) (hb2 : bn ≤ 300) (hce : ¬ c = e) (q1 : isSide o i true c d ns = true) (q2 : isSide o i true e f ms = false) :
    Calls Tryd.prog 5 #[.agg (o.map (Value.int .u8)).toArray, .agg (i.map (Value.int .u8)).toArray, .agg (sideC true c d (.slice aa an ac)).toArray, .agg (sideC true e f (.slice ba bn bc)).toArray] w fun e' w' => e' = .returned (.bool true) ∧ Below w.heap.size w w' := by
  have b1 := (Below.refl w.heap.size w).alloc (Nat.le_refl _) (.cells (o.map (Value.int .u8)).toArray 23 (0, 0))
  have b2 := b1.alloc b1.size (.cells (i.map (Value.int .u8)).toArray 23 (0, 0))
  have b3 := b2.alloc b2.size (.cells (sideC true c d (.slice aa an ac)).toArray 28 (0, 0))
  have b4 := b3.alloc b3.size (.cells (sideC true e f (.slice ba bn bc)).toArray 28 (0, 0))
  have Ko := hid ((((Blk.new (w := w) (n := w.heap.size) rfl (o.map (Value.int .u8)).toArray 23).old (.cells (i.map (Value.int .u8)).toArray 23 (0, 0))).old (.cells (sideC true c d (.slice aa an ac)).toArray 28 (0, 0))).old (.cells (sideC true e f (.slice ba bn bc)).toArray 28 (0, 0)))
  have Ki := hid (((Blk.new (w := (w.alloc (.cells (o.map (Value.int .u8)).toArray 23 (0, 0)))) (n := w.heap.size + 1) (by simp only [World.size_alloc]) (i.map (Value.int .u8)).toArray 23).old (.cells (sideC true c d (.slice aa an ac)).toArray 28 (0, 0))).old (.cells (sideC true e f (.slice ba bn bc)).toArray 28 (0, 0)))
  have Ka := hid ((Blk.new (w := ((w.alloc (.cells (o.map (Value.int .u8)).toArray 23 (0, 0))).alloc (.cells (i.map (Value.int .u8)).toArray 23 (0, 0)))) (n := w.heap.size + 1 + 1) (by simp only [World.size_alloc]) (sideC true c d (.slice aa an ac)).toArray 28).old (.cells (sideC true e f (.slice ba bn bc)).toArray 28 (0, 0)))
  have Kb := hid (Blk.new (w := (((w.alloc (.cells (o.map (Value.int .u8)).toArray 23 (0, 0))).alloc (.cells (i.map (Value.int .u8)).toArray 23 (0, 0))).alloc (.cells (sideC true c d (.slice aa an ac)).toArray 28 (0, 0)))) (n := w.heap.size + 1 + 1 + 1) (by simp only [World.size_alloc]) (sideC true e f (.slice ba bn bc)).toArray 28)
  have Hb := hid b4
  have hbz := b4.size
  have Hbs := hid (show w.heap.size + 1 + 1 + 1 + 1 = ((((w.alloc (.cells (o.map (Value.int .u8)).toArray 23 (0, 0))).alloc (.cells (i.map (Value.int .u8)).toArray 23 (0, 0))).alloc (.cells (sideC true c d (.slice aa an ac)).toArray 28 (0, 0))).alloc (.cells (sideC true e f (.slice ba bn bc)).toArray 28 (0, 0))).heap.size by simp only [World.size_alloc])
  have Htab := hid tab
  clear b1 b2 b3 b4 tab 
  have HN := hid hN
  have HM := hid hM
  have qq : ∀ W : World, (binOp .neq 23 (.agg (c.map (Value.int .u8)).toArray) (.agg (e.map (Value.int .u8)).toArray)).run Tryd.prog W = .ok (.bool true) W := fun W => by
    have h := neD c e hc.len he.len W
    rw [decide_eq_false hce] at h
    exact h
  have VV := hid (fun (W : World) (h1 : DigsAt W aa an ac ns) (h2 : DigsAt W ba bn bc ms) (h3 : ShaTab W) => trees_tt_second o i c d e f aa ba an ac bn bc ns ms W ho hi hc hd he hf h1 h2 h3 hce q1 q2)
  have I1 := hid (fun (W : World) (h1 : DigsAt W aa an ac ns ) (h3 : ShaTab W) => present_is o i c d aa an ac ns W ho hi hc hd h1 h3)
  rw [q1] at I1
  have I2 := hid (fun (W : World) (h1 : DigsAt W ba bn bc ms ) (h3 : ShaTab W) => present_is o i e f ba bn bc ms W ho hi he hf h1 h3)
  rw [q2] at I2
  have hca : ¬ (300 : Int) < (an : Int) := by omega
  have hcb : ¬ (300 : Int) < (bn : Int) := by omega
  clear hN hM
  have cna : ((((w.alloc (.cells (o.map (Value.int .u8)).toArray 23 (0, 0))).alloc (.cells (i.map (Value.int .u8)).toArray 23 (0, 0))).alloc (.cells (sideC true c d (.slice aa an ac)).toArray 28 (0, 0))).alloc (.cells (sideC true e f (.slice ba bn bc)).toArray 28 (0, 0))).cell? ⟨w.heap.size + 1 + 1, 33 + 32, none⟩ = some (.slice aa an ac) := sideC_nodes' hc hd Ka.out
  have cnb : ((((w.alloc (.cells (o.map (Value.int .u8)).toArray 23 (0, 0))).alloc (.cells (i.map (Value.int .u8)).toArray 23 (0, 0))).alloc (.cells (sideC true c d (.slice aa an ac)).toArray 28 (0, 0))).alloc (.cells (sideC true e f (.slice ba bn bc)).toArray 28 (0, 0))).cell? ⟨w.heap.size + 1 + 1 + 1, 33 + 32, none⟩ = some (.slice ba bn bc) := sideC_nodes' he hf Kb.out
  go_enter Tryd.func5, Tryd.ntmps5
  go_wp2_with (first
     | (refine wpList_load_blk rfl 23 _ rfl (w.heap.size) rfl _ 23 Ko.out _ Tryd.underlying23 rfl 32 size_digest ho.size ?_)
     | (refine wpList_load_blk rfl 23 _ rfl (w.heap.size + 1) rfl _ 23 Ki.out _ Tryd.underlying23 rfl 32 size_digest hi.size ?_)
     | (refine wpList_load_blk rfl 28 _ rfl (w.heap.size + 1 + 1) rfl _ 28 Ka.out _ Tryd.underlying28 rfl 66 size_side (sideC_size hc hd) ?_)
     | (refine wpList_load_blk rfl 28 _ rfl (w.heap.size + 1 + 1 + 1) rfl _ 28 Kb.out _ Tryd.underlying28 rfl 66 size_side (sideC_size he hf) ?_))
  clear cna cnb
  refine (VV.out _ (HN.out.below Hb.out) (HM.out.below Hb.out) (Htab.out.below Hb.out)).mono ?_
  rintro e w1 ⟨rfl, bw1⟩
  have HBw1 := hid (Below.on Hb.out bw1)
  have hsw1 := HBw1.out.size
  have Kow1 := hid (Ko.out.below bw1)
  have Kiw1 := hid (Ki.out.below bw1)
  have Kaw1 := hid (Ka.out.below bw1)
  have Kbw1 := hid (Kb.out.below bw1)
  clear bw1
  have cpa : w1.cell? ⟨w.heap.size + 1 + 1, 0, none⟩ = some (.bool true) := by rw [Kaw1.out.cell]; rfl
  have cpb : w1.cell? ⟨w.heap.size + 1 + 1 + 1, 0, none⟩ = some (.bool true) := by rw [Kbw1.out.cell]; rfl
  go_wp2_with (first
     | (with_reducible show wpList _ _ _ (⟨some 40, _, _, _, _, _⟩ :: _) _ _; refine wpList_load_blk_if (by first | rfl | go_simp) 23 _ rfl (w.heap.size) rfl _ 23 Kow1.out _ Tryd.underlying23 rfl 32 size_digest ho.size ?_)
     | (with_reducible show wpList _ _ _ (⟨some 41, _, _, _, _, _⟩ :: _) _ _; refine wpList_load_blk_if (by first | rfl | go_simp) 23 _ rfl (w.heap.size + 1) rfl _ 23 Kiw1.out _ Tryd.underlying23 rfl 32 size_digest hi.size ?_)
     | (with_reducible show wpList _ _ _ (⟨some 43, _, _, _, _, _⟩ :: _) _ _; refine wpList_load_mid_if (by first | rfl | go_simp) 23 _ rfl (w.heap.size + 1 + 1) 1 rfl _ _ (sideC_com Kaw1.out) Tryd.underlying23 rfl (by rw [List.length_map, hc.len]; exact size_digest) ?_)
     | (with_reducible show wpList _ _ _ (⟨some 45, _, _, _, _, _⟩ :: _) _ _; refine wpList_load_mid_if (by first | rfl | go_simp) 26 _ rfl (w.heap.size + 1 + 1) 33 rfl _ _ (sideC_proof hc Kaw1.out) Tryd.underlying26 rfl (by rw [show (prC d (.slice aa an ac)).length = 33 by simp [prC, hd.len]]; exact size_proof) ?_))
  clear cpa cpb
  refine (I1.out _ (HN.out.below HBw1.out) (Htab.out.below HBw1.out)).mono ?_
  rintro e w2 ⟨rfl, bw2⟩
  have HBw2 := hid (Below.on HBw1.out bw2)
  have hsw2 := HBw2.out.size
  have Kow2 := hid (Kow1.out.below bw2)
  have Kiw2 := hid (Kiw1.out.below bw2)
  have Kaw2 := hid (Kaw1.out.below bw2)
  have Kbw2 := hid (Kbw1.out.below bw2)
  clear bw2
  have cpa : w2.cell? ⟨w.heap.size + 1 + 1, 0, none⟩ = some (.bool true) := by rw [Kaw2.out.cell]; rfl
  have cpb : w2.cell? ⟨w.heap.size + 1 + 1 + 1, 0, none⟩ = some (.bool true) := by rw [Kbw2.out.cell]; rfl
  go_wp2_with (first
     | (with_reducible show wpList _ _ _ (⟨some 63, _, _, _, _, _⟩ :: _) _ _; refine wpList_load_blk_if (by first | rfl | go_simp) 23 _ rfl (w.heap.size) rfl _ 23 Kow2.out _ Tryd.underlying23 rfl 32 size_digest ho.size ?_)
     | (with_reducible show wpList _ _ _ (⟨some 64, _, _, _, _, _⟩ :: _) _ _; refine wpList_load_blk_if (by first | rfl | go_simp) 23 _ rfl (w.heap.size + 1) rfl _ 23 Kiw2.out _ Tryd.underlying23 rfl 32 size_digest hi.size ?_)
     | (with_reducible show wpList _ _ _ (⟨some 66, _, _, _, _, _⟩ :: _) _ _; refine wpList_load_mid_if (by first | rfl | go_simp) 23 _ rfl (w.heap.size + 1 + 1 + 1) 1 rfl _ _ (sideC_com Kbw2.out) Tryd.underlying23 rfl (by rw [List.length_map, he.len]; exact size_digest) ?_)
     | (with_reducible show wpList _ _ _ (⟨some 68, _, _, _, _, _⟩ :: _) _ _; refine wpList_load_mid_if (by first | rfl | go_simp) 26 _ rfl (w.heap.size + 1 + 1 + 1) 33 rfl _ _ (sideC_proof he Kbw2.out) Tryd.underlying26 rfl (by rw [show (prC f (.slice ba bn bc)).length = 33 by simp [prC, hf.len]]; exact size_proof) ?_))
  clear cpa cpb
  refine (I2.out _ (HM.out.below HBw2.out) (Htab.out.below HBw2.out)).mono ?_
  rintro e w3 ⟨rfl, bw3⟩
  have HBw3 := hid (Below.on HBw2.out bw3)
  have hsw3 := HBw3.out.size
  have Kow3 := hid (Kow2.out.below bw3)
  have Kiw3 := hid (Kiw2.out.below bw3)
  have Kaw3 := hid (Kaw2.out.below bw3)
  have Kbw3 := hid (Kbw2.out.below bw3)
  clear bw3
  have cpa : w3.cell? ⟨w.heap.size + 1 + 1, 0, none⟩ = some (.bool true) := by rw [Kaw3.out.cell]; rfl
  have cpb : w3.cell? ⟨w.heap.size + 1 + 1 + 1, 0, none⟩ = some (.bool true) := by rw [Kbw3.out.cell]; rfl
  go_wp2_with (first
     | (with_reducible show wpList _ _ _ (⟨some 93, _, _, _, _, _⟩ :: _) _ _; refine wpList_load_mid_if (by first | rfl | go_simp) 23 _ rfl (w.heap.size + 1 + 1) 1 rfl _ _ (sideC_com Kaw3.out) Tryd.underlying23 rfl (by rw [List.length_map, hc.len]; exact size_digest) ?_)
     | (with_reducible show wpList _ _ _ (⟨some 95, _, _, _, _, _⟩ :: _) _ _; refine wpList_load_mid_if (by first | rfl | go_simp) 23 _ rfl (w.heap.size + 1 + 1 + 1) 1 rfl _ _ (sideC_com Kbw3.out) Tryd.underlying23 rfl (by rw [List.length_map, he.len]; exact size_digest) ?_))
  clear cpa cpb
  refine (lnone_yes _).mono ?_
  rintro e w4 ⟨rfl, bw4⟩
  have HBw4 := hid (Below.on HBw3.out bw4)
  have hsw4 := HBw4.out.size
  have Kow4 := hid (Kow3.out.below bw4)
  have Kiw4 := hid (Kiw3.out.below bw4)
  have Kaw4 := hid (Kaw3.out.below bw4)
  have Kbw4 := hid (Kbw3.out.below bw4)
  clear bw4
  go_wp2_with fail
  refine (knows23 _ (Htab.out.below HBw4.out)).mono ?_
  rintro e w5 ⟨rfl, bw5⟩
  have HBw5 := hid (Below.on HBw4.out bw5)
  have hsw5 := HBw5.out.size
  have Kow5 := hid (Kow4.out.below bw5)
  have Kiw5 := hid (Kiw4.out.below bw5)
  have Kaw5 := hid (Kaw4.out.below bw5)
  have Kbw5 := hid (Kbw4.out.below bw5)
  clear bw5
  go_wp2_with fail
  go_returns
  exact ⟨by first | rfl | simp, HBw5.out⟩
set_option maxHeartbeats 4000000 in
theorem extrees_ttn_ny (o i c d e f : List Int) (aa ba : Option Addr) (an ac bn bc : Nat) (ns ms : List (List Int)) (w : World) (ho : Dg o) (hi : Dg i) (hc : Dg c) (hd : Dg d) (he : Dg e) (hf : Dg f) (hN : DigsAt w aa an ac ns) (hM : DigsAt w ba bn bc ms) (tab : ShaTab w) (hb1 : an ≤ 300) (hb2 : bn ≤ 300) (hce : ¬ c = e) (q1 : isSide o i true c d ns = false) (q2 : isSide o i true e f ms = true) :
    Calls Tryd.prog 5 #[.agg (o.map (Value.int .u8)).toArray, .agg (i.map (Value.int .u8)).toArray, .agg (sideC true c d (.slice aa an ac)).toArray, .agg (sideC true e f (.slice ba bn bc)).toArray] w fun e' w' => e' = .returned (.bool true) ∧ Below w.heap.size w w' := by
  have b1 := (Below.refl w.heap.size w).alloc (Nat.le_refl _) (.cells (o.map (Value.int .u8)).toArray 23 (0, 0))
  have b2 := b1.alloc b1.size (.cells (i.map (Value.int .u8)).toArray 23 (0, 0))
  have b3 := b2.alloc b2.size (.cells (sideC true c d (.slice aa an ac)).toArray 28 (0, 0))
  have b4 := b3.alloc b3.size (.cells (sideC true e f (.slice ba bn bc)).toArray 28 (0, 0))
  have Ko := hid ((((Blk.new (w := w) (n := w.heap.size) rfl (o.map (Value.int .u8)).toArray 23).old (.cells (i.map (Value.int .u8)).toArray 23 (0, 0))).old (.cells (sideC true c d (.slice aa an ac)).toArray 28 (0, 0))).old (.cells (sideC true e f (.slice ba bn bc)).toArray 28 (0, 0)))
  have Ki := hid (((Blk.new (w := (w.alloc (.cells (o.map (Value.int .u8)).toArray 23 (0, 0)))) (n := w.heap.size + 1) (by simp only [World.size_alloc]) (i.map (Value.int .u8)).toArray 23).old (.cells (sideC true c d (.slice aa an ac)).toArray 28 (0, 0))).old (.cells (sideC true e f (.slice ba bn bc)).toArray 28 (0, 0)))
  have Ka := hid ((Blk.new (w := ((w.alloc (.cells (o.map (Value.int .u8)).toArray 23 (0, 0))).alloc (.cells (i.map (Value.int .u8)).toArray 23 (0, 0)))) (n := w.heap.size + 1 + 1) (by simp only [World.size_alloc]) (sideC true c d (.slice aa an ac)).toArray 28).old (.cells (sideC true e f (.slice ba bn bc)).toArray 28 (0, 0)))
  have Kb := hid (Blk.new (w := (((w.alloc (.cells (o.map (Value.int .u8)).toArray 23 (0, 0))).alloc (.cells (i.map (Value.int .u8)).toArray 23 (0, 0))).alloc (.cells (sideC true c d (.slice aa an ac)).toArray 28 (0, 0)))) (n := w.heap.size + 1 + 1 + 1) (by simp only [World.size_alloc]) (sideC true e f (.slice ba bn bc)).toArray 28)
  have Hb := hid b4
  have hbz := b4.size
  have Hbs := hid (show w.heap.size + 1 + 1 + 1 + 1 = ((((w.alloc (.cells (o.map (Value.int .u8)).toArray 23 (0, 0))).alloc (.cells (i.map (Value.int .u8)).toArray 23 (0, 0))).alloc (.cells (sideC true c d (.slice aa an ac)).toArray 28 (0, 0))).alloc (.cells (sideC true e f (.slice ba bn bc)).toArray 28 (0, 0))).heap.size by simp only [World.size_alloc])
  have Htab := hid tab
  clear b1 b2 b3 b4 tab 
  have HN := hid hN
  have HM := hid hM
  have qq : ∀ W : World, (binOp .neq 23 (.agg (c.map (Value.int .u8)).toArray) (.agg (e.map (Value.int .u8)).toArray)).run Tryd.prog W = .ok (.bool true) W := fun W => by
    have h := neD c e hc.len he.len W
    rw [decide_eq_false hce] at h
    exact h
  have VV := hid (fun (W : World) (h1 : DigsAt W aa an ac ns) (h2 : DigsAt W ba bn bc ms) (h3 : ShaTab W) => trees_tt_first o i c d e f aa ba an ac bn bc ns ms W ho hi hc hd he hf h1 h2 h3 hce q1)
  have I1 := hid (fun (W : World) (h1 : DigsAt W aa an ac ns ) (h3 : ShaTab W) => present_is o i c d aa an ac ns W ho hi hc hd h1 h3)
  rw [q1] at I1
  have I2 := hid (fun (W : World) (h1 : DigsAt W ba bn bc ms ) (h3 : ShaTab W) => present_is o i e f ba bn bc ms W ho hi he hf h1 h3)
  rw [q2] at I2
  have hca : ¬ (300 : Int) < (an : Int) := by omega
  have hcb : ¬ (300 : Int) < (bn : Int) := by omega
  clear hN hM
  have cna : ((((w.alloc (.cells (o.map (Value.int .u8)).toArray 23 (0, 0))).alloc (.cells (i.map (Value.int .u8)).toArray 23 (0, 0))).alloc (.cells (sideC true c d (.slice aa an ac)).toArray 28 (0, 0))).alloc (.cells (sideC true e f (.slice ba bn bc)).toArray 28 (0, 0))).cell? ⟨w.heap.size + 1 + 1, 33 + 32, none⟩ = some (.slice aa an ac) := sideC_nodes' hc hd Ka.out
  have cnb : ((((w.alloc (.cells (o.map (Value.int .u8)).toArray 23 (0, 0))).alloc (.cells (i.map (Value.int .u8)).toArray 23 (0, 0))).alloc (.cells (sideC true c d (.slice aa an ac)).toArray 28 (0, 0))).alloc (.cells (sideC true e f (.slice ba bn bc)).toArray 28 (0, 0))).cell? ⟨w.heap.size + 1 + 1 + 1, 33 + 32, none⟩ = some (.slice ba bn bc) := sideC_nodes' he hf Kb.out
  go_enter Tryd.func5, Tryd.ntmps5
  go_wp2_with (first
     | (refine wpList_load_blk rfl 23 _ rfl (w.heap.size) rfl _ 23 Ko.out _ Tryd.underlying23 rfl 32 size_digest ho.size ?_)
     | (refine wpList_load_blk rfl 23 _ rfl (w.heap.size + 1) rfl _ 23 Ki.out _ Tryd.underlying23 rfl 32 size_digest hi.size ?_)
     | (refine wpList_load_blk rfl 28 _ rfl (w.heap.size + 1 + 1) rfl _ 28 Ka.out _ Tryd.underlying28 rfl 66 size_side (sideC_size hc hd) ?_)
     | (refine wpList_load_blk rfl 28 _ rfl (w.heap.size + 1 + 1 + 1) rfl _ 28 Kb.out _ Tryd.underlying28 rfl 66 size_side (sideC_size he hf) ?_))
  clear cna cnb
  refine (VV.out _ (HN.out.below Hb.out) (HM.out.below Hb.out) (Htab.out.below Hb.out)).mono ?_
  rintro e w1 ⟨rfl, bw1⟩
  have HBw1 := hid (Below.on Hb.out bw1)
  have hsw1 := HBw1.out.size
  have Kow1 := hid (Ko.out.below bw1)
  have Kiw1 := hid (Ki.out.below bw1)
  have Kaw1 := hid (Ka.out.below bw1)
  have Kbw1 := hid (Kb.out.below bw1)
  clear bw1
  have cpa : w1.cell? ⟨w.heap.size + 1 + 1, 0, none⟩ = some (.bool true) := by rw [Kaw1.out.cell]; rfl
  have cpb : w1.cell? ⟨w.heap.size + 1 + 1 + 1, 0, none⟩ = some (.bool true) := by rw [Kbw1.out.cell]; rfl
  go_wp2_with (first
     | (with_reducible show wpList _ _ _ (⟨some 40, _, _, _, _, _⟩ :: _) _ _; refine wpList_load_blk_if (by first | rfl | go_simp) 23 _ rfl (w.heap.size) rfl _ 23 Kow1.out _ Tryd.underlying23 rfl 32 size_digest ho.size ?_)
     | (with_reducible show wpList _ _ _ (⟨some 41, _, _, _, _, _⟩ :: _) _ _; refine wpList_load_blk_if (by first | rfl | go_simp) 23 _ rfl (w.heap.size + 1) rfl _ 23 Kiw1.out _ Tryd.underlying23 rfl 32 size_digest hi.size ?_)
     | (with_reducible show wpList _ _ _ (⟨some 43, _, _, _, _, _⟩ :: _) _ _; refine wpList_load_mid_if (by first | rfl | go_simp) 23 _ rfl (w.heap.size + 1 + 1) 1 rfl _ _ (sideC_com Kaw1.out) Tryd.underlying23 rfl (by rw [List.length_map, hc.len]; exact size_digest) ?_)
     | (with_reducible show wpList _ _ _ (⟨some 45, _, _, _, _, _⟩ :: _) _ _; refine wpList_load_mid_if (by first | rfl | go_simp) 26 _ rfl (w.heap.size + 1 + 1) 33 rfl _ _ (sideC_proof hc Kaw1.out) Tryd.underlying26 rfl (by rw [show (prC d (.slice aa an ac)).length = 33 by simp [prC, hd.len]]; exact size_proof) ?_))
  clear cpa cpb
  refine (I1.out _ (HN.out.below HBw1.out) (Htab.out.below HBw1.out)).mono ?_
  rintro e w2 ⟨rfl, bw2⟩
  have HBw2 := hid (Below.on HBw1.out bw2)
  have hsw2 := HBw2.out.size
  have Kow2 := hid (Kow1.out.below bw2)
  have Kiw2 := hid (Kiw1.out.below bw2)
  have Kaw2 := hid (Kaw1.out.below bw2)
  have Kbw2 := hid (Kbw1.out.below bw2)
  clear bw2
  have cpa : w2.cell? ⟨w.heap.size + 1 + 1, 0, none⟩ = some (.bool true) := by rw [Kaw2.out.cell]; rfl
  have cpb : w2.cell? ⟨w.heap.size + 1 + 1 + 1, 0, none⟩ = some (.bool true) := by rw [Kbw2.out.cell]; rfl
  go_wp2_with (first
     | (with_reducible show wpList _ _ _ (⟨some 63, _, _, _, _, _⟩ :: _) _ _; refine wpList_load_blk_if (by first | rfl | go_simp) 23 _ rfl (w.heap.size) rfl _ 23 Kow2.out _ Tryd.underlying23 rfl 32 size_digest ho.size ?_)
     | (with_reducible show wpList _ _ _ (⟨some 64, _, _, _, _, _⟩ :: _) _ _; refine wpList_load_blk_if (by first | rfl | go_simp) 23 _ rfl (w.heap.size + 1) rfl _ 23 Kiw2.out _ Tryd.underlying23 rfl 32 size_digest hi.size ?_)
     | (with_reducible show wpList _ _ _ (⟨some 66, _, _, _, _, _⟩ :: _) _ _; refine wpList_load_mid_if (by first | rfl | go_simp) 23 _ rfl (w.heap.size + 1 + 1 + 1) 1 rfl _ _ (sideC_com Kbw2.out) Tryd.underlying23 rfl (by rw [List.length_map, he.len]; exact size_digest) ?_)
     | (with_reducible show wpList _ _ _ (⟨some 68, _, _, _, _, _⟩ :: _) _ _; refine wpList_load_mid_if (by first | rfl | go_simp) 26 _ rfl (w.heap.size + 1 + 1 + 1) 33 rfl _ _ (sideC_proof he Kbw2.out) Tryd.underlying26 rfl (by rw [show (prC f (.slice ba bn bc)).length = 33 by simp [prC, hf.len]]; exact size_proof) ?_))
  clear cpa cpb
  refine (I2.out _ (HM.out.below HBw2.out) (Htab.out.below HBw2.out)).mono ?_
  rintro e w3 ⟨rfl, bw3⟩
  have HBw3 := hid (Below.on HBw2.out bw3)
  have hsw3 := HBw3.out.size
  have Kow3 := hid (Kow2.out.below bw3)
  have Kiw3 := hid (Kiw2.out.below bw3)
  have Kaw3 := hid (Kaw2.out.below bw3)
  have Kbw3 := hid (Kbw2.out.below bw3)
  clear bw3
  have cpa : w3.cell? ⟨w.heap.size + 1 + 1, 0, none⟩ = some (.bool true) := by rw [Kaw3.out.cell]; rfl
  have cpb : w3.cell? ⟨w.heap.size + 1 + 1 + 1, 0, none⟩ = some (.bool true) := by rw [Kbw3.out.cell]; rfl
  go_wp2_with (first
     | (with_reducible show wpList _ _ _ (⟨some 93, _, _, _, _, _⟩ :: _) _ _; refine wpList_load_mid_if (by first | rfl | go_simp) 23 _ rfl (w.heap.size + 1 + 1) 1 rfl _ _ (sideC_com Kaw3.out) Tryd.underlying23 rfl (by rw [List.length_map, hc.len]; exact size_digest) ?_)
     | (with_reducible show wpList _ _ _ (⟨some 95, _, _, _, _, _⟩ :: _) _ _; refine wpList_load_mid_if (by first | rfl | go_simp) 23 _ rfl (w.heap.size + 1 + 1 + 1) 1 rfl _ _ (sideC_com Kbw3.out) Tryd.underlying23 rfl (by rw [List.length_map, he.len]; exact size_digest) ?_))
  clear cpa cpb
  refine (lnone_yes _).mono ?_
  rintro e w4 ⟨rfl, bw4⟩
  have HBw4 := hid (Below.on HBw3.out bw4)
  have hsw4 := HBw4.out.size
  have Kow4 := hid (Kow3.out.below bw4)
  have Kiw4 := hid (Kiw3.out.below bw4)
  have Kaw4 := hid (Kaw3.out.below bw4)
  have Kbw4 := hid (Kbw3.out.below bw4)
  clear bw4
  go_wp2_with fail
  refine (knows23 _ (Htab.out.below HBw4.out)).mono ?_
  rintro e w5 ⟨rfl, bw5⟩
  have HBw5 := hid (Below.on HBw4.out bw5)
  have hsw5 := HBw5.out.size
  have Kow5 := hid (Kow4.out.below bw5)
  have Kiw5 := hid (Kiw4.out.below bw5)
  have Kaw5 := hid (Kaw4.out.below bw5)
  have Kbw5 := hid (Kbw4.out.below bw5)
  clear bw5
  go_wp2_with fail
  go_returns
  exact ⟨by first | rfl | simp, HBw5.out⟩
set_option maxHeartbeats 4000000 in
theorem extrees_ttn_nn (o i c d e f : List Int) (aa ba : Option Addr) (an ac bn bc : Nat) (ns ms : List (List Int)) (w : World) (ho : Dg o) (hi : Dg i) (hc : Dg c) (hd : Dg d) (he : Dg e) (hf : Dg f) (hN : DigsAt w aa an ac ns) (hM : DigsAt w ba bn bc ms) (tab : ShaTab w) (hb1 : an ≤ 300) (hb2 : bn ≤ 300) (hce : ¬ c = e) (q1 : isSide o i true c d ns = false) (q2 : isSide o i true e f ms = false) :
    Calls Tryd.prog 5 #[.agg (o.map (Value.int .u8)).toArray, .agg (i.map (Value.int .u8)).toArray, .agg (sideC true c d (.slice aa an ac)).toArray, .agg (sideC true e f (.slice ba bn bc)).toArray] w fun e' w' => e' = .returned (.bool true) ∧ Below w.heap.size w w' := by
  have b1 := (Below.refl w.heap.size w).alloc (Nat.le_refl _) (.cells (o.map (Value.int .u8)).toArray 23 (0, 0))
  have b2 := b1.alloc b1.size (.cells (i.map (Value.int .u8)).toArray 23 (0, 0))
  have b3 := b2.alloc b2.size (.cells (sideC true c d (.slice aa an ac)).toArray 28 (0, 0))
  have b4 := b3.alloc b3.size (.cells (sideC true e f (.slice ba bn bc)).toArray 28 (0, 0))
  have Ko := hid ((((Blk.new (w := w) (n := w.heap.size) rfl (o.map (Value.int .u8)).toArray 23).old (.cells (i.map (Value.int .u8)).toArray 23 (0, 0))).old (.cells (sideC true c d (.slice aa an ac)).toArray 28 (0, 0))).old (.cells (sideC true e f (.slice ba bn bc)).toArray 28 (0, 0)))
  have Ki := hid (((Blk.new (w := (w.alloc (.cells (o.map (Value.int .u8)).toArray 23 (0, 0)))) (n := w.heap.size + 1) (by simp only [World.size_alloc]) (i.map (Value.int .u8)).toArray 23).old (.cells (sideC true c d (.slice aa an ac)).toArray 28 (0, 0))).old (.cells (sideC true e f (.slice ba bn bc)).toArray 28 (0, 0)))
  have Ka := hid ((Blk.new (w := ((w.alloc (.cells (o.map (Value.int .u8)).toArray 23 (0, 0))).alloc (.cells (i.map (Value.int .u8)).toArray 23 (0, 0)))) (n := w.heap.size + 1 + 1) (by simp only [World.size_alloc]) (sideC true c d (.slice aa an ac)).toArray 28).old (.cells (sideC true e f (.slice ba bn bc)).toArray 28 (0, 0)))
  have Kb := hid (Blk.new (w := (((w.alloc (.cells (o.map (Value.int .u8)).toArray 23 (0, 0))).alloc (.cells (i.map (Value.int .u8)).toArray 23 (0, 0))).alloc (.cells (sideC true c d (.slice aa an ac)).toArray 28 (0, 0)))) (n := w.heap.size + 1 + 1 + 1) (by simp only [World.size_alloc]) (sideC true e f (.slice ba bn bc)).toArray 28)
  have Hb := hid b4
  have hbz := b4.size
  have Hbs := hid (show w.heap.size + 1 + 1 + 1 + 1 = ((((w.alloc (.cells (o.map (Value.int .u8)).toArray 23 (0, 0))).alloc (.cells (i.map (Value.int .u8)).toArray 23 (0, 0))).alloc (.cells (sideC true c d (.slice aa an ac)).toArray 28 (0, 0))).alloc (.cells (sideC true e f (.slice ba bn bc)).toArray 28 (0, 0))).heap.size by simp only [World.size_alloc])
  have Htab := hid tab
  clear b1 b2 b3 b4 tab 
  have HN := hid hN
  have HM := hid hM
  have qq : ∀ W : World, (binOp .neq 23 (.agg (c.map (Value.int .u8)).toArray) (.agg (e.map (Value.int .u8)).toArray)).run Tryd.prog W = .ok (.bool true) W := fun W => by
    have h := neD c e hc.len he.len W
    rw [decide_eq_false hce] at h
    exact h
  have VV := hid (fun (W : World) (h1 : DigsAt W aa an ac ns) (h2 : DigsAt W ba bn bc ms) (h3 : ShaTab W) => trees_tt_first o i c d e f aa ba an ac bn bc ns ms W ho hi hc hd he hf h1 h2 h3 hce q1)
  have I1 := hid (fun (W : World) (h1 : DigsAt W aa an ac ns ) (h3 : ShaTab W) => present_is o i c d aa an ac ns W ho hi hc hd h1 h3)
  rw [q1] at I1
  have I2 := hid (fun (W : World) (h1 : DigsAt W ba bn bc ms ) (h3 : ShaTab W) => present_is o i e f ba bn bc ms W ho hi he hf h1 h3)
  rw [q2] at I2
  have hca : ¬ (300 : Int) < (an : Int) := by omega
  have hcb : ¬ (300 : Int) < (bn : Int) := by omega
  clear hN hM
  have cna : ((((w.alloc (.cells (o.map (Value.int .u8)).toArray 23 (0, 0))).alloc (.cells (i.map (Value.int .u8)).toArray 23 (0, 0))).alloc (.cells (sideC true c d (.slice aa an ac)).toArray 28 (0, 0))).alloc (.cells (sideC true e f (.slice ba bn bc)).toArray 28 (0, 0))).cell? ⟨w.heap.size + 1 + 1, 33 + 32, none⟩ = some (.slice aa an ac) := sideC_nodes' hc hd Ka.out
  have cnb : ((((w.alloc (.cells (o.map (Value.int .u8)).toArray 23 (0, 0))).alloc (.cells (i.map (Value.int .u8)).toArray 23 (0, 0))).alloc (.cells (sideC true c d (.slice aa an ac)).toArray 28 (0, 0))).alloc (.cells (sideC true e f (.slice ba bn bc)).toArray 28 (0, 0))).cell? ⟨w.heap.size + 1 + 1 + 1, 33 + 32, none⟩ = some (.slice ba bn bc) := sideC_nodes' he hf Kb.out
  go_enter Tryd.func5, Tryd.ntmps5
  go_wp2_with (first
     | (refine wpList_load_blk rfl 23 _ rfl (w.heap.size) rfl _ 23 Ko.out _ Tryd.underlying23 rfl 32 size_digest ho.size ?_)
     | (refine wpList_load_blk rfl 23 _ rfl (w.heap.size + 1) rfl _ 23 Ki.out _ Tryd.underlying23 rfl 32 size_digest hi.size ?_)
     | (refine wpList_load_blk rfl 28 _ rfl (w.heap.size + 1 + 1) rfl _ 28 Ka.out _ Tryd.underlying28 rfl 66 size_side (sideC_size hc hd) ?_)
     | (refine wpList_load_blk rfl 28 _ rfl (w.heap.size + 1 + 1 + 1) rfl _ 28 Kb.out _ Tryd.underlying28 rfl 66 size_side (sideC_size he hf) ?_))
  clear cna cnb
  refine (VV.out _ (HN.out.below Hb.out) (HM.out.below Hb.out) (Htab.out.below Hb.out)).mono ?_
  rintro e w1 ⟨rfl, bw1⟩
  have HBw1 := hid (Below.on Hb.out bw1)
  have hsw1 := HBw1.out.size
  have Kow1 := hid (Ko.out.below bw1)
  have Kiw1 := hid (Ki.out.below bw1)
  have Kaw1 := hid (Ka.out.below bw1)
  have Kbw1 := hid (Kb.out.below bw1)
  clear bw1
  have cpa : w1.cell? ⟨w.heap.size + 1 + 1, 0, none⟩ = some (.bool true) := by rw [Kaw1.out.cell]; rfl
  have cpb : w1.cell? ⟨w.heap.size + 1 + 1 + 1, 0, none⟩ = some (.bool true) := by rw [Kbw1.out.cell]; rfl
  go_wp2_with (first
     | (with_reducible show wpList _ _ _ (⟨some 40, _, _, _, _, _⟩ :: _) _ _; refine wpList_load_blk_if (by first | rfl | go_simp) 23 _ rfl (w.heap.size) rfl _ 23 Kow1.out _ Tryd.underlying23 rfl 32 size_digest ho.size ?_)
     | (with_reducible show wpList _ _ _ (⟨some 41, _, _, _, _, _⟩ :: _) _ _; refine wpList_load_blk_if (by first | rfl | go_simp) 23 _ rfl (w.heap.size + 1) rfl _ 23 Kiw1.out _ Tryd.underlying23 rfl 32 size_digest hi.size ?_)
     | (with_reducible show wpList _ _ _ (⟨some 43, _, _, _, _, _⟩ :: _) _ _; refine wpList_load_mid_if (by first | rfl | go_simp) 23 _ rfl (w.heap.size + 1 + 1) 1 rfl _ _ (sideC_com Kaw1.out) Tryd.underlying23 rfl (by rw [List.length_map, hc.len]; exact size_digest) ?_)
     | (with_reducible show wpList _ _ _ (⟨some 45, _, _, _, _, _⟩ :: _) _ _; refine wpList_load_mid_if (by first | rfl | go_simp) 26 _ rfl (w.heap.size + 1 + 1) 33 rfl _ _ (sideC_proof hc Kaw1.out) Tryd.underlying26 rfl (by rw [show (prC d (.slice aa an ac)).length = 33 by simp [prC, hd.len]]; exact size_proof) ?_))
  clear cpa cpb
  refine (I1.out _ (HN.out.below HBw1.out) (Htab.out.below HBw1.out)).mono ?_
  rintro e w2 ⟨rfl, bw2⟩
  have HBw2 := hid (Below.on HBw1.out bw2)
  have hsw2 := HBw2.out.size
  have Kow2 := hid (Kow1.out.below bw2)
  have Kiw2 := hid (Kiw1.out.below bw2)
  have Kaw2 := hid (Kaw1.out.below bw2)
  have Kbw2 := hid (Kbw1.out.below bw2)
  clear bw2
  have cpa : w2.cell? ⟨w.heap.size + 1 + 1, 0, none⟩ = some (.bool true) := by rw [Kaw2.out.cell]; rfl
  have cpb : w2.cell? ⟨w.heap.size + 1 + 1 + 1, 0, none⟩ = some (.bool true) := by rw [Kbw2.out.cell]; rfl
  go_wp2_with (first
     | (with_reducible show wpList _ _ _ (⟨some 63, _, _, _, _, _⟩ :: _) _ _; refine wpList_load_blk_if (by first | rfl | go_simp) 23 _ rfl (w.heap.size) rfl _ 23 Kow2.out _ Tryd.underlying23 rfl 32 size_digest ho.size ?_)
     | (with_reducible show wpList _ _ _ (⟨some 64, _, _, _, _, _⟩ :: _) _ _; refine wpList_load_blk_if (by first | rfl | go_simp) 23 _ rfl (w.heap.size + 1) rfl _ 23 Kiw2.out _ Tryd.underlying23 rfl 32 size_digest hi.size ?_)
     | (with_reducible show wpList _ _ _ (⟨some 66, _, _, _, _, _⟩ :: _) _ _; refine wpList_load_mid_if (by first | rfl | go_simp) 23 _ rfl (w.heap.size + 1 + 1 + 1) 1 rfl _ _ (sideC_com Kbw2.out) Tryd.underlying23 rfl (by rw [List.length_map, he.len]; exact size_digest) ?_)
     | (with_reducible show wpList _ _ _ (⟨some 68, _, _, _, _, _⟩ :: _) _ _; refine wpList_load_mid_if (by first | rfl | go_simp) 26 _ rfl (w.heap.size + 1 + 1 + 1) 33 rfl _ _ (sideC_proof he Kbw2.out) Tryd.underlying26 rfl (by rw [show (prC f (.slice ba bn bc)).length = 33 by simp [prC, hf.len]]; exact size_proof) ?_))
  clear cpa cpb
  refine (I2.out _ (HM.out.below HBw2.out) (Htab.out.below HBw2.out)).mono ?_
  rintro e w3 ⟨rfl, bw3⟩
  have HBw3 := hid (Below.on HBw2.out bw3)
  have hsw3 := HBw3.out.size
  have Kow3 := hid (Kow2.out.below bw3)
  have Kiw3 := hid (Kiw2.out.below bw3)
  have Kaw3 := hid (Kaw2.out.below bw3)
  have Kbw3 := hid (Kbw2.out.below bw3)
  clear bw3
  have cpa : w3.cell? ⟨w.heap.size + 1 + 1, 0, none⟩ = some (.bool true) := by rw [Kaw3.out.cell]; rfl
  have cpb : w3.cell? ⟨w.heap.size + 1 + 1 + 1, 0, none⟩ = some (.bool true) := by rw [Kbw3.out.cell]; rfl
  go_wp2_with (first
     | (with_reducible show wpList _ _ _ (⟨some 93, _, _, _, _, _⟩ :: _) _ _; refine wpList_load_mid_if (by first | rfl | go_simp) 23 _ rfl (w.heap.size + 1 + 1) 1 rfl _ _ (sideC_com Kaw3.out) Tryd.underlying23 rfl (by rw [List.length_map, hc.len]; exact size_digest) ?_)
     | (with_reducible show wpList _ _ _ (⟨some 95, _, _, _, _, _⟩ :: _) _ _; refine wpList_load_mid_if (by first | rfl | go_simp) 23 _ rfl (w.heap.size + 1 + 1 + 1) 1 rfl _ _ (sideC_com Kbw3.out) Tryd.underlying23 rfl (by rw [List.length_map, he.len]; exact size_digest) ?_))
  clear cpa cpb
  refine (lnone_yes _).mono ?_
  rintro e w4 ⟨rfl, bw4⟩
  have HBw4 := hid (Below.on HBw3.out bw4)
  have hsw4 := HBw4.out.size
  have Kow4 := hid (Kow3.out.below bw4)
  have Kiw4 := hid (Kiw3.out.below bw4)
  have Kaw4 := hid (Kaw3.out.below bw4)
  have Kbw4 := hid (Kbw3.out.below bw4)
  clear bw4
  go_wp2_with fail
  refine (knows23 _ (Htab.out.below HBw4.out)).mono ?_
  rintro e w5 ⟨rfl, bw5⟩
  have HBw5 := hid (Below.on HBw4.out bw5)
  have hsw5 := HBw5.out.size
  have Kow5 := hid (Kow4.out.below bw5)
  have Kiw5 := hid (Kiw4.out.below bw5)
  have Kaw5 := hid (Kaw4.out.below bw5)
  have Kbw5 := hid (Kbw4.out.below bw5)
  clear bw5
  go_wp2_with fail
  go_returns
  exact ⟨by first | rfl | simp, HBw5.out⟩
end Go.Proofs.YtkakoiaahgchmaaDoor
namespace Go.Proofs.YtkakoiaahgchmaaDoor
set_option maxRecDepth 100000
open Go.ChangeShapes Go.WideShapes Go.ChangeAt Go.RowKit
set_option maxHeartbeats 4000000 in
theorem extrees_tf_yy (o i c d e f : List Int) (aa ba : Option Addr) (an ac bn bc : Nat) (ns ms : List (List Int)) (w : World) (ho : Dg o) (hi : Dg i) (hc : Dg c) (hd : Dg d) (he : Dg e) (hf : Dg f) (hN : DigsAt w aa an ac ns) (hM : DigsAt w ba bn bc ms) (tab : ShaTab w) (hb1 : an ≤ 300) (hb2 : bn ≤ 300) (q1 : isSide o i true c d ns = true) (q2 : isSide o i false e f ms = true) :
    Calls Tryd.prog 5 #[.agg (o.map (Value.int .u8)).toArray, .agg (i.map (Value.int .u8)).toArray, .agg (sideC true c d (.slice aa an ac)).toArray, .agg (sideC false e f (.slice ba bn bc)).toArray] w fun e' w' => e' = .returned (.bool true) ∧ Below w.heap.size w w' := by
  have b1 := (Below.refl w.heap.size w).alloc (Nat.le_refl _) (.cells (o.map (Value.int .u8)).toArray 23 (0, 0))
  have b2 := b1.alloc b1.size (.cells (i.map (Value.int .u8)).toArray 23 (0, 0))
  have b3 := b2.alloc b2.size (.cells (sideC true c d (.slice aa an ac)).toArray 28 (0, 0))
  have b4 := b3.alloc b3.size (.cells (sideC false e f (.slice ba bn bc)).toArray 28 (0, 0))
  have Ko := hid ((((Blk.new (w := w) (n := w.heap.size) rfl (o.map (Value.int .u8)).toArray 23).old (.cells (i.map (Value.int .u8)).toArray 23 (0, 0))).old (.cells (sideC true c d (.slice aa an ac)).toArray 28 (0, 0))).old (.cells (sideC false e f (.slice ba bn bc)).toArray 28 (0, 0)))
  have Ki := hid (((Blk.new (w := (w.alloc (.cells (o.map (Value.int .u8)).toArray 23 (0, 0)))) (n := w.heap.size + 1) (by simp only [World.size_alloc]) (i.map (Value.int .u8)).toArray 23).old (.cells (sideC true c d (.slice aa an ac)).toArray 28 (0, 0))).old (.cells (sideC false e f (.slice ba bn bc)).toArray 28 (0, 0)))
  have Ka := hid ((Blk.new (w := ((w.alloc (.cells (o.map (Value.int .u8)).toArray 23 (0, 0))).alloc (.cells (i.map (Value.int .u8)).toArray 23 (0, 0)))) (n := w.heap.size + 1 + 1) (by simp only [World.size_alloc]) (sideC true c d (.slice aa an ac)).toArray 28).old (.cells (sideC false e f (.slice ba bn bc)).toArray 28 (0, 0)))
  have Kb := hid (Blk.new (w := (((w.alloc (.cells (o.map (Value.int .u8)).toArray 23 (0, 0))).alloc (.cells (i.map (Value.int .u8)).toArray 23 (0, 0))).alloc (.cells (sideC true c d (.slice aa an ac)).toArray 28 (0, 0)))) (n := w.heap.size + 1 + 1 + 1) (by simp only [World.size_alloc]) (sideC false e f (.slice ba bn bc)).toArray 28)
  have Hb := hid b4
  have hbz := b4.size
  have Hbs := hid (show w.heap.size + 1 + 1 + 1 + 1 = ((((w.alloc (.cells (o.map (Value.int .u8)).toArray 23 (0, 0))).alloc (.cells (i.map (Value.int .u8)).toArray 23 (0, 0))).alloc (.cells (sideC true c d (.slice aa an ac)).toArray 28 (0, 0))).alloc (.cells (sideC false e f (.slice ba bn bc)).toArray 28 (0, 0))).heap.size by simp only [World.size_alloc])
  have Htab := hid tab
  clear b1 b2 b3 b4 tab 
  have HN := hid hN
  have HM := hid hM
  have VV := hid (fun (W : World) (h1 : DigsAt W aa an ac ns) (h2 : DigsAt W ba bn bc ms) (h3 : ShaTab W) => trees_tf_both o i c d e f aa ba an ac bn bc ns ms W ho hi hc hd he hf h1 h2 h3 q1 q2)
  have I1 := hid (fun (W : World) (h1 : DigsAt W aa an ac ns ) (h3 : ShaTab W) => present_is o i c d aa an ac ns W ho hi hc hd h1 h3)
  rw [q1] at I1
  have I2 := hid (fun (W : World) (h1 : DigsAt W ba bn bc ms) (h3 : ShaTab W) => absent_is o i e f ba bn bc ms W ho hi hf h1 h3)
  rw [q2] at I2
  have hca : ¬ (300 : Int) < (an : Int) := by omega
  have hcb : ¬ (300 : Int) < (bn : Int) := by omega
  clear hN hM
  have cna : ((((w.alloc (.cells (o.map (Value.int .u8)).toArray 23 (0, 0))).alloc (.cells (i.map (Value.int .u8)).toArray 23 (0, 0))).alloc (.cells (sideC true c d (.slice aa an ac)).toArray 28 (0, 0))).alloc (.cells (sideC false e f (.slice ba bn bc)).toArray 28 (0, 0))).cell? ⟨w.heap.size + 1 + 1, 33 + 32, none⟩ = some (.slice aa an ac) := sideC_nodes' hc hd Ka.out
  have cnb : ((((w.alloc (.cells (o.map (Value.int .u8)).toArray 23 (0, 0))).alloc (.cells (i.map (Value.int .u8)).toArray 23 (0, 0))).alloc (.cells (sideC true c d (.slice aa an ac)).toArray 28 (0, 0))).alloc (.cells (sideC false e f (.slice ba bn bc)).toArray 28 (0, 0))).cell? ⟨w.heap.size + 1 + 1 + 1, 33 + 32, none⟩ = some (.slice ba bn bc) := sideC_nodes' he hf Kb.out
  go_enter Tryd.func5, Tryd.ntmps5
  go_wp2_with (first
     | (refine wpList_load_blk rfl 23 _ rfl (w.heap.size) rfl _ 23 Ko.out _ Tryd.underlying23 rfl 32 size_digest ho.size ?_)
     | (refine wpList_load_blk rfl 23 _ rfl (w.heap.size + 1) rfl _ 23 Ki.out _ Tryd.underlying23 rfl 32 size_digest hi.size ?_)
     | (refine wpList_load_blk rfl 28 _ rfl (w.heap.size + 1 + 1) rfl _ 28 Ka.out _ Tryd.underlying28 rfl 66 size_side (sideC_size hc hd) ?_)
     | (refine wpList_load_blk rfl 28 _ rfl (w.heap.size + 1 + 1 + 1) rfl _ 28 Kb.out _ Tryd.underlying28 rfl 66 size_side (sideC_size he hf) ?_))
  clear cna cnb
  refine (VV.out _ (HN.out.below Hb.out) (HM.out.below Hb.out) (Htab.out.below Hb.out)).mono ?_
  rintro e' w1 ⟨u1, v1, X, Y, rfl, ⟨p5, m5, q5, rfl, hu5⟩, ⟨p6, m6, q6, rfl, hv5⟩, l1, l2, nxy, sxy, b1⟩
  have HU5 := hid hu5
  have HV5 := hid hv5
  have HL1 := hid l1
  have HL2 := hid l2
  have HNE := hid nxy
  have HSX := hid sxy
  have HBw1 := hid (Below.on Hb.out b1)
  have hsw1 := HBw1.out.size
  have Kow1 := hid (Ko.out.below b1)
  have Kiw1 := hid (Ki.out.below b1)
  have Kaw1 := hid (Ka.out.below b1)
  have Kbw1 := hid (Kb.out.below b1)
  clear b1 hu5 hv5 l1 l2 nxy sxy
  have cpa : w1.cell? ⟨w.heap.size + 1 + 1, 0, none⟩ = some (.bool true) := by rw [Kaw1.out.cell]; rfl
  have cpb : w1.cell? ⟨w.heap.size + 1 + 1 + 1, 0, none⟩ = some (.bool false) := by rw [Kbw1.out.cell]; rfl
  go_wp2_with (first
     | (with_reducible show wpList _ _ _ (⟨some 40, _, _, _, _, _⟩ :: _) _ _; refine wpList_load_blk_if (by first | rfl | go_simp) 23 _ rfl (w.heap.size) rfl _ 23 Kow1.out _ Tryd.underlying23 rfl 32 size_digest ho.size ?_)
     | (with_reducible show wpList _ _ _ (⟨some 41, _, _, _, _, _⟩ :: _) _ _; refine wpList_load_blk_if (by first | rfl | go_simp) 23 _ rfl (w.heap.size + 1) rfl _ 23 Kiw1.out _ Tryd.underlying23 rfl 32 size_digest hi.size ?_)
     | (with_reducible show wpList _ _ _ (⟨some 43, _, _, _, _, _⟩ :: _) _ _; refine wpList_load_mid_if (by first | rfl | go_simp) 23 _ rfl (w.heap.size + 1 + 1) 1 rfl _ _ (sideC_com Kaw1.out) Tryd.underlying23 rfl (by rw [List.length_map, hc.len]; exact size_digest) ?_)
     | (with_reducible show wpList _ _ _ (⟨some 45, _, _, _, _, _⟩ :: _) _ _; refine wpList_load_mid_if (by first | rfl | go_simp) 26 _ rfl (w.heap.size + 1 + 1) 33 rfl _ _ (sideC_proof hc Kaw1.out) Tryd.underlying26 rfl (by rw [show (prC d (.slice aa an ac)).length = 33 by simp [prC, hd.len]]; exact size_proof) ?_))
  clear cpa cpb
  refine (I1.out _ (HN.out.below HBw1.out) (Htab.out.below HBw1.out)).mono ?_
  rintro e w2 ⟨rfl, bw2⟩
  have hbc2 := hid bw2
  have HBw2 := hid (Below.on HBw1.out bw2)
  have hsw2 := HBw2.out.size
  have Kow2 := hid (Kow1.out.below bw2)
  have Kiw2 := hid (Kiw1.out.below bw2)
  have Kaw2 := hid (Kaw1.out.below bw2)
  have Kbw2 := hid (Kbw1.out.below bw2)
  clear bw2
  have cpa : w2.cell? ⟨w.heap.size + 1 + 1, 0, none⟩ = some (.bool true) := by rw [Kaw2.out.cell]; rfl
  have cpb : w2.cell? ⟨w.heap.size + 1 + 1 + 1, 0, none⟩ = some (.bool false) := by rw [Kbw2.out.cell]; rfl
  go_wp2_with (first
     | (with_reducible show wpList _ _ _ (⟨some 76, _, _, _, _, _⟩ :: _) _ _; refine wpList_load_blk_if (by first | rfl | go_simp) 23 _ rfl (w.heap.size) rfl _ 23 Kow2.out _ Tryd.underlying23 rfl 32 size_digest ho.size ?_)
     | (with_reducible show wpList _ _ _ (⟨some 77, _, _, _, _, _⟩ :: _) _ _; refine wpList_load_blk_if (by first | rfl | go_simp) 23 _ rfl (w.heap.size + 1) rfl _ 23 Kiw2.out _ Tryd.underlying23 rfl 32 size_digest hi.size ?_)
     | (with_reducible show wpList _ _ _ (⟨some 79, _, _, _, _, _⟩ :: _) _ _; refine wpList_load_mid_if (by first | rfl | go_simp) 26 _ rfl (w.heap.size + 1 + 1 + 1) 33 rfl _ _ (sideC_proof he Kbw2.out) Tryd.underlying26 rfl (by rw [show (prC f (.slice ba bn bc)).length = 33 by simp [prC, hf.len]]; exact size_proof) ?_))
  clear cpa cpb
  refine (I2.out _ (HM.out.below HBw2.out) (Htab.out.below HBw2.out)).mono ?_
  rintro e w3 ⟨rfl, bw3⟩
  have hbc3 := Below.on hbc2.out bw3
  have HBw3 := hid (Below.on HBw2.out bw3)
  have hsw3 := HBw3.out.size
  have Kow3 := hid (Kow2.out.below bw3)
  have Kiw3 := hid (Kiw2.out.below bw3)
  have Kaw3 := hid (Kaw2.out.below bw3)
  have Kbw3 := hid (Kbw2.out.below bw3)
  clear bw3
  have cpa : w3.cell? ⟨w.heap.size + 1 + 1, 0, none⟩ = some (.bool true) := by rw [Kaw3.out.cell]; rfl
  have cpb : w3.cell? ⟨w.heap.size + 1 + 1 + 1, 0, none⟩ = some (.bool false) := by rw [Kbw3.out.cell]; rfl
  go_wp2_with fail
  clear cpa cpb
  have hu6 := HU5.out.below hbc3
  have hv6 := HV5.out.below hbc3
  have hlu := hu6.length
  have hlv := hv6.length
  have HL1 := HL1.out
  have HL2 := HL2.out
  refine (found_yes p5 p6 m5 m6 q5 q6 X Y _ hu6 hv6 (by omega) (by omega) HNE.out HSX.out).mono ?_
  rintro e' w7 ⟨rfl, b7⟩
  have HBw7 := hid (Below.on HBw3.out b7)
  have hsw7 := HBw7.out.size
  have Kow7 := hid (Kow3.out.below b7)
  have Kiw7 := hid (Kiw3.out.below b7)
  have Kaw7 := hid (Kaw3.out.below b7)
  have Kbw7 := hid (Kbw3.out.below b7)
  clear b7 hu6 hv6
  go_wp2_with fail
  refine (knows23 _ (Htab.out.below HBw7.out)).mono ?_
  rintro e w8 ⟨rfl, bw8⟩
  have HBw8 := hid (Below.on HBw7.out bw8)
  have hsw8 := HBw8.out.size
  have Kow8 := hid (Kow7.out.below bw8)
  have Kiw8 := hid (Kiw7.out.below bw8)
  have Kaw8 := hid (Kaw7.out.below bw8)
  have Kbw8 := hid (Kbw7.out.below bw8)
  clear bw8
  go_wp2_with fail
  go_returns
  exact ⟨by first | rfl | simp, HBw8.out⟩
set_option maxHeartbeats 4000000 in
theorem extrees_tf_yn (o i c d e f : List Int) (aa ba : Option Addr) (an ac bn bc : Nat) (ns ms : List (List Int)) (w : World) (ho : Dg o) (hi : Dg i) (hc : Dg c) (hd : Dg d) (he : Dg e) (hf : Dg f) (hN : DigsAt w aa an ac ns) (hM : DigsAt w ba bn bc ms) (tab : ShaTab w) (hb1 : an ≤ 300) (hb2 : bn ≤ 300) (q1 : isSide o i true c d ns = true) (q2 : isSide o i false e f ms = false) :
    Calls Tryd.prog 5 #[.agg (o.map (Value.int .u8)).toArray, .agg (i.map (Value.int .u8)).toArray, .agg (sideC true c d (.slice aa an ac)).toArray, .agg (sideC false e f (.slice ba bn bc)).toArray] w fun e' w' => e' = .returned (.bool true) ∧ Below w.heap.size w w' := by
  have b1 := (Below.refl w.heap.size w).alloc (Nat.le_refl _) (.cells (o.map (Value.int .u8)).toArray 23 (0, 0))
  have b2 := b1.alloc b1.size (.cells (i.map (Value.int .u8)).toArray 23 (0, 0))
  have b3 := b2.alloc b2.size (.cells (sideC true c d (.slice aa an ac)).toArray 28 (0, 0))
  have b4 := b3.alloc b3.size (.cells (sideC false e f (.slice ba bn bc)).toArray 28 (0, 0))
  have Ko := hid ((((Blk.new (w := w) (n := w.heap.size) rfl (o.map (Value.int .u8)).toArray 23).old (.cells (i.map (Value.int .u8)).toArray 23 (0, 0))).old (.cells (sideC true c d (.slice aa an ac)).toArray 28 (0, 0))).old (.cells (sideC false e f (.slice ba bn bc)).toArray 28 (0, 0)))
  have Ki := hid (((Blk.new (w := (w.alloc (.cells (o.map (Value.int .u8)).toArray 23 (0, 0)))) (n := w.heap.size + 1) (by simp only [World.size_alloc]) (i.map (Value.int .u8)).toArray 23).old (.cells (sideC true c d (.slice aa an ac)).toArray 28 (0, 0))).old (.cells (sideC false e f (.slice ba bn bc)).toArray 28 (0, 0)))
  have Ka := hid ((Blk.new (w := ((w.alloc (.cells (o.map (Value.int .u8)).toArray 23 (0, 0))).alloc (.cells (i.map (Value.int .u8)).toArray 23 (0, 0)))) (n := w.heap.size + 1 + 1) (by simp only [World.size_alloc]) (sideC true c d (.slice aa an ac)).toArray 28).old (.cells (sideC false e f (.slice ba bn bc)).toArray 28 (0, 0)))
  have Kb := hid (Blk.new (w := (((w.alloc (.cells (o.map (Value.int .u8)).toArray 23 (0, 0))).alloc (.cells (i.map (Value.int .u8)).toArray 23 (0, 0))).alloc (.cells (sideC true c d (.slice aa an ac)).toArray 28 (0, 0)))) (n := w.heap.size + 1 + 1 + 1) (by simp only [World.size_alloc]) (sideC false e f (.slice ba bn bc)).toArray 28)
  have Hb := hid b4
  have hbz := b4.size
  have Hbs := hid (show w.heap.size + 1 + 1 + 1 + 1 = ((((w.alloc (.cells (o.map (Value.int .u8)).toArray 23 (0, 0))).alloc (.cells (i.map (Value.int .u8)).toArray 23 (0, 0))).alloc (.cells (sideC true c d (.slice aa an ac)).toArray 28 (0, 0))).alloc (.cells (sideC false e f (.slice ba bn bc)).toArray 28 (0, 0))).heap.size by simp only [World.size_alloc])
  have Htab := hid tab
  clear b1 b2 b3 b4 tab 
  have HN := hid hN
  have HM := hid hM
  have VV := hid (fun (W : World) (h1 : DigsAt W aa an ac ns) (h2 : DigsAt W ba bn bc ms) (h3 : ShaTab W) => trees_tf_second o i c d e f aa ba an ac bn bc ns ms W ho hi hc hd he hf h1 h2 h3 q1 q2)
  have I1 := hid (fun (W : World) (h1 : DigsAt W aa an ac ns ) (h3 : ShaTab W) => present_is o i c d aa an ac ns W ho hi hc hd h1 h3)
  rw [q1] at I1
  have I2 := hid (fun (W : World) (h1 : DigsAt W ba bn bc ms) (h3 : ShaTab W) => absent_is o i e f ba bn bc ms W ho hi hf h1 h3)
  rw [q2] at I2
  have hca : ¬ (300 : Int) < (an : Int) := by omega
  have hcb : ¬ (300 : Int) < (bn : Int) := by omega
  clear hN hM
  have cna : ((((w.alloc (.cells (o.map (Value.int .u8)).toArray 23 (0, 0))).alloc (.cells (i.map (Value.int .u8)).toArray 23 (0, 0))).alloc (.cells (sideC true c d (.slice aa an ac)).toArray 28 (0, 0))).alloc (.cells (sideC false e f (.slice ba bn bc)).toArray 28 (0, 0))).cell? ⟨w.heap.size + 1 + 1, 33 + 32, none⟩ = some (.slice aa an ac) := sideC_nodes' hc hd Ka.out
  have cnb : ((((w.alloc (.cells (o.map (Value.int .u8)).toArray 23 (0, 0))).alloc (.cells (i.map (Value.int .u8)).toArray 23 (0, 0))).alloc (.cells (sideC true c d (.slice aa an ac)).toArray 28 (0, 0))).alloc (.cells (sideC false e f (.slice ba bn bc)).toArray 28 (0, 0))).cell? ⟨w.heap.size + 1 + 1 + 1, 33 + 32, none⟩ = some (.slice ba bn bc) := sideC_nodes' he hf Kb.out
  go_enter Tryd.func5, Tryd.ntmps5
  go_wp2_with (first
     | (refine wpList_load_blk rfl 23 _ rfl (w.heap.size) rfl _ 23 Ko.out _ Tryd.underlying23 rfl 32 size_digest ho.size ?_)
     | (refine wpList_load_blk rfl 23 _ rfl (w.heap.size + 1) rfl _ 23 Ki.out _ Tryd.underlying23 rfl 32 size_digest hi.size ?_)
     | (refine wpList_load_blk rfl 28 _ rfl (w.heap.size + 1 + 1) rfl _ 28 Ka.out _ Tryd.underlying28 rfl 66 size_side (sideC_size hc hd) ?_)
     | (refine wpList_load_blk rfl 28 _ rfl (w.heap.size + 1 + 1 + 1) rfl _ 28 Kb.out _ Tryd.underlying28 rfl 66 size_side (sideC_size he hf) ?_))
  clear cna cnb
  refine (VV.out _ (HN.out.below Hb.out) (HM.out.below Hb.out) (Htab.out.below Hb.out)).mono ?_
  rintro e w1 ⟨rfl, bw1⟩
  have HBw1 := hid (Below.on Hb.out bw1)
  have hsw1 := HBw1.out.size
  have Kow1 := hid (Ko.out.below bw1)
  have Kiw1 := hid (Ki.out.below bw1)
  have Kaw1 := hid (Ka.out.below bw1)
  have Kbw1 := hid (Kb.out.below bw1)
  clear bw1
  have cpa : w1.cell? ⟨w.heap.size + 1 + 1, 0, none⟩ = some (.bool true) := by rw [Kaw1.out.cell]; rfl
  have cpb : w1.cell? ⟨w.heap.size + 1 + 1 + 1, 0, none⟩ = some (.bool false) := by rw [Kbw1.out.cell]; rfl
  go_wp2_with (first
     | (with_reducible show wpList _ _ _ (⟨some 40, _, _, _, _, _⟩ :: _) _ _; refine wpList_load_blk_if (by first | rfl | go_simp) 23 _ rfl (w.heap.size) rfl _ 23 Kow1.out _ Tryd.underlying23 rfl 32 size_digest ho.size ?_)
     | (with_reducible show wpList _ _ _ (⟨some 41, _, _, _, _, _⟩ :: _) _ _; refine wpList_load_blk_if (by first | rfl | go_simp) 23 _ rfl (w.heap.size + 1) rfl _ 23 Kiw1.out _ Tryd.underlying23 rfl 32 size_digest hi.size ?_)
     | (with_reducible show wpList _ _ _ (⟨some 43, _, _, _, _, _⟩ :: _) _ _; refine wpList_load_mid_if (by first | rfl | go_simp) 23 _ rfl (w.heap.size + 1 + 1) 1 rfl _ _ (sideC_com Kaw1.out) Tryd.underlying23 rfl (by rw [List.length_map, hc.len]; exact size_digest) ?_)
     | (with_reducible show wpList _ _ _ (⟨some 45, _, _, _, _, _⟩ :: _) _ _; refine wpList_load_mid_if (by first | rfl | go_simp) 26 _ rfl (w.heap.size + 1 + 1) 33 rfl _ _ (sideC_proof hc Kaw1.out) Tryd.underlying26 rfl (by rw [show (prC d (.slice aa an ac)).length = 33 by simp [prC, hd.len]]; exact size_proof) ?_))
  clear cpa cpb
  refine (I1.out _ (HN.out.below HBw1.out) (Htab.out.below HBw1.out)).mono ?_
  rintro e w2 ⟨rfl, bw2⟩
  have HBw2 := hid (Below.on HBw1.out bw2)
  have hsw2 := HBw2.out.size
  have Kow2 := hid (Kow1.out.below bw2)
  have Kiw2 := hid (Kiw1.out.below bw2)
  have Kaw2 := hid (Kaw1.out.below bw2)
  have Kbw2 := hid (Kbw1.out.below bw2)
  clear bw2
  have cpa : w2.cell? ⟨w.heap.size + 1 + 1, 0, none⟩ = some (.bool true) := by rw [Kaw2.out.cell]; rfl
  have cpb : w2.cell? ⟨w.heap.size + 1 + 1 + 1, 0, none⟩ = some (.bool false) := by rw [Kbw2.out.cell]; rfl
  go_wp2_with (first
     | (with_reducible show wpList _ _ _ (⟨some 76, _, _, _, _, _⟩ :: _) _ _; refine wpList_load_blk_if (by first | rfl | go_simp) 23 _ rfl (w.heap.size) rfl _ 23 Kow2.out _ Tryd.underlying23 rfl 32 size_digest ho.size ?_)
     | (with_reducible show wpList _ _ _ (⟨some 77, _, _, _, _, _⟩ :: _) _ _; refine wpList_load_blk_if (by first | rfl | go_simp) 23 _ rfl (w.heap.size + 1) rfl _ 23 Kiw2.out _ Tryd.underlying23 rfl 32 size_digest hi.size ?_)
     | (with_reducible show wpList _ _ _ (⟨some 79, _, _, _, _, _⟩ :: _) _ _; refine wpList_load_mid_if (by first | rfl | go_simp) 26 _ rfl (w.heap.size + 1 + 1 + 1) 33 rfl _ _ (sideC_proof he Kbw2.out) Tryd.underlying26 rfl (by rw [show (prC f (.slice ba bn bc)).length = 33 by simp [prC, hf.len]]; exact size_proof) ?_))
  clear cpa cpb
  refine (I2.out _ (HM.out.below HBw2.out) (Htab.out.below HBw2.out)).mono ?_
  rintro e w3 ⟨rfl, bw3⟩
  have HBw3 := hid (Below.on HBw2.out bw3)
  have hsw3 := HBw3.out.size
  have Kow3 := hid (Kow2.out.below bw3)
  have Kiw3 := hid (Kiw2.out.below bw3)
  have Kaw3 := hid (Kaw2.out.below bw3)
  have Kbw3 := hid (Kbw2.out.below bw3)
  clear bw3
  have cpa : w3.cell? ⟨w.heap.size + 1 + 1, 0, none⟩ = some (.bool true) := by rw [Kaw3.out.cell]; rfl
  have cpb : w3.cell? ⟨w.heap.size + 1 + 1 + 1, 0, none⟩ = some (.bool false) := by rw [Kbw3.out.cell]; rfl
  go_wp2_with fail
  clear cpa cpb
  refine (lnone_yes _).mono ?_
  rintro e w4 ⟨rfl, bw4⟩
  have HBw4 := hid (Below.on HBw3.out bw4)
  have hsw4 := HBw4.out.size
  have Kow4 := hid (Kow3.out.below bw4)
  have Kiw4 := hid (Kiw3.out.below bw4)
  have Kaw4 := hid (Kaw3.out.below bw4)
  have Kbw4 := hid (Kbw3.out.below bw4)
  clear bw4
  go_wp2_with fail
  refine (knows23 _ (Htab.out.below HBw4.out)).mono ?_
  rintro e w5 ⟨rfl, bw5⟩
  have HBw5 := hid (Below.on HBw4.out bw5)
  have hsw5 := HBw5.out.size
  have Kow5 := hid (Kow4.out.below bw5)
  have Kiw5 := hid (Kiw4.out.below bw5)
  have Kaw5 := hid (Kaw4.out.below bw5)
  have Kbw5 := hid (Kbw4.out.below bw5)
  clear bw5
  go_wp2_with fail
  go_returns
  exact ⟨by first | rfl | simp, HBw5.out⟩
set_option maxHeartbeats 4000000 in
theorem extrees_tf_ny (o i c d e f : List Int) (aa ba : Option Addr) (an ac bn bc : Nat) (ns ms : List (List Int)) (w : World) (ho : Dg o) (hi : Dg i) (hc : Dg c) (hd : Dg d) (he : Dg e) (hf : Dg f) (hN : DigsAt w aa an ac ns) (hM : DigsAt w ba bn bc ms) (tab : ShaTab w) (hb1 : an ≤ 300) (hb2 : bn ≤ 300) (q1 : isSide o i true c d ns = false) (q2 : isSide o i false e f ms = true) :
    Calls Tryd.prog 5 #[.agg (o.map (Value.int .u8)).toArray, .agg (i.map (Value.int .u8)).toArray, .agg (sideC true c d (.slice aa an ac)).toArray, .agg (sideC false e f (.slice ba bn bc)).toArray] w fun e' w' => e' = .returned (.bool true) ∧ Below w.heap.size w w' := by
  have b1 := (Below.refl w.heap.size w).alloc (Nat.le_refl _) (.cells (o.map (Value.int .u8)).toArray 23 (0, 0))
  have b2 := b1.alloc b1.size (.cells (i.map (Value.int .u8)).toArray 23 (0, 0))
  have b3 := b2.alloc b2.size (.cells (sideC true c d (.slice aa an ac)).toArray 28 (0, 0))
  have b4 := b3.alloc b3.size (.cells (sideC false e f (.slice ba bn bc)).toArray 28 (0, 0))
  have Ko := hid ((((Blk.new (w := w) (n := w.heap.size) rfl (o.map (Value.int .u8)).toArray 23).old (.cells (i.map (Value.int .u8)).toArray 23 (0, 0))).old (.cells (sideC true c d (.slice aa an ac)).toArray 28 (0, 0))).old (.cells (sideC false e f (.slice ba bn bc)).toArray 28 (0, 0)))
  have Ki := hid (((Blk.new (w := (w.alloc (.cells (o.map (Value.int .u8)).toArray 23 (0, 0)))) (n := w.heap.size + 1) (by simp only [World.size_alloc]) (i.map (Value.int .u8)).toArray 23).old (.cells (sideC true c d (.slice aa an ac)).toArray 28 (0, 0))).old (.cells (sideC false e f (.slice ba bn bc)).toArray 28 (0, 0)))
  have Ka := hid ((Blk.new (w := ((w.alloc (.cells (o.map (Value.int .u8)).toArray 23 (0, 0))).alloc (.cells (i.map (Value.int .u8)).toArray 23 (0, 0)))) (n := w.heap.size + 1 + 1) (by simp only [World.size_alloc]) (sideC true c d (.slice aa an ac)).toArray 28).old (.cells (sideC false e f (.slice ba bn bc)).toArray 28 (0, 0)))
  have Kb := hid (Blk.new (w := (((w.alloc (.cells (o.map (Value.int .u8)).toArray 23 (0, 0))).alloc (.cells (i.map (Value.int .u8)).toArray 23 (0, 0))).alloc (.cells (sideC true c d (.slice aa an ac)).toArray 28 (0, 0)))) (n := w.heap.size + 1 + 1 + 1) (by simp only [World.size_alloc]) (sideC false e f (.slice ba bn bc)).toArray 28)
  have Hb := hid b4
  have hbz := b4.size
  have Hbs := hid (show w.heap.size + 1 + 1 + 1 + 1 = ((((w.alloc (.cells (o.map (Value.int .u8)).toArray 23 (0, 0))).alloc (.cells (i.map (Value.int .u8)).toArray 23 (0, 0))).alloc (.cells (sideC true c d (.slice aa an ac)).toArray 28 (0, 0))).alloc (.cells (sideC false e f (.slice ba bn bc)).toArray 28 (0, 0))).heap.size by simp only [World.size_alloc])
  have Htab := hid tab
  clear b1 b2 b3 b4 tab 
  have HN := hid hN
  have HM := hid hM
  have VV := hid (fun (W : World) (h1 : DigsAt W aa an ac ns) (h2 : DigsAt W ba bn bc ms) (h3 : ShaTab W) => trees_tf_first o i c d e f aa ba an ac bn bc ns ms W ho hi hc hd he hf h1 h2 h3 q1)
  have I1 := hid (fun (W : World) (h1 : DigsAt W aa an ac ns ) (h3 : ShaTab W) => present_is o i c d aa an ac ns W ho hi hc hd h1 h3)
  rw [q1] at I1
  have I2 := hid (fun (W : World) (h1 : DigsAt W ba bn bc ms) (h3 : ShaTab W) => absent_is o i e f ba bn bc ms W ho hi hf h1 h3)
  rw [q2] at I2
  have hca : ¬ (300 : Int) < (an : Int) := by omega
  have hcb : ¬ (300 : Int) < (bn : Int) := by omega
  clear hN hM
  have cna : ((((w.alloc (.cells (o.map (Value.int .u8)).toArray 23 (0, 0))).alloc (.cells (i.map (Value.int .u8)).toArray 23 (0, 0))).alloc (.cells (sideC true c d (.slice aa an ac)).toArray 28 (0, 0))).alloc (.cells (sideC false e f (.slice ba bn bc)).toArray 28 (0, 0))).cell? ⟨w.heap.size + 1 + 1, 33 + 32, none⟩ = some (.slice aa an ac) := sideC_nodes' hc hd Ka.out
  have cnb : ((((w.alloc (.cells (o.map (Value.int .u8)).toArray 23 (0, 0))).alloc (.cells (i.map (Value.int .u8)).toArray 23 (0, 0))).alloc (.cells (sideC true c d (.slice aa an ac)).toArray 28 (0, 0))).alloc (.cells (sideC false e f (.slice ba bn bc)).toArray 28 (0, 0))).cell? ⟨w.heap.size + 1 + 1 + 1, 33 + 32, none⟩ = some (.slice ba bn bc) := sideC_nodes' he hf Kb.out
  go_enter Tryd.func5, Tryd.ntmps5
  go_wp2_with (first
     | (refine wpList_load_blk rfl 23 _ rfl (w.heap.size) rfl _ 23 Ko.out _ Tryd.underlying23 rfl 32 size_digest ho.size ?_)
     | (refine wpList_load_blk rfl 23 _ rfl (w.heap.size + 1) rfl _ 23 Ki.out _ Tryd.underlying23 rfl 32 size_digest hi.size ?_)
     | (refine wpList_load_blk rfl 28 _ rfl (w.heap.size + 1 + 1) rfl _ 28 Ka.out _ Tryd.underlying28 rfl 66 size_side (sideC_size hc hd) ?_)
     | (refine wpList_load_blk rfl 28 _ rfl (w.heap.size + 1 + 1 + 1) rfl _ 28 Kb.out _ Tryd.underlying28 rfl 66 size_side (sideC_size he hf) ?_))
  clear cna cnb
  refine (VV.out _ (HN.out.below Hb.out) (HM.out.below Hb.out) (Htab.out.below Hb.out)).mono ?_
  rintro e w1 ⟨rfl, bw1⟩
  have HBw1 := hid (Below.on Hb.out bw1)
  have hsw1 := HBw1.out.size
  have Kow1 := hid (Ko.out.below bw1)
  have Kiw1 := hid (Ki.out.below bw1)
  have Kaw1 := hid (Ka.out.below bw1)
  have Kbw1 := hid (Kb.out.below bw1)
  clear bw1
  have cpa : w1.cell? ⟨w.heap.size + 1 + 1, 0, none⟩ = some (.bool true) := by rw [Kaw1.out.cell]; rfl
  have cpb : w1.cell? ⟨w.heap.size + 1 + 1 + 1, 0, none⟩ = some (.bool false) := by rw [Kbw1.out.cell]; rfl
  go_wp2_with (first
     | (with_reducible show wpList _ _ _ (⟨some 40, _, _, _, _, _⟩ :: _) _ _; refine wpList_load_blk_if (by first | rfl | go_simp) 23 _ rfl (w.heap.size) rfl _ 23 Kow1.out _ Tryd.underlying23 rfl 32 size_digest ho.size ?_)
     | (with_reducible show wpList _ _ _ (⟨some 41, _, _, _, _, _⟩ :: _) _ _; refine wpList_load_blk_if (by first | rfl | go_simp) 23 _ rfl (w.heap.size + 1) rfl _ 23 Kiw1.out _ Tryd.underlying23 rfl 32 size_digest hi.size ?_)
     | (with_reducible show wpList _ _ _ (⟨some 43, _, _, _, _, _⟩ :: _) _ _; refine wpList_load_mid_if (by first | rfl | go_simp) 23 _ rfl (w.heap.size + 1 + 1) 1 rfl _ _ (sideC_com Kaw1.out) Tryd.underlying23 rfl (by rw [List.length_map, hc.len]; exact size_digest) ?_)
     | (with_reducible show wpList _ _ _ (⟨some 45, _, _, _, _, _⟩ :: _) _ _; refine wpList_load_mid_if (by first | rfl | go_simp) 26 _ rfl (w.heap.size + 1 + 1) 33 rfl _ _ (sideC_proof hc Kaw1.out) Tryd.underlying26 rfl (by rw [show (prC d (.slice aa an ac)).length = 33 by simp [prC, hd.len]]; exact size_proof) ?_))
  clear cpa cpb
  refine (I1.out _ (HN.out.below HBw1.out) (Htab.out.below HBw1.out)).mono ?_
  rintro e w2 ⟨rfl, bw2⟩
  have HBw2 := hid (Below.on HBw1.out bw2)
  have hsw2 := HBw2.out.size
  have Kow2 := hid (Kow1.out.below bw2)
  have Kiw2 := hid (Kiw1.out.below bw2)
  have Kaw2 := hid (Kaw1.out.below bw2)
  have Kbw2 := hid (Kbw1.out.below bw2)
  clear bw2
  have cpa : w2.cell? ⟨w.heap.size + 1 + 1, 0, none⟩ = some (.bool true) := by rw [Kaw2.out.cell]; rfl
  have cpb : w2.cell? ⟨w.heap.size + 1 + 1 + 1, 0, none⟩ = some (.bool false) := by rw [Kbw2.out.cell]; rfl
  go_wp2_with (first
     | (with_reducible show wpList _ _ _ (⟨some 76, _, _, _, _, _⟩ :: _) _ _; refine wpList_load_blk_if (by first | rfl | go_simp) 23 _ rfl (w.heap.size) rfl _ 23 Kow2.out _ Tryd.underlying23 rfl 32 size_digest ho.size ?_)
     | (with_reducible show wpList _ _ _ (⟨some 77, _, _, _, _, _⟩ :: _) _ _; refine wpList_load_blk_if (by first | rfl | go_simp) 23 _ rfl (w.heap.size + 1) rfl _ 23 Kiw2.out _ Tryd.underlying23 rfl 32 size_digest hi.size ?_)
     | (with_reducible show wpList _ _ _ (⟨some 79, _, _, _, _, _⟩ :: _) _ _; refine wpList_load_mid_if (by first | rfl | go_simp) 26 _ rfl (w.heap.size + 1 + 1 + 1) 33 rfl _ _ (sideC_proof he Kbw2.out) Tryd.underlying26 rfl (by rw [show (prC f (.slice ba bn bc)).length = 33 by simp [prC, hf.len]]; exact size_proof) ?_))
  clear cpa cpb
  refine (I2.out _ (HM.out.below HBw2.out) (Htab.out.below HBw2.out)).mono ?_
  rintro e w3 ⟨rfl, bw3⟩
  have HBw3 := hid (Below.on HBw2.out bw3)
  have hsw3 := HBw3.out.size
  have Kow3 := hid (Kow2.out.below bw3)
  have Kiw3 := hid (Kiw2.out.below bw3)
  have Kaw3 := hid (Kaw2.out.below bw3)
  have Kbw3 := hid (Kbw2.out.below bw3)
  clear bw3
  have cpa : w3.cell? ⟨w.heap.size + 1 + 1, 0, none⟩ = some (.bool true) := by rw [Kaw3.out.cell]; rfl
  have cpb : w3.cell? ⟨w.heap.size + 1 + 1 + 1, 0, none⟩ = some (.bool false) := by rw [Kbw3.out.cell]; rfl
  go_wp2_with fail
  clear cpa cpb
  refine (lnone_yes _).mono ?_
  rintro e w4 ⟨rfl, bw4⟩
  have HBw4 := hid (Below.on HBw3.out bw4)
  have hsw4 := HBw4.out.size
  have Kow4 := hid (Kow3.out.below bw4)
  have Kiw4 := hid (Kiw3.out.below bw4)
  have Kaw4 := hid (Kaw3.out.below bw4)
  have Kbw4 := hid (Kbw3.out.below bw4)
  clear bw4
  go_wp2_with fail
  refine (knows23 _ (Htab.out.below HBw4.out)).mono ?_
  rintro e w5 ⟨rfl, bw5⟩
  have HBw5 := hid (Below.on HBw4.out bw5)
  have hsw5 := HBw5.out.size
  have Kow5 := hid (Kow4.out.below bw5)
  have Kiw5 := hid (Kiw4.out.below bw5)
  have Kaw5 := hid (Kaw4.out.below bw5)
  have Kbw5 := hid (Kbw4.out.below bw5)
  clear bw5
  go_wp2_with fail
  go_returns
  exact ⟨by first | rfl | simp, HBw5.out⟩
set_option maxHeartbeats 4000000 in
theorem extrees_tf_nn (o i c d e f : List Int) (aa ba : Option Addr) (an ac bn bc : Nat) (ns ms : List (List Int)) (w : World) (ho : Dg o) (hi : Dg i) (hc : Dg c) (hd : Dg d) (he : Dg e) (hf : Dg f) (hN : DigsAt w aa an ac ns) (hM : DigsAt w ba bn bc ms) (tab : ShaTab w) (hb1 : an ≤ 300) (hb2 : bn ≤ 300) (q1 : isSide o i true c d ns = false) (q2 : isSide o i false e f ms = false) :
    Calls Tryd.prog 5 #[.agg (o.map (Value.int .u8)).toArray, .agg (i.map (Value.int .u8)).toArray, .agg (sideC true c d (.slice aa an ac)).toArray, .agg (sideC false e f (.slice ba bn bc)).toArray] w fun e' w' => e' = .returned (.bool true) ∧ Below w.heap.size w w' := by
  have b1 := (Below.refl w.heap.size w).alloc (Nat.le_refl _) (.cells (o.map (Value.int .u8)).toArray 23 (0, 0))
  have b2 := b1.alloc b1.size (.cells (i.map (Value.int .u8)).toArray 23 (0, 0))
  have b3 := b2.alloc b2.size (.cells (sideC true c d (.slice aa an ac)).toArray 28 (0, 0))
  have b4 := b3.alloc b3.size (.cells (sideC false e f (.slice ba bn bc)).toArray 28 (0, 0))
  have Ko := hid ((((Blk.new (w := w) (n := w.heap.size) rfl (o.map (Value.int .u8)).toArray 23).old (.cells (i.map (Value.int .u8)).toArray 23 (0, 0))).old (.cells (sideC true c d (.slice aa an ac)).toArray 28 (0, 0))).old (.cells (sideC false e f (.slice ba bn bc)).toArray 28 (0, 0)))
  have Ki := hid (((Blk.new (w := (w.alloc (.cells (o.map (Value.int .u8)).toArray 23 (0, 0)))) (n := w.heap.size + 1) (by simp only [World.size_alloc]) (i.map (Value.int .u8)).toArray 23).old (.cells (sideC true c d (.slice aa an ac)).toArray 28 (0, 0))).old (.cells (sideC false e f (.slice ba bn bc)).toArray 28 (0, 0)))
  have Ka := hid ((Blk.new (w := ((w.alloc (.cells (o.map (Value.int .u8)).toArray 23 (0, 0))).alloc (.cells (i.map (Value.int .u8)).toArray 23 (0, 0)))) (n := w.heap.size + 1 + 1) (by simp only [World.size_alloc]) (sideC true c d (.slice aa an ac)).toArray 28).old (.cells (sideC false e f (.slice ba bn bc)).toArray 28 (0, 0)))
  have Kb := hid (Blk.new (w := (((w.alloc (.cells (o.map (Value.int .u8)).toArray 23 (0, 0))).alloc (.cells (i.map (Value.int .u8)).toArray 23 (0, 0))).alloc (.cells (sideC true c d (.slice aa an ac)).toArray 28 (0, 0)))) (n := w.heap.size + 1 + 1 + 1) (by simp only [World.size_alloc]) (sideC false e f (.slice ba bn bc)).toArray 28)
  have Hb := hid b4
  have hbz := b4.size
  have Hbs := hid (show w.heap.size + 1 + 1 + 1 + 1 = ((((w.alloc (.cells (o.map (Value.int .u8)).toArray 23 (0, 0))).alloc (.cells (i.map (Value.int .u8)).toArray 23 (0, 0))).alloc (.cells (sideC true c d (.slice aa an ac)).toArray 28 (0, 0))).alloc (.cells (sideC false e f (.slice ba bn bc)).toArray 28 (0, 0))).heap.size by simp only [World.size_alloc])
  have Htab := hid tab
  clear b1 b2 b3 b4 tab 
  have HN := hid hN
  have HM := hid hM
  have VV := hid (fun (W : World) (h1 : DigsAt W aa an ac ns) (h2 : DigsAt W ba bn bc ms) (h3 : ShaTab W) => trees_tf_first o i c d e f aa ba an ac bn bc ns ms W ho hi hc hd he hf h1 h2 h3 q1)
  have I1 := hid (fun (W : World) (h1 : DigsAt W aa an ac ns ) (h3 : ShaTab W) => present_is o i c d aa an ac ns W ho hi hc hd h1 h3)
  rw [q1] at I1
  have I2 := hid (fun (W : World) (h1 : DigsAt W ba bn bc ms) (h3 : ShaTab W) => absent_is o i e f ba bn bc ms W ho hi hf h1 h3)
  rw [q2] at I2
  have hca : ¬ (300 : Int) < (an : Int) := by omega
  have hcb : ¬ (300 : Int) < (bn : Int) := by omega
  clear hN hM
  have cna : ((((w.alloc (.cells (o.map (Value.int .u8)).toArray 23 (0, 0))).alloc (.cells (i.map (Value.int .u8)).toArray 23 (0, 0))).alloc (.cells (sideC true c d (.slice aa an ac)).toArray 28 (0, 0))).alloc (.cells (sideC false e f (.slice ba bn bc)).toArray 28 (0, 0))).cell? ⟨w.heap.size + 1 + 1, 33 + 32, none⟩ = some (.slice aa an ac) := sideC_nodes' hc hd Ka.out
  have cnb : ((((w.alloc (.cells (o.map (Value.int .u8)).toArray 23 (0, 0))).alloc (.cells (i.map (Value.int .u8)).toArray 23 (0, 0))).alloc (.cells (sideC true c d (.slice aa an ac)).toArray 28 (0, 0))).alloc (.cells (sideC false e f (.slice ba bn bc)).toArray 28 (0, 0))).cell? ⟨w.heap.size + 1 + 1 + 1, 33 + 32, none⟩ = some (.slice ba bn bc) := sideC_nodes' he hf Kb.out
  go_enter Tryd.func5, Tryd.ntmps5
  go_wp2_with (first
     | (refine wpList_load_blk rfl 23 _ rfl (w.heap.size) rfl _ 23 Ko.out _ Tryd.underlying23 rfl 32 size_digest ho.size ?_)
     | (refine wpList_load_blk rfl 23 _ rfl (w.heap.size + 1) rfl _ 23 Ki.out _ Tryd.underlying23 rfl 32 size_digest hi.size ?_)
     | (refine wpList_load_blk rfl 28 _ rfl (w.heap.size + 1 + 1) rfl _ 28 Ka.out _ Tryd.underlying28 rfl 66 size_side (sideC_size hc hd) ?_)
     | (refine wpList_load_blk rfl 28 _ rfl (w.heap.size + 1 + 1 + 1) rfl _ 28 Kb.out _ Tryd.underlying28 rfl 66 size_side (sideC_size he hf) ?_))
  clear cna cnb
  refine (VV.out _ (HN.out.below Hb.out) (HM.out.below Hb.out) (Htab.out.below Hb.out)).mono ?_
  rintro e w1 ⟨rfl, bw1⟩
  have HBw1 := hid (Below.on Hb.out bw1)
  have hsw1 := HBw1.out.size
  have Kow1 := hid (Ko.out.below bw1)
  have Kiw1 := hid (Ki.out.below bw1)
  have Kaw1 := hid (Ka.out.below bw1)
  have Kbw1 := hid (Kb.out.below bw1)
  clear bw1
  have cpa : w1.cell? ⟨w.heap.size + 1 + 1, 0, none⟩ = some (.bool true) := by rw [Kaw1.out.cell]; rfl
  have cpb : w1.cell? ⟨w.heap.size + 1 + 1 + 1, 0, none⟩ = some (.bool false) := by rw [Kbw1.out.cell]; rfl
  go_wp2_with (first
     | (with_reducible show wpList _ _ _ (⟨some 40, _, _, _, _, _⟩ :: _) _ _; refine wpList_load_blk_if (by first | rfl | go_simp) 23 _ rfl (w.heap.size) rfl _ 23 Kow1.out _ Tryd.underlying23 rfl 32 size_digest ho.size ?_)
     | (with_reducible show wpList _ _ _ (⟨some 41, _, _, _, _, _⟩ :: _) _ _; refine wpList_load_blk_if (by first | rfl | go_simp) 23 _ rfl (w.heap.size + 1) rfl _ 23 Kiw1.out _ Tryd.underlying23 rfl 32 size_digest hi.size ?_)
     | (with_reducible show wpList _ _ _ (⟨some 43, _, _, _, _, _⟩ :: _) _ _; refine wpList_load_mid_if (by first | rfl | go_simp) 23 _ rfl (w.heap.size + 1 + 1) 1 rfl _ _ (sideC_com Kaw1.out) Tryd.underlying23 rfl (by rw [List.length_map, hc.len]; exact size_digest) ?_)
     | (with_reducible show wpList _ _ _ (⟨some 45, _, _, _, _, _⟩ :: _) _ _; refine wpList_load_mid_if (by first | rfl | go_simp) 26 _ rfl (w.heap.size + 1 + 1) 33 rfl _ _ (sideC_proof hc Kaw1.out) Tryd.underlying26 rfl (by rw [show (prC d (.slice aa an ac)).length = 33 by simp [prC, hd.len]]; exact size_proof) ?_))
  clear cpa cpb
  refine (I1.out _ (HN.out.below HBw1.out) (Htab.out.below HBw1.out)).mono ?_
  rintro e w2 ⟨rfl, bw2⟩
  have HBw2 := hid (Below.on HBw1.out bw2)
  have hsw2 := HBw2.out.size
  have Kow2 := hid (Kow1.out.below bw2)
  have Kiw2 := hid (Kiw1.out.below bw2)
  have Kaw2 := hid (Kaw1.out.below bw2)
  have Kbw2 := hid (Kbw1.out.below bw2)
  clear bw2
  have cpa : w2.cell? ⟨w.heap.size + 1 + 1, 0, none⟩ = some (.bool true) := by rw [Kaw2.out.cell]; rfl
  have cpb : w2.cell? ⟨w.heap.size + 1 + 1 + 1, 0, none⟩ = some (.bool false) := by rw [Kbw2.out.cell]; rfl
  go_wp2_with (first
     | (with_reducible show wpList _ _ _ (⟨some 76, _, _, _, _, _⟩ :: _) _ _; refine wpList_load_blk_if (by first | rfl | go_simp) 23 _ rfl (w.heap.size) rfl _ 23 Kow2.out _ Tryd.underlying23 rfl 32 size_digest ho.size ?_)
     | (with_reducible show wpList _ _ _ (⟨some 77, _, _, _, _, _⟩ :: _) _ _; refine wpList_load_blk_if (by first | rfl | go_simp) 23 _ rfl (w.heap.size + 1) rfl _ 23 Kiw2.out _ Tryd.underlying23 rfl 32 size_digest hi.size ?_)
     | (with_reducible show wpList _ _ _ (⟨some 79, _, _, _, _, _⟩ :: _) _ _; refine wpList_load_mid_if (by first | rfl | go_simp) 26 _ rfl (w.heap.size + 1 + 1 + 1) 33 rfl _ _ (sideC_proof he Kbw2.out) Tryd.underlying26 rfl (by rw [show (prC f (.slice ba bn bc)).length = 33 by simp [prC, hf.len]]; exact size_proof) ?_))
  clear cpa cpb
  refine (I2.out _ (HM.out.below HBw2.out) (Htab.out.below HBw2.out)).mono ?_
  rintro e w3 ⟨rfl, bw3⟩
  have HBw3 := hid (Below.on HBw2.out bw3)
  have hsw3 := HBw3.out.size
  have Kow3 := hid (Kow2.out.below bw3)
  have Kiw3 := hid (Kiw2.out.below bw3)
  have Kaw3 := hid (Kaw2.out.below bw3)
  have Kbw3 := hid (Kbw2.out.below bw3)
  clear bw3
  have cpa : w3.cell? ⟨w.heap.size + 1 + 1, 0, none⟩ = some (.bool true) := by rw [Kaw3.out.cell]; rfl
  have cpb : w3.cell? ⟨w.heap.size + 1 + 1 + 1, 0, none⟩ = some (.bool false) := by rw [Kbw3.out.cell]; rfl
  go_wp2_with fail
  clear cpa cpb
  refine (lnone_yes _).mono ?_
  rintro e w4 ⟨rfl, bw4⟩
  have HBw4 := hid (Below.on HBw3.out bw4)
  have hsw4 := HBw4.out.size
  have Kow4 := hid (Kow3.out.below bw4)
  have Kiw4 := hid (Kiw3.out.below bw4)
  have Kaw4 := hid (Kaw3.out.below bw4)
  have Kbw4 := hid (Kbw3.out.below bw4)
  clear bw4
  go_wp2_with fail
  refine (knows23 _ (Htab.out.below HBw4.out)).mono ?_
  rintro e w5 ⟨rfl, bw5⟩
  have HBw5 := hid (Below.on HBw4.out bw5)
  have hsw5 := HBw5.out.size
  have Kow5 := hid (Kow4.out.below bw5)
  have Kiw5 := hid (Kiw4.out.below bw5)
  have Kaw5 := hid (Kaw4.out.below bw5)
  have Kbw5 := hid (Kbw4.out.below bw5)
  clear bw5
  go_wp2_with fail
  go_returns
  exact ⟨by first | rfl | simp, HBw5.out⟩
end Go.Proofs.YtkakoiaahgchmaaDoor
namespace Go.Proofs.YtkakoiaahgchmaaDoor
set_option maxRecDepth 100000
open Go.ChangeShapes Go.WideShapes Go.ChangeAt Go.RowKit
set_option maxHeartbeats 4000000 in
theorem extrees_ft_yy (o i c d e f : List Int) (aa ba : Option Addr) (an ac bn bc : Nat) (ns ms : List (List Int)) (w : World) (ho : Dg o) (hi : Dg i) (hc : Dg c) (hd : Dg d) (he : Dg e) (hf : Dg f) (hN : DigsAt w aa an ac ns) (hM : DigsAt w ba bn bc ms) (tab : ShaTab w) (hb1 : an ≤ 300) (hb2 : bn ≤ 300) (q1 : isSide o i false c d ns = true) (q2 : isSide o i true e f ms = true) :
    Calls Tryd.prog 5 #[.agg (o.map (Value.int .u8)).toArray, .agg (i.map (Value.int .u8)).toArray, .agg (sideC false c d (.slice aa an ac)).toArray, .agg (sideC true e f (.slice ba bn bc)).toArray] w fun e' w' => e' = .returned (.bool true) ∧ Below w.heap.size w w' := by
  have b1 := (Below.refl w.heap.size w).alloc (Nat.le_refl _) (.cells (o.map (Value.int .u8)).toArray 23 (0, 0))
  have b2 := b1.alloc b1.size (.cells (i.map (Value.int .u8)).toArray 23 (0, 0))
  have b3 := b2.alloc b2.size (.cells (sideC false c d (.slice aa an ac)).toArray 28 (0, 0))
  have b4 := b3.alloc b3.size (.cells (sideC true e f (.slice ba bn bc)).toArray 28 (0, 0))
  have Ko := hid ((((Blk.new (w := w) (n := w.heap.size) rfl (o.map (Value.int .u8)).toArray 23).old (.cells (i.map (Value.int .u8)).toArray 23 (0, 0))).old (.cells (sideC false c d (.slice aa an ac)).toArray 28 (0, 0))).old (.cells (sideC true e f (.slice ba bn bc)).toArray 28 (0, 0)))
  have Ki := hid (((Blk.new (w := (w.alloc (.cells (o.map (Value.int .u8)).toArray 23 (0, 0)))) (n := w.heap.size + 1) (by simp only [World.size_alloc]) (i.map (Value.int .u8)).toArray 23).old (.cells (sideC false c d (.slice aa an ac)).toArray 28 (0, 0))).old (.cells (sideC true e f (.slice ba bn bc)).toArray 28 (0, 0)))
  have Ka := hid ((Blk.new (w := ((w.alloc (.cells (o.map (Value.int .u8)).toArray 23 (0, 0))).alloc (.cells (i.map (Value.int .u8)).toArray 23 (0, 0)))) (n := w.heap.size + 1 + 1) (by simp only [World.size_alloc]) (sideC false c d (.slice aa an ac)).toArray 28).old (.cells (sideC true e f (.slice ba bn bc)).toArray 28 (0, 0)))
  have Kb := hid (Blk.new (w := (((w.alloc (.cells (o.map (Value.int .u8)).toArray 23 (0, 0))).alloc (.cells (i.map (Value.int .u8)).toArray 23 (0, 0))).alloc (.cells (sideC false c d (.slice aa an ac)).toArray 28 (0, 0)))) (n := w.heap.size + 1 + 1 + 1) (by simp only [World.size_alloc]) (sideC true e f (.slice ba bn bc)).toArray 28)
  have Hb := hid b4
  have hbz := b4.size
  have Hbs := hid (show w.heap.size + 1 + 1 + 1 + 1 = ((((w.alloc (.cells (o.map (Value.int .u8)).toArray 23 (0, 0))).alloc (.cells (i.map (Value.int .u8)).toArray 23 (0, 0))).alloc (.cells (sideC false c d (.slice aa an ac)).toArray 28 (0, 0))).alloc (.cells (sideC true e f (.slice ba bn bc)).toArray 28 (0, 0))).heap.size by simp only [World.size_alloc])
  have Htab := hid tab
  clear b1 b2 b3 b4 tab 
  have HN := hid hN
  have HM := hid hM
  have VV := hid (fun (W : World) (h1 : DigsAt W aa an ac ns) (h2 : DigsAt W ba bn bc ms) (h3 : ShaTab W) => trees_ft_both o i c d e f aa ba an ac bn bc ns ms W ho hi hc hd he hf h1 h2 h3 q1 q2)
  have I1 := hid (fun (W : World) (h1 : DigsAt W aa an ac ns) (h3 : ShaTab W) => absent_is o i c d aa an ac ns W ho hi hd h1 h3)
  rw [q1] at I1
  have I2 := hid (fun (W : World) (h1 : DigsAt W ba bn bc ms ) (h3 : ShaTab W) => present_is o i e f ba bn bc ms W ho hi he hf h1 h3)
  rw [q2] at I2
  have hca : ¬ (300 : Int) < (an : Int) := by omega
  have hcb : ¬ (300 : Int) < (bn : Int) := by omega
  clear hN hM
  have cna : ((((w.alloc (.cells (o.map (Value.int .u8)).toArray 23 (0, 0))).alloc (.cells (i.map (Value.int .u8)).toArray 23 (0, 0))).alloc (.cells (sideC false c d (.slice aa an ac)).toArray 28 (0, 0))).alloc (.cells (sideC true e f (.slice ba bn bc)).toArray 28 (0, 0))).cell? ⟨w.heap.size + 1 + 1, 33 + 32, none⟩ = some (.slice aa an ac) := sideC_nodes' hc hd Ka.out
  have cnb : ((((w.alloc (.cells (o.map (Value.int .u8)).toArray 23 (0, 0))).alloc (.cells (i.map (Value.int .u8)).toArray 23 (0, 0))).alloc (.cells (sideC false c d (.slice aa an ac)).toArray 28 (0, 0))).alloc (.cells (sideC true e f (.slice ba bn bc)).toArray 28 (0, 0))).cell? ⟨w.heap.size + 1 + 1 + 1, 33 + 32, none⟩ = some (.slice ba bn bc) := sideC_nodes' he hf Kb.out
  go_enter Tryd.func5, Tryd.ntmps5
  go_wp2_with (first
     | (refine wpList_load_blk rfl 23 _ rfl (w.heap.size) rfl _ 23 Ko.out _ Tryd.underlying23 rfl 32 size_digest ho.size ?_)
     | (refine wpList_load_blk rfl 23 _ rfl (w.heap.size + 1) rfl _ 23 Ki.out _ Tryd.underlying23 rfl 32 size_digest hi.size ?_)
     | (refine wpList_load_blk rfl 28 _ rfl (w.heap.size + 1 + 1) rfl _ 28 Ka.out _ Tryd.underlying28 rfl 66 size_side (sideC_size hc hd) ?_)
     | (refine wpList_load_blk rfl 28 _ rfl (w.heap.size + 1 + 1 + 1) rfl _ 28 Kb.out _ Tryd.underlying28 rfl 66 size_side (sideC_size he hf) ?_))
  clear cna cnb
  refine (VV.out _ (HN.out.below Hb.out) (HM.out.below Hb.out) (Htab.out.below Hb.out)).mono ?_
  rintro e' w1 ⟨u1, v1, X, Y, rfl, ⟨p5, m5, q5, rfl, hu5⟩, ⟨p6, m6, q6, rfl, hv5⟩, l1, l2, nxy, sxy, b1⟩
  have HU5 := hid hu5
  have HV5 := hid hv5
  have HL1 := hid l1
  have HL2 := hid l2
  have HNE := hid nxy
  have HSX := hid sxy
  have HBw1 := hid (Below.on Hb.out b1)
  have hsw1 := HBw1.out.size
  have Kow1 := hid (Ko.out.below b1)
  have Kiw1 := hid (Ki.out.below b1)
  have Kaw1 := hid (Ka.out.below b1)
  have Kbw1 := hid (Kb.out.below b1)
  clear b1 hu5 hv5 l1 l2 nxy sxy
  have cpa : w1.cell? ⟨w.heap.size + 1 + 1, 0, none⟩ = some (.bool false) := by rw [Kaw1.out.cell]; rfl
  have cpb : w1.cell? ⟨w.heap.size + 1 + 1 + 1, 0, none⟩ = some (.bool true) := by rw [Kbw1.out.cell]; rfl
  go_wp2_with (first
     | (with_reducible show wpList _ _ _ (⟨some 53, _, _, _, _, _⟩ :: _) _ _; refine wpList_load_blk_if (by first | rfl | go_simp) 23 _ rfl (w.heap.size) rfl _ 23 Kow1.out _ Tryd.underlying23 rfl 32 size_digest ho.size ?_)
     | (with_reducible show wpList _ _ _ (⟨some 54, _, _, _, _, _⟩ :: _) _ _; refine wpList_load_blk_if (by first | rfl | go_simp) 23 _ rfl (w.heap.size + 1) rfl _ 23 Kiw1.out _ Tryd.underlying23 rfl 32 size_digest hi.size ?_)
     | (with_reducible show wpList _ _ _ (⟨some 56, _, _, _, _, _⟩ :: _) _ _; refine wpList_load_mid_if (by first | rfl | go_simp) 26 _ rfl (w.heap.size + 1 + 1) 33 rfl _ _ (sideC_proof hc Kaw1.out) Tryd.underlying26 rfl (by rw [show (prC d (.slice aa an ac)).length = 33 by simp [prC, hd.len]]; exact size_proof) ?_))
  clear cpa cpb
  refine (I1.out _ (HN.out.below HBw1.out) (Htab.out.below HBw1.out)).mono ?_
  rintro e w2 ⟨rfl, bw2⟩
  have hbc2 := hid bw2
  have HBw2 := hid (Below.on HBw1.out bw2)
  have hsw2 := HBw2.out.size
  have Kow2 := hid (Kow1.out.below bw2)
  have Kiw2 := hid (Kiw1.out.below bw2)
  have Kaw2 := hid (Kaw1.out.below bw2)
  have Kbw2 := hid (Kbw1.out.below bw2)
  clear bw2
  have cpa : w2.cell? ⟨w.heap.size + 1 + 1, 0, none⟩ = some (.bool false) := by rw [Kaw2.out.cell]; rfl
  have cpb : w2.cell? ⟨w.heap.size + 1 + 1 + 1, 0, none⟩ = some (.bool true) := by rw [Kbw2.out.cell]; rfl
  go_wp2_with (first
     | (with_reducible show wpList _ _ _ (⟨some 63, _, _, _, _, _⟩ :: _) _ _; refine wpList_load_blk_if (by first | rfl | go_simp) 23 _ rfl (w.heap.size) rfl _ 23 Kow2.out _ Tryd.underlying23 rfl 32 size_digest ho.size ?_)
     | (with_reducible show wpList _ _ _ (⟨some 64, _, _, _, _, _⟩ :: _) _ _; refine wpList_load_blk_if (by first | rfl | go_simp) 23 _ rfl (w.heap.size + 1) rfl _ 23 Kiw2.out _ Tryd.underlying23 rfl 32 size_digest hi.size ?_)
     | (with_reducible show wpList _ _ _ (⟨some 66, _, _, _, _, _⟩ :: _) _ _; refine wpList_load_mid_if (by first | rfl | go_simp) 23 _ rfl (w.heap.size + 1 + 1 + 1) 1 rfl _ _ (sideC_com Kbw2.out) Tryd.underlying23 rfl (by rw [List.length_map, he.len]; exact size_digest) ?_)
     | (with_reducible show wpList _ _ _ (⟨some 68, _, _, _, _, _⟩ :: _) _ _; refine wpList_load_mid_if (by first | rfl | go_simp) 26 _ rfl (w.heap.size + 1 + 1 + 1) 33 rfl _ _ (sideC_proof he Kbw2.out) Tryd.underlying26 rfl (by rw [show (prC f (.slice ba bn bc)).length = 33 by simp [prC, hf.len]]; exact size_proof) ?_))
  clear cpa cpb
  refine (I2.out _ (HM.out.below HBw2.out) (Htab.out.below HBw2.out)).mono ?_
  rintro e w3 ⟨rfl, bw3⟩
  have hbc3 := Below.on hbc2.out bw3
  have HBw3 := hid (Below.on HBw2.out bw3)
  have hsw3 := HBw3.out.size
  have Kow3 := hid (Kow2.out.below bw3)
  have Kiw3 := hid (Kiw2.out.below bw3)
  have Kaw3 := hid (Kaw2.out.below bw3)
  have Kbw3 := hid (Kbw2.out.below bw3)
  clear bw3
  have cpa : w3.cell? ⟨w.heap.size + 1 + 1, 0, none⟩ = some (.bool false) := by rw [Kaw3.out.cell]; rfl
  have cpb : w3.cell? ⟨w.heap.size + 1 + 1 + 1, 0, none⟩ = some (.bool true) := by rw [Kbw3.out.cell]; rfl
  go_wp2_with fail
  clear cpa cpb
  have hu6 := HU5.out.below hbc3
  have hv6 := HV5.out.below hbc3
  have hlu := hu6.length
  have hlv := hv6.length
  have HL1 := HL1.out
  have HL2 := HL2.out
  refine (found_yes p5 p6 m5 m6 q5 q6 X Y _ hu6 hv6 (by omega) (by omega) HNE.out HSX.out).mono ?_
  rintro e' w7 ⟨rfl, b7⟩
  have HBw7 := hid (Below.on HBw3.out b7)
  have hsw7 := HBw7.out.size
  have Kow7 := hid (Kow3.out.below b7)
  have Kiw7 := hid (Kiw3.out.below b7)
  have Kaw7 := hid (Kaw3.out.below b7)
  have Kbw7 := hid (Kbw3.out.below b7)
  clear b7 hu6 hv6
  go_wp2_with fail
  refine (knows23 _ (Htab.out.below HBw7.out)).mono ?_
  rintro e w8 ⟨rfl, bw8⟩
  have HBw8 := hid (Below.on HBw7.out bw8)
  have hsw8 := HBw8.out.size
  have Kow8 := hid (Kow7.out.below bw8)
  have Kiw8 := hid (Kiw7.out.below bw8)
  have Kaw8 := hid (Kaw7.out.below bw8)
  have Kbw8 := hid (Kbw7.out.below bw8)
  clear bw8
  go_wp2_with fail
  go_returns
  exact ⟨by first | rfl | simp, HBw8.out⟩
set_option maxHeartbeats 4000000 in
theorem extrees_ft_yn (o i c d e f : List Int) (aa ba : Option Addr) (an ac bn bc : Nat) (ns ms : List (List Int)) (w : World) (ho : Dg o) (hi : Dg i) (hc : Dg c) (hd : Dg d) (he : Dg e) (hf : Dg f) (hN : DigsAt w aa an ac ns) (hM : DigsAt w ba bn bc ms) (tab : ShaTab w) (hb1 : an ≤ 300) (hb2 : bn ≤ 300) (q1 : isSide o i false c d ns = true) (q2 : isSide o i true e f ms = false) :
    Calls Tryd.prog 5 #[.agg (o.map (Value.int .u8)).toArray, .agg (i.map (Value.int .u8)).toArray, .agg (sideC false c d (.slice aa an ac)).toArray, .agg (sideC true e f (.slice ba bn bc)).toArray] w fun e' w' => e' = .returned (.bool true) ∧ Below w.heap.size w w' := by
  have b1 := (Below.refl w.heap.size w).alloc (Nat.le_refl _) (.cells (o.map (Value.int .u8)).toArray 23 (0, 0))
  have b2 := b1.alloc b1.size (.cells (i.map (Value.int .u8)).toArray 23 (0, 0))
  have b3 := b2.alloc b2.size (.cells (sideC false c d (.slice aa an ac)).toArray 28 (0, 0))
  have b4 := b3.alloc b3.size (.cells (sideC true e f (.slice ba bn bc)).toArray 28 (0, 0))
  have Ko := hid ((((Blk.new (w := w) (n := w.heap.size) rfl (o.map (Value.int .u8)).toArray 23).old (.cells (i.map (Value.int .u8)).toArray 23 (0, 0))).old (.cells (sideC false c d (.slice aa an ac)).toArray 28 (0, 0))).old (.cells (sideC true e f (.slice ba bn bc)).toArray 28 (0, 0)))
  have Ki := hid (((Blk.new (w := (w.alloc (.cells (o.map (Value.int .u8)).toArray 23 (0, 0)))) (n := w.heap.size + 1) (by simp only [World.size_alloc]) (i.map (Value.int .u8)).toArray 23).old (.cells (sideC false c d (.slice aa an ac)).toArray 28 (0, 0))).old (.cells (sideC true e f (.slice ba bn bc)).toArray 28 (0, 0)))
  have Ka := hid ((Blk.new (w := ((w.alloc (.cells (o.map (Value.int .u8)).toArray 23 (0, 0))).alloc (.cells (i.map (Value.int .u8)).toArray 23 (0, 0)))) (n := w.heap.size + 1 + 1) (by simp only [World.size_alloc]) (sideC false c d (.slice aa an ac)).toArray 28).old (.cells (sideC true e f (.slice ba bn bc)).toArray 28 (0, 0)))
  have Kb := hid (Blk.new (w := (((w.alloc (.cells (o.map (Value.int .u8)).toArray 23 (0, 0))).alloc (.cells (i.map (Value.int .u8)).toArray 23 (0, 0))).alloc (.cells (sideC false c d (.slice aa an ac)).toArray 28 (0, 0)))) (n := w.heap.size + 1 + 1 + 1) (by simp only [World.size_alloc]) (sideC true e f (.slice ba bn bc)).toArray 28)
  have Hb := hid b4
  have hbz := b4.size
  have Hbs := hid (show w.heap.size + 1 + 1 + 1 + 1 = ((((w.alloc (.cells (o.map (Value.int .u8)).toArray 23 (0, 0))).alloc (.cells (i.map (Value.int .u8)).toArray 23 (0, 0))).alloc (.cells (sideC false c d (.slice aa an ac)).toArray 28 (0, 0))).alloc (.cells (sideC true e f (.slice ba bn bc)).toArray 28 (0, 0))).heap.size by simp only [World.size_alloc])
  have Htab := hid tab
  clear b1 b2 b3 b4 tab 
  have HN := hid hN
  have HM := hid hM
  have VV := hid (fun (W : World) (h1 : DigsAt W aa an ac ns) (h2 : DigsAt W ba bn bc ms) (h3 : ShaTab W) => trees_ft_second o i c d e f aa ba an ac bn bc ns ms W ho hi hc hd he hf h1 h2 h3 q1 q2)
  have I1 := hid (fun (W : World) (h1 : DigsAt W aa an ac ns) (h3 : ShaTab W) => absent_is o i c d aa an ac ns W ho hi hd h1 h3)
  rw [q1] at I1
  have I2 := hid (fun (W : World) (h1 : DigsAt W ba bn bc ms ) (h3 : ShaTab W) => present_is o i e f ba bn bc ms W ho hi he hf h1 h3)
  rw [q2] at I2
  have hca : ¬ (300 : Int) < (an : Int) := by omega
  have hcb : ¬ (300 : Int) < (bn : Int) := by omega
  clear hN hM
  have cna : ((((w.alloc (.cells (o.map (Value.int .u8)).toArray 23 (0, 0))).alloc (.cells (i.map (Value.int .u8)).toArray 23 (0, 0))).alloc (.cells (sideC false c d (.slice aa an ac)).toArray 28 (0, 0))).alloc (.cells (sideC true e f (.slice ba bn bc)).toArray 28 (0, 0))).cell? ⟨w.heap.size + 1 + 1, 33 + 32, none⟩ = some (.slice aa an ac) := sideC_nodes' hc hd Ka.out
  have cnb : ((((w.alloc (.cells (o.map (Value.int .u8)).toArray 23 (0, 0))).alloc (.cells (i.map (Value.int .u8)).toArray 23 (0, 0))).alloc (.cells (sideC false c d (.slice aa an ac)).toArray 28 (0, 0))).alloc (.cells (sideC true e f (.slice ba bn bc)).toArray 28 (0, 0))).cell? ⟨w.heap.size + 1 + 1 + 1, 33 + 32, none⟩ = some (.slice ba bn bc) := sideC_nodes' he hf Kb.out
  go_enter Tryd.func5, Tryd.ntmps5
  go_wp2_with (first
     | (refine wpList_load_blk rfl 23 _ rfl (w.heap.size) rfl _ 23 Ko.out _ Tryd.underlying23 rfl 32 size_digest ho.size ?_)
     | (refine wpList_load_blk rfl 23 _ rfl (w.heap.size + 1) rfl _ 23 Ki.out _ Tryd.underlying23 rfl 32 size_digest hi.size ?_)
     | (refine wpList_load_blk rfl 28 _ rfl (w.heap.size + 1 + 1) rfl _ 28 Ka.out _ Tryd.underlying28 rfl 66 size_side (sideC_size hc hd) ?_)
     | (refine wpList_load_blk rfl 28 _ rfl (w.heap.size + 1 + 1 + 1) rfl _ 28 Kb.out _ Tryd.underlying28 rfl 66 size_side (sideC_size he hf) ?_))
  clear cna cnb
  refine (VV.out _ (HN.out.below Hb.out) (HM.out.below Hb.out) (Htab.out.below Hb.out)).mono ?_
  rintro e w1 ⟨rfl, bw1⟩
  have HBw1 := hid (Below.on Hb.out bw1)
  have hsw1 := HBw1.out.size
  have Kow1 := hid (Ko.out.below bw1)
  have Kiw1 := hid (Ki.out.below bw1)
  have Kaw1 := hid (Ka.out.below bw1)
  have Kbw1 := hid (Kb.out.below bw1)
  clear bw1
  have cpa : w1.cell? ⟨w.heap.size + 1 + 1, 0, none⟩ = some (.bool false) := by rw [Kaw1.out.cell]; rfl
  have cpb : w1.cell? ⟨w.heap.size + 1 + 1 + 1, 0, none⟩ = some (.bool true) := by rw [Kbw1.out.cell]; rfl
  go_wp2_with (first
     | (with_reducible show wpList _ _ _ (⟨some 53, _, _, _, _, _⟩ :: _) _ _; refine wpList_load_blk_if (by first | rfl | go_simp) 23 _ rfl (w.heap.size) rfl _ 23 Kow1.out _ Tryd.underlying23 rfl 32 size_digest ho.size ?_)
     | (with_reducible show wpList _ _ _ (⟨some 54, _, _, _, _, _⟩ :: _) _ _; refine wpList_load_blk_if (by first | rfl | go_simp) 23 _ rfl (w.heap.size + 1) rfl _ 23 Kiw1.out _ Tryd.underlying23 rfl 32 size_digest hi.size ?_)
     | (with_reducible show wpList _ _ _ (⟨some 56, _, _, _, _, _⟩ :: _) _ _; refine wpList_load_mid_if (by first | rfl | go_simp) 26 _ rfl (w.heap.size + 1 + 1) 33 rfl _ _ (sideC_proof hc Kaw1.out) Tryd.underlying26 rfl (by rw [show (prC d (.slice aa an ac)).length = 33 by simp [prC, hd.len]]; exact size_proof) ?_))
  clear cpa cpb
  refine (I1.out _ (HN.out.below HBw1.out) (Htab.out.below HBw1.out)).mono ?_
  rintro e w2 ⟨rfl, bw2⟩
  have HBw2 := hid (Below.on HBw1.out bw2)
  have hsw2 := HBw2.out.size
  have Kow2 := hid (Kow1.out.below bw2)
  have Kiw2 := hid (Kiw1.out.below bw2)
  have Kaw2 := hid (Kaw1.out.below bw2)
  have Kbw2 := hid (Kbw1.out.below bw2)
  clear bw2
  have cpa : w2.cell? ⟨w.heap.size + 1 + 1, 0, none⟩ = some (.bool false) := by rw [Kaw2.out.cell]; rfl
  have cpb : w2.cell? ⟨w.heap.size + 1 + 1 + 1, 0, none⟩ = some (.bool true) := by rw [Kbw2.out.cell]; rfl
  go_wp2_with (first
     | (with_reducible show wpList _ _ _ (⟨some 63, _, _, _, _, _⟩ :: _) _ _; refine wpList_load_blk_if (by first | rfl | go_simp) 23 _ rfl (w.heap.size) rfl _ 23 Kow2.out _ Tryd.underlying23 rfl 32 size_digest ho.size ?_)
     | (with_reducible show wpList _ _ _ (⟨some 64, _, _, _, _, _⟩ :: _) _ _; refine wpList_load_blk_if (by first | rfl | go_simp) 23 _ rfl (w.heap.size + 1) rfl _ 23 Kiw2.out _ Tryd.underlying23 rfl 32 size_digest hi.size ?_)
     | (with_reducible show wpList _ _ _ (⟨some 66, _, _, _, _, _⟩ :: _) _ _; refine wpList_load_mid_if (by first | rfl | go_simp) 23 _ rfl (w.heap.size + 1 + 1 + 1) 1 rfl _ _ (sideC_com Kbw2.out) Tryd.underlying23 rfl (by rw [List.length_map, he.len]; exact size_digest) ?_)
     | (with_reducible show wpList _ _ _ (⟨some 68, _, _, _, _, _⟩ :: _) _ _; refine wpList_load_mid_if (by first | rfl | go_simp) 26 _ rfl (w.heap.size + 1 + 1 + 1) 33 rfl _ _ (sideC_proof he Kbw2.out) Tryd.underlying26 rfl (by rw [show (prC f (.slice ba bn bc)).length = 33 by simp [prC, hf.len]]; exact size_proof) ?_))
  clear cpa cpb
  refine (I2.out _ (HM.out.below HBw2.out) (Htab.out.below HBw2.out)).mono ?_
  rintro e w3 ⟨rfl, bw3⟩
  have HBw3 := hid (Below.on HBw2.out bw3)
  have hsw3 := HBw3.out.size
  have Kow3 := hid (Kow2.out.below bw3)
  have Kiw3 := hid (Kiw2.out.below bw3)
  have Kaw3 := hid (Kaw2.out.below bw3)
  have Kbw3 := hid (Kbw2.out.below bw3)
  clear bw3
  have cpa : w3.cell? ⟨w.heap.size + 1 + 1, 0, none⟩ = some (.bool false) := by rw [Kaw3.out.cell]; rfl
  have cpb : w3.cell? ⟨w.heap.size + 1 + 1 + 1, 0, none⟩ = some (.bool true) := by rw [Kbw3.out.cell]; rfl
  go_wp2_with fail
  clear cpa cpb
  refine (lnone_yes _).mono ?_
  rintro e w4 ⟨rfl, bw4⟩
  have HBw4 := hid (Below.on HBw3.out bw4)
  have hsw4 := HBw4.out.size
  have Kow4 := hid (Kow3.out.below bw4)
  have Kiw4 := hid (Kiw3.out.below bw4)
  have Kaw4 := hid (Kaw3.out.below bw4)
  have Kbw4 := hid (Kbw3.out.below bw4)
  clear bw4
  go_wp2_with fail
  refine (knows23 _ (Htab.out.below HBw4.out)).mono ?_
  rintro e w5 ⟨rfl, bw5⟩
  have HBw5 := hid (Below.on HBw4.out bw5)
  have hsw5 := HBw5.out.size
  have Kow5 := hid (Kow4.out.below bw5)
  have Kiw5 := hid (Kiw4.out.below bw5)
  have Kaw5 := hid (Kaw4.out.below bw5)
  have Kbw5 := hid (Kbw4.out.below bw5)
  clear bw5
  go_wp2_with fail
  go_returns
  exact ⟨by first | rfl | simp, HBw5.out⟩
set_option maxHeartbeats 4000000 in
theorem extrees_ft_ny (o i c d e f : List Int) (aa ba : Option Addr) (an ac bn bc : Nat) (ns ms : List (List Int)) (w : World) (ho : Dg o) (hi : Dg i) (hc : Dg c) (hd : Dg d) (he : Dg e) (hf : Dg f) (hN : DigsAt w aa an ac ns) (hM : DigsAt w ba bn bc ms) (tab : ShaTab w) (hb1 : an ≤ 300) (hb2 : bn ≤ 300) (q1 : isSide o i false c d ns = false) (q2 : isSide o i true e f ms = true) :
    Calls Tryd.prog 5 #[.agg (o.map (Value.int .u8)).toArray, .agg (i.map (Value.int .u8)).toArray, .agg (sideC false c d (.slice aa an ac)).toArray, .agg (sideC true e f (.slice ba bn bc)).toArray] w fun e' w' => e' = .returned (.bool true) ∧ Below w.heap.size w w' := by
  have b1 := (Below.refl w.heap.size w).alloc (Nat.le_refl _) (.cells (o.map (Value.int .u8)).toArray 23 (0, 0))
  have b2 := b1.alloc b1.size (.cells (i.map (Value.int .u8)).toArray 23 (0, 0))
  have b3 := b2.alloc b2.size (.cells (sideC false c d (.slice aa an ac)).toArray 28 (0, 0))
  have b4 := b3.alloc b3.size (.cells (sideC true e f (.slice ba bn bc)).toArray 28 (0, 0))
  have Ko := hid ((((Blk.new (w := w) (n := w.heap.size) rfl (o.map (Value.int .u8)).toArray 23).old (.cells (i.map (Value.int .u8)).toArray 23 (0, 0))).old (.cells (sideC false c d (.slice aa an ac)).toArray 28 (0, 0))).old (.cells (sideC true e f (.slice ba bn bc)).toArray 28 (0, 0)))
  have Ki := hid (((Blk.new (w := (w.alloc (.cells (o.map (Value.int .u8)).toArray 23 (0, 0)))) (n := w.heap.size + 1) (by simp only [World.size_alloc]) (i.map (Value.int .u8)).toArray 23).old (.cells (sideC false c d (.slice aa an ac)).toArray 28 (0, 0))).old (.cells (sideC true e f (.slice ba bn bc)).toArray 28 (0, 0)))
  have Ka := hid ((Blk.new (w := ((w.alloc (.cells (o.map (Value.int .u8)).toArray 23 (0, 0))).alloc (.cells (i.map (Value.int .u8)).toArray 23 (0, 0)))) (n := w.heap.size + 1 + 1) (by simp only [World.size_alloc]) (sideC false c d (.slice aa an ac)).toArray 28).old (.cells (sideC true e f (.slice ba bn bc)).toArray 28 (0, 0)))
  have Kb := hid (Blk.new (w := (((w.alloc (.cells (o.map (Value.int .u8)).toArray 23 (0, 0))).alloc (.cells (i.map (Value.int .u8)).toArray 23 (0, 0))).alloc (.cells (sideC false c d (.slice aa an ac)).toArray 28 (0, 0)))) (n := w.heap.size + 1 + 1 + 1) (by simp only [World.size_alloc]) (sideC true e f (.slice ba bn bc)).toArray 28)
  have Hb := hid b4
  have hbz := b4.size
  have Hbs := hid (show w.heap.size + 1 + 1 + 1 + 1 = ((((w.alloc (.cells (o.map (Value.int .u8)).toArray 23 (0, 0))).alloc (.cells (i.map (Value.int .u8)).toArray 23 (0, 0))).alloc (.cells (sideC false c d (.slice aa an ac)).toArray 28 (0, 0))).alloc (.cells (sideC true e f (.slice ba bn bc)).toArray 28 (0, 0))).heap.size by simp only [World.size_alloc])
  have Htab := hid tab
  clear b1 b2 b3 b4 tab 
  have HN := hid hN
  have HM := hid hM
  have VV := hid (fun (W : World) (h1 : DigsAt W aa an ac ns) (h2 : DigsAt W ba bn bc ms) (h3 : ShaTab W) => trees_ft_first o i c d e f aa ba an ac bn bc ns ms W ho hi hc hd he hf h1 h2 h3 q1)
  have I1 := hid (fun (W : World) (h1 : DigsAt W aa an ac ns) (h3 : ShaTab W) => absent_is o i c d aa an ac ns W ho hi hd h1 h3)
  rw [q1] at I1
  have I2 := hid (fun (W : World) (h1 : DigsAt W ba bn bc ms ) (h3 : ShaTab W) => present_is o i e f ba bn bc ms W ho hi he hf h1 h3)
  rw [q2] at I2
  have hca : ¬ (300 : Int) < (an : Int) := by omega
  have hcb : ¬ (300 : Int) < (bn : Int) := by omega
  clear hN hM
  have cna : ((((w.alloc (.cells (o.map (Value.int .u8)).toArray 23 (0, 0))).alloc (.cells (i.map (Value.int .u8)).toArray 23 (0, 0))).alloc (.cells (sideC false c d (.slice aa an ac)).toArray 28 (0, 0))).alloc (.cells (sideC true e f (.slice ba bn bc)).toArray 28 (0, 0))).cell? ⟨w.heap.size + 1 + 1, 33 + 32, none⟩ = some (.slice aa an ac) := sideC_nodes' hc hd Ka.out
  have cnb : ((((w.alloc (.cells (o.map (Value.int .u8)).toArray 23 (0, 0))).alloc (.cells (i.map (Value.int .u8)).toArray 23 (0, 0))).alloc (.cells (sideC false c d (.slice aa an ac)).toArray 28 (0, 0))).alloc (.cells (sideC true e f (.slice ba bn bc)).toArray 28 (0, 0))).cell? ⟨w.heap.size + 1 + 1 + 1, 33 + 32, none⟩ = some (.slice ba bn bc) := sideC_nodes' he hf Kb.out
  go_enter Tryd.func5, Tryd.ntmps5
  go_wp2_with (first
     | (refine wpList_load_blk rfl 23 _ rfl (w.heap.size) rfl _ 23 Ko.out _ Tryd.underlying23 rfl 32 size_digest ho.size ?_)
     | (refine wpList_load_blk rfl 23 _ rfl (w.heap.size + 1) rfl _ 23 Ki.out _ Tryd.underlying23 rfl 32 size_digest hi.size ?_)
     | (refine wpList_load_blk rfl 28 _ rfl (w.heap.size + 1 + 1) rfl _ 28 Ka.out _ Tryd.underlying28 rfl 66 size_side (sideC_size hc hd) ?_)
     | (refine wpList_load_blk rfl 28 _ rfl (w.heap.size + 1 + 1 + 1) rfl _ 28 Kb.out _ Tryd.underlying28 rfl 66 size_side (sideC_size he hf) ?_))
  clear cna cnb
  refine (VV.out _ (HN.out.below Hb.out) (HM.out.below Hb.out) (Htab.out.below Hb.out)).mono ?_
  rintro e w1 ⟨rfl, bw1⟩
  have HBw1 := hid (Below.on Hb.out bw1)
  have hsw1 := HBw1.out.size
  have Kow1 := hid (Ko.out.below bw1)
  have Kiw1 := hid (Ki.out.below bw1)
  have Kaw1 := hid (Ka.out.below bw1)
  have Kbw1 := hid (Kb.out.below bw1)
  clear bw1
  have cpa : w1.cell? ⟨w.heap.size + 1 + 1, 0, none⟩ = some (.bool false) := by rw [Kaw1.out.cell]; rfl
  have cpb : w1.cell? ⟨w.heap.size + 1 + 1 + 1, 0, none⟩ = some (.bool true) := by rw [Kbw1.out.cell]; rfl
  go_wp2_with (first
     | (with_reducible show wpList _ _ _ (⟨some 53, _, _, _, _, _⟩ :: _) _ _; refine wpList_load_blk_if (by first | rfl | go_simp) 23 _ rfl (w.heap.size) rfl _ 23 Kow1.out _ Tryd.underlying23 rfl 32 size_digest ho.size ?_)
     | (with_reducible show wpList _ _ _ (⟨some 54, _, _, _, _, _⟩ :: _) _ _; refine wpList_load_blk_if (by first | rfl | go_simp) 23 _ rfl (w.heap.size + 1) rfl _ 23 Kiw1.out _ Tryd.underlying23 rfl 32 size_digest hi.size ?_)
     | (with_reducible show wpList _ _ _ (⟨some 56, _, _, _, _, _⟩ :: _) _ _; refine wpList_load_mid_if (by first | rfl | go_simp) 26 _ rfl (w.heap.size + 1 + 1) 33 rfl _ _ (sideC_proof hc Kaw1.out) Tryd.underlying26 rfl (by rw [show (prC d (.slice aa an ac)).length = 33 by simp [prC, hd.len]]; exact size_proof) ?_))
  clear cpa cpb
  refine (I1.out _ (HN.out.below HBw1.out) (Htab.out.below HBw1.out)).mono ?_
  rintro e w2 ⟨rfl, bw2⟩
  have HBw2 := hid (Below.on HBw1.out bw2)
  have hsw2 := HBw2.out.size
  have Kow2 := hid (Kow1.out.below bw2)
  have Kiw2 := hid (Kiw1.out.below bw2)
  have Kaw2 := hid (Kaw1.out.below bw2)
  have Kbw2 := hid (Kbw1.out.below bw2)
  clear bw2
  have cpa : w2.cell? ⟨w.heap.size + 1 + 1, 0, none⟩ = some (.bool false) := by rw [Kaw2.out.cell]; rfl
  have cpb : w2.cell? ⟨w.heap.size + 1 + 1 + 1, 0, none⟩ = some (.bool true) := by rw [Kbw2.out.cell]; rfl
  go_wp2_with (first
     | (with_reducible show wpList _ _ _ (⟨some 63, _, _, _, _, _⟩ :: _) _ _; refine wpList_load_blk_if (by first | rfl | go_simp) 23 _ rfl (w.heap.size) rfl _ 23 Kow2.out _ Tryd.underlying23 rfl 32 size_digest ho.size ?_)
     | (with_reducible show wpList _ _ _ (⟨some 64, _, _, _, _, _⟩ :: _) _ _; refine wpList_load_blk_if (by first | rfl | go_simp) 23 _ rfl (w.heap.size + 1) rfl _ 23 Kiw2.out _ Tryd.underlying23 rfl 32 size_digest hi.size ?_)
     | (with_reducible show wpList _ _ _ (⟨some 66, _, _, _, _, _⟩ :: _) _ _; refine wpList_load_mid_if (by first | rfl | go_simp) 23 _ rfl (w.heap.size + 1 + 1 + 1) 1 rfl _ _ (sideC_com Kbw2.out) Tryd.underlying23 rfl (by rw [List.length_map, he.len]; exact size_digest) ?_)
     | (with_reducible show wpList _ _ _ (⟨some 68, _, _, _, _, _⟩ :: _) _ _; refine wpList_load_mid_if (by first | rfl | go_simp) 26 _ rfl (w.heap.size + 1 + 1 + 1) 33 rfl _ _ (sideC_proof he Kbw2.out) Tryd.underlying26 rfl (by rw [show (prC f (.slice ba bn bc)).length = 33 by simp [prC, hf.len]]; exact size_proof) ?_))
  clear cpa cpb
  refine (I2.out _ (HM.out.below HBw2.out) (Htab.out.below HBw2.out)).mono ?_
  rintro e w3 ⟨rfl, bw3⟩
  have HBw3 := hid (Below.on HBw2.out bw3)
  have hsw3 := HBw3.out.size
  have Kow3 := hid (Kow2.out.below bw3)
  have Kiw3 := hid (Kiw2.out.below bw3)
  have Kaw3 := hid (Kaw2.out.below bw3)
  have Kbw3 := hid (Kbw2.out.below bw3)
  clear bw3
  have cpa : w3.cell? ⟨w.heap.size + 1 + 1, 0, none⟩ = some (.bool false) := by rw [Kaw3.out.cell]; rfl
  have cpb : w3.cell? ⟨w.heap.size + 1 + 1 + 1, 0, none⟩ = some (.bool true) := by rw [Kbw3.out.cell]; rfl
  go_wp2_with fail
  clear cpa cpb
  refine (lnone_yes _).mono ?_
  rintro e w4 ⟨rfl, bw4⟩
  have HBw4 := hid (Below.on HBw3.out bw4)
  have hsw4 := HBw4.out.size
  have Kow4 := hid (Kow3.out.below bw4)
  have Kiw4 := hid (Kiw3.out.below bw4)
  have Kaw4 := hid (Kaw3.out.below bw4)
  have Kbw4 := hid (Kbw3.out.below bw4)
  clear bw4
  go_wp2_with fail
  refine (knows23 _ (Htab.out.below HBw4.out)).mono ?_
  rintro e w5 ⟨rfl, bw5⟩
  have HBw5 := hid (Below.on HBw4.out bw5)
  have hsw5 := HBw5.out.size
  have Kow5 := hid (Kow4.out.below bw5)
  have Kiw5 := hid (Kiw4.out.below bw5)
  have Kaw5 := hid (Kaw4.out.below bw5)
  have Kbw5 := hid (Kbw4.out.below bw5)
  clear bw5
  go_wp2_with fail
  go_returns
  exact ⟨by first | rfl | simp, HBw5.out⟩
set_option maxHeartbeats 4000000 in
theorem extrees_ft_nn (o i c d e f : List Int) (aa ba : Option Addr) (an ac bn bc : Nat) (ns ms : List (List Int)) (w : World) (ho : Dg o) (hi : Dg i) (hc : Dg c) (hd : Dg d) (he : Dg e) (hf : Dg f) (hN : DigsAt w aa an ac ns) (hM : DigsAt w ba bn bc ms) (tab : ShaTab w) (hb1 : an ≤ 300) (hb2 : bn ≤ 300) (q1 : isSide o i false c d ns = false) (q2 : isSide o i true e f ms = false) :
    Calls Tryd.prog 5 #[.agg (o.map (Value.int .u8)).toArray, .agg (i.map (Value.int .u8)).toArray, .agg (sideC false c d (.slice aa an ac)).toArray, .agg (sideC true e f (.slice ba bn bc)).toArray] w fun e' w' => e' = .returned (.bool true) ∧ Below w.heap.size w w' := by
  have b1 := (Below.refl w.heap.size w).alloc (Nat.le_refl _) (.cells (o.map (Value.int .u8)).toArray 23 (0, 0))
  have b2 := b1.alloc b1.size (.cells (i.map (Value.int .u8)).toArray 23 (0, 0))
  have b3 := b2.alloc b2.size (.cells (sideC false c d (.slice aa an ac)).toArray 28 (0, 0))
  have b4 := b3.alloc b3.size (.cells (sideC true e f (.slice ba bn bc)).toArray 28 (0, 0))
  have Ko := hid ((((Blk.new (w := w) (n := w.heap.size) rfl (o.map (Value.int .u8)).toArray 23).old (.cells (i.map (Value.int .u8)).toArray 23 (0, 0))).old (.cells (sideC false c d (.slice aa an ac)).toArray 28 (0, 0))).old (.cells (sideC true e f (.slice ba bn bc)).toArray 28 (0, 0)))
  have Ki := hid (((Blk.new (w := (w.alloc (.cells (o.map (Value.int .u8)).toArray 23 (0, 0)))) (n := w.heap.size + 1) (by simp only [World.size_alloc]) (i.map (Value.int .u8)).toArray 23).old (.cells (sideC false c d (.slice aa an ac)).toArray 28 (0, 0))).old (.cells (sideC true e f (.slice ba bn bc)).toArray 28 (0, 0)))
  have Ka := hid ((Blk.new (w := ((w.alloc (.cells (o.map (Value.int .u8)).toArray 23 (0, 0))).alloc (.cells (i.map (Value.int .u8)).toArray 23 (0, 0)))) (n := w.heap.size + 1 + 1) (by simp only [World.size_alloc]) (sideC false c d (.slice aa an ac)).toArray 28).old (.cells (sideC true e f (.slice ba bn bc)).toArray 28 (0, 0)))
  have Kb := hid (Blk.new (w := (((w.alloc (.cells (o.map (Value.int .u8)).toArray 23 (0, 0))).alloc (.cells (i.map (Value.int .u8)).toArray 23 (0, 0))).alloc (.cells (sideC false c d (.slice aa an ac)).toArray 28 (0, 0)))) (n := w.heap.size + 1 + 1 + 1) (by simp only [World.size_alloc]) (sideC true e f (.slice ba bn bc)).toArray 28)
  have Hb := hid b4
  have hbz := b4.size
  have Hbs := hid (show w.heap.size + 1 + 1 + 1 + 1 = ((((w.alloc (.cells (o.map (Value.int .u8)).toArray 23 (0, 0))).alloc (.cells (i.map (Value.int .u8)).toArray 23 (0, 0))).alloc (.cells (sideC false c d (.slice aa an ac)).toArray 28 (0, 0))).alloc (.cells (sideC true e f (.slice ba bn bc)).toArray 28 (0, 0))).heap.size by simp only [World.size_alloc])
  have Htab := hid tab
  clear b1 b2 b3 b4 tab 
  have HN := hid hN
  have HM := hid hM
  have VV := hid (fun (W : World) (h1 : DigsAt W aa an ac ns) (h2 : DigsAt W ba bn bc ms) (h3 : ShaTab W) => trees_ft_first o i c d e f aa ba an ac bn bc ns ms W ho hi hc hd he hf h1 h2 h3 q1)
  have I1 := hid (fun (W : World) (h1 : DigsAt W aa an ac ns) (h3 : ShaTab W) => absent_is o i c d aa an ac ns W ho hi hd h1 h3)
  rw [q1] at I1
  have I2 := hid (fun (W : World) (h1 : DigsAt W ba bn bc ms ) (h3 : ShaTab W) => present_is o i e f ba bn bc ms W ho hi he hf h1 h3)
  rw [q2] at I2
  have hca : ¬ (300 : Int) < (an : Int) := by omega
  have hcb : ¬ (300 : Int) < (bn : Int) := by omega
  clear hN hM
  have cna : ((((w.alloc (.cells (o.map (Value.int .u8)).toArray 23 (0, 0))).alloc (.cells (i.map (Value.int .u8)).toArray 23 (0, 0))).alloc (.cells (sideC false c d (.slice aa an ac)).toArray 28 (0, 0))).alloc (.cells (sideC true e f (.slice ba bn bc)).toArray 28 (0, 0))).cell? ⟨w.heap.size + 1 + 1, 33 + 32, none⟩ = some (.slice aa an ac) := sideC_nodes' hc hd Ka.out
  have cnb : ((((w.alloc (.cells (o.map (Value.int .u8)).toArray 23 (0, 0))).alloc (.cells (i.map (Value.int .u8)).toArray 23 (0, 0))).alloc (.cells (sideC false c d (.slice aa an ac)).toArray 28 (0, 0))).alloc (.cells (sideC true e f (.slice ba bn bc)).toArray 28 (0, 0))).cell? ⟨w.heap.size + 1 + 1 + 1, 33 + 32, none⟩ = some (.slice ba bn bc) := sideC_nodes' he hf Kb.out
  go_enter Tryd.func5, Tryd.ntmps5
  go_wp2_with (first
     | (refine wpList_load_blk rfl 23 _ rfl (w.heap.size) rfl _ 23 Ko.out _ Tryd.underlying23 rfl 32 size_digest ho.size ?_)
     | (refine wpList_load_blk rfl 23 _ rfl (w.heap.size + 1) rfl _ 23 Ki.out _ Tryd.underlying23 rfl 32 size_digest hi.size ?_)
     | (refine wpList_load_blk rfl 28 _ rfl (w.heap.size + 1 + 1) rfl _ 28 Ka.out _ Tryd.underlying28 rfl 66 size_side (sideC_size hc hd) ?_)
     | (refine wpList_load_blk rfl 28 _ rfl (w.heap.size + 1 + 1 + 1) rfl _ 28 Kb.out _ Tryd.underlying28 rfl 66 size_side (sideC_size he hf) ?_))
  clear cna cnb
  refine (VV.out _ (HN.out.below Hb.out) (HM.out.below Hb.out) (Htab.out.below Hb.out)).mono ?_
  rintro e w1 ⟨rfl, bw1⟩
  have HBw1 := hid (Below.on Hb.out bw1)
  have hsw1 := HBw1.out.size
  have Kow1 := hid (Ko.out.below bw1)
  have Kiw1 := hid (Ki.out.below bw1)
  have Kaw1 := hid (Ka.out.below bw1)
  have Kbw1 := hid (Kb.out.below bw1)
  clear bw1
  have cpa : w1.cell? ⟨w.heap.size + 1 + 1, 0, none⟩ = some (.bool false) := by rw [Kaw1.out.cell]; rfl
  have cpb : w1.cell? ⟨w.heap.size + 1 + 1 + 1, 0, none⟩ = some (.bool true) := by rw [Kbw1.out.cell]; rfl
  go_wp2_with (first
     | (with_reducible show wpList _ _ _ (⟨some 53, _, _, _, _, _⟩ :: _) _ _; refine wpList_load_blk_if (by first | rfl | go_simp) 23 _ rfl (w.heap.size) rfl _ 23 Kow1.out _ Tryd.underlying23 rfl 32 size_digest ho.size ?_)
     | (with_reducible show wpList _ _ _ (⟨some 54, _, _, _, _, _⟩ :: _) _ _; refine wpList_load_blk_if (by first | rfl | go_simp) 23 _ rfl (w.heap.size + 1) rfl _ 23 Kiw1.out _ Tryd.underlying23 rfl 32 size_digest hi.size ?_)
     | (with_reducible show wpList _ _ _ (⟨some 56, _, _, _, _, _⟩ :: _) _ _; refine wpList_load_mid_if (by first | rfl | go_simp) 26 _ rfl (w.heap.size + 1 + 1) 33 rfl _ _ (sideC_proof hc Kaw1.out) Tryd.underlying26 rfl (by rw [show (prC d (.slice aa an ac)).length = 33 by simp [prC, hd.len]]; exact size_proof) ?_))
  clear cpa cpb
  refine (I1.out _ (HN.out.below HBw1.out) (Htab.out.below HBw1.out)).mono ?_
  rintro e w2 ⟨rfl, bw2⟩
  have HBw2 := hid (Below.on HBw1.out bw2)
  have hsw2 := HBw2.out.size
  have Kow2 := hid (Kow1.out.below bw2)
  have Kiw2 := hid (Kiw1.out.below bw2)
  have Kaw2 := hid (Kaw1.out.below bw2)
  have Kbw2 := hid (Kbw1.out.below bw2)
  clear bw2
  have cpa : w2.cell? ⟨w.heap.size + 1 + 1, 0, none⟩ = some (.bool false) := by rw [Kaw2.out.cell]; rfl
  have cpb : w2.cell? ⟨w.heap.size + 1 + 1 + 1, 0, none⟩ = some (.bool true) := by rw [Kbw2.out.cell]; rfl
  go_wp2_with (first
     | (with_reducible show wpList _ _ _ (⟨some 63, _, _, _, _, _⟩ :: _) _ _; refine wpList_load_blk_if (by first | rfl | go_simp) 23 _ rfl (w.heap.size) rfl _ 23 Kow2.out _ Tryd.underlying23 rfl 32 size_digest ho.size ?_)
     | (with_reducible show wpList _ _ _ (⟨some 64, _, _, _, _, _⟩ :: _) _ _; refine wpList_load_blk_if (by first | rfl | go_simp) 23 _ rfl (w.heap.size + 1) rfl _ 23 Kiw2.out _ Tryd.underlying23 rfl 32 size_digest hi.size ?_)
     | (with_reducible show wpList _ _ _ (⟨some 66, _, _, _, _, _⟩ :: _) _ _; refine wpList_load_mid_if (by first | rfl | go_simp) 23 _ rfl (w.heap.size + 1 + 1 + 1) 1 rfl _ _ (sideC_com Kbw2.out) Tryd.underlying23 rfl (by rw [List.length_map, he.len]; exact size_digest) ?_)
     | (with_reducible show wpList _ _ _ (⟨some 68, _, _, _, _, _⟩ :: _) _ _; refine wpList_load_mid_if (by first | rfl | go_simp) 26 _ rfl (w.heap.size + 1 + 1 + 1) 33 rfl _ _ (sideC_proof he Kbw2.out) Tryd.underlying26 rfl (by rw [show (prC f (.slice ba bn bc)).length = 33 by simp [prC, hf.len]]; exact size_proof) ?_))
  clear cpa cpb
  refine (I2.out _ (HM.out.below HBw2.out) (Htab.out.below HBw2.out)).mono ?_
  rintro e w3 ⟨rfl, bw3⟩
  have HBw3 := hid (Below.on HBw2.out bw3)
  have hsw3 := HBw3.out.size
  have Kow3 := hid (Kow2.out.below bw3)
  have Kiw3 := hid (Kiw2.out.below bw3)
  have Kaw3 := hid (Kaw2.out.below bw3)
  have Kbw3 := hid (Kbw2.out.below bw3)
  clear bw3
  have cpa : w3.cell? ⟨w.heap.size + 1 + 1, 0, none⟩ = some (.bool false) := by rw [Kaw3.out.cell]; rfl
  have cpb : w3.cell? ⟨w.heap.size + 1 + 1 + 1, 0, none⟩ = some (.bool true) := by rw [Kbw3.out.cell]; rfl
  go_wp2_with fail
  clear cpa cpb
  refine (lnone_yes _).mono ?_
  rintro e w4 ⟨rfl, bw4⟩
  have HBw4 := hid (Below.on HBw3.out bw4)
  have hsw4 := HBw4.out.size
  have Kow4 := hid (Kow3.out.below bw4)
  have Kiw4 := hid (Kiw3.out.below bw4)
  have Kaw4 := hid (Kaw3.out.below bw4)
  have Kbw4 := hid (Kbw3.out.below bw4)
  clear bw4
  go_wp2_with fail
  refine (knows23 _ (Htab.out.below HBw4.out)).mono ?_
  rintro e w5 ⟨rfl, bw5⟩
  have HBw5 := hid (Below.on HBw4.out bw5)
  have hsw5 := HBw5.out.size
  have Kow5 := hid (Kow4.out.below bw5)
  have Kiw5 := hid (Kiw4.out.below bw5)
  have Kaw5 := hid (Kaw4.out.below bw5)
  have Kbw5 := hid (Kbw4.out.below bw5)
  clear bw5
  go_wp2_with fail
  go_returns
  exact ⟨by first | rfl | simp, HBw5.out⟩
end Go.Proofs.YtkakoiaahgchmaaDoor
namespace Go.Proofs.YtkakoiaahgchmaaDoor
set_option maxRecDepth 100000
open Go.ChangeShapes Go.WideShapes Go.ChangeAt Go.RowKit
set_option maxHeartbeats 4000000 in
theorem extrees_ff_yy (o i c d e f : List Int) (aa ba : Option Addr) (an ac bn bc : Nat) (ns ms : List (List Int)) (w : World) (ho : Dg o) (hi : Dg i) (hc : Dg c) (hd : Dg d) (he : Dg e) (hf : Dg f) (hN : DigsAt w aa an ac ns) (hM : DigsAt w ba bn bc ms) (tab : ShaTab w) (hb1 : an ≤ 300) (hb2 : bn ≤ 300) (q1 : isSide o i false c d ns = true) (q2 : isSide o i false e f ms = true) :
    Calls Tryd.prog 5 #[.agg (o.map (Value.int .u8)).toArray, .agg (i.map (Value.int .u8)).toArray, .agg (sideC false c d (.slice aa an ac)).toArray, .agg (sideC false e f (.slice ba bn bc)).toArray] w fun e' w' => e' = .returned (.bool true) ∧ Below w.heap.size w w' := by
  have b1 := (Below.refl w.heap.size w).alloc (Nat.le_refl _) (.cells (o.map (Value.int .u8)).toArray 23 (0, 0))
  have b2 := b1.alloc b1.size (.cells (i.map (Value.int .u8)).toArray 23 (0, 0))
  have b3 := b2.alloc b2.size (.cells (sideC false c d (.slice aa an ac)).toArray 28 (0, 0))
  have b4 := b3.alloc b3.size (.cells (sideC false e f (.slice ba bn bc)).toArray 28 (0, 0))
  have Ko := hid ((((Blk.new (w := w) (n := w.heap.size) rfl (o.map (Value.int .u8)).toArray 23).old (.cells (i.map (Value.int .u8)).toArray 23 (0, 0))).old (.cells (sideC false c d (.slice aa an ac)).toArray 28 (0, 0))).old (.cells (sideC false e f (.slice ba bn bc)).toArray 28 (0, 0)))
  have Ki := hid (((Blk.new (w := (w.alloc (.cells (o.map (Value.int .u8)).toArray 23 (0, 0)))) (n := w.heap.size + 1) (by simp only [World.size_alloc]) (i.map (Value.int .u8)).toArray 23).old (.cells (sideC false c d (.slice aa an ac)).toArray 28 (0, 0))).old (.cells (sideC false e f (.slice ba bn bc)).toArray 28 (0, 0)))
  have Ka := hid ((Blk.new (w := ((w.alloc (.cells (o.map (Value.int .u8)).toArray 23 (0, 0))).alloc (.cells (i.map (Value.int .u8)).toArray 23 (0, 0)))) (n := w.heap.size + 1 + 1) (by simp only [World.size_alloc]) (sideC false c d (.slice aa an ac)).toArray 28).old (.cells (sideC false e f (.slice ba bn bc)).toArray 28 (0, 0)))
  have Kb := hid (Blk.new (w := (((w.alloc (.cells (o.map (Value.int .u8)).toArray 23 (0, 0))).alloc (.cells (i.map (Value.int .u8)).toArray 23 (0, 0))).alloc (.cells (sideC false c d (.slice aa an ac)).toArray 28 (0, 0)))) (n := w.heap.size + 1 + 1 + 1) (by simp only [World.size_alloc]) (sideC false e f (.slice ba bn bc)).toArray 28)
  have Hb := hid b4
  have hbz := b4.size
  have Hbs := hid (show w.heap.size + 1 + 1 + 1 + 1 = ((((w.alloc (.cells (o.map (Value.int .u8)).toArray 23 (0, 0))).alloc (.cells (i.map (Value.int .u8)).toArray 23 (0, 0))).alloc (.cells (sideC false c d (.slice aa an ac)).toArray 28 (0, 0))).alloc (.cells (sideC false e f (.slice ba bn bc)).toArray 28 (0, 0))).heap.size by simp only [World.size_alloc])
  have Htab := hid tab
  clear b1 b2 b3 b4 tab 
  have HN := hid hN
  have HM := hid hM
  have VV := hid (fun (W : World) (h1 : DigsAt W aa an ac ns) (h2 : DigsAt W ba bn bc ms) (h3 : ShaTab W) => trees_ff o i c d e f aa ba an ac bn bc ns ms W ho hi hc hd he hf h1 h2 h3)
  have I1 := hid (fun (W : World) (h1 : DigsAt W aa an ac ns) (h3 : ShaTab W) => absent_is o i c d aa an ac ns W ho hi hd h1 h3)
  rw [q1] at I1
  have I2 := hid (fun (W : World) (h1 : DigsAt W ba bn bc ms) (h3 : ShaTab W) => absent_is o i e f ba bn bc ms W ho hi hf h1 h3)
  rw [q2] at I2
  have hca : ¬ (300 : Int) < (an : Int) := by omega
  have hcb : ¬ (300 : Int) < (bn : Int) := by omega
  clear hN hM
  have cna : ((((w.alloc (.cells (o.map (Value.int .u8)).toArray 23 (0, 0))).alloc (.cells (i.map (Value.int .u8)).toArray 23 (0, 0))).alloc (.cells (sideC false c d (.slice aa an ac)).toArray 28 (0, 0))).alloc (.cells (sideC false e f (.slice ba bn bc)).toArray 28 (0, 0))).cell? ⟨w.heap.size + 1 + 1, 33 + 32, none⟩ = some (.slice aa an ac) := sideC_nodes' hc hd Ka.out
  have cnb : ((((w.alloc (.cells (o.map (Value.int .u8)).toArray 23 (0, 0))).alloc (.cells (i.map (Value.int .u8)).toArray 23 (0, 0))).alloc (.cells (sideC false c d (.slice aa an ac)).toArray 28 (0, 0))).alloc (.cells (sideC false e f (.slice ba bn bc)).toArray 28 (0, 0))).cell? ⟨w.heap.size + 1 + 1 + 1, 33 + 32, none⟩ = some (.slice ba bn bc) := sideC_nodes' he hf Kb.out
  go_enter Tryd.func5, Tryd.ntmps5
  go_wp2_with (first
     | (refine wpList_load_blk rfl 23 _ rfl (w.heap.size) rfl _ 23 Ko.out _ Tryd.underlying23 rfl 32 size_digest ho.size ?_)
     | (refine wpList_load_blk rfl 23 _ rfl (w.heap.size + 1) rfl _ 23 Ki.out _ Tryd.underlying23 rfl 32 size_digest hi.size ?_)
     | (refine wpList_load_blk rfl 28 _ rfl (w.heap.size + 1 + 1) rfl _ 28 Ka.out _ Tryd.underlying28 rfl 66 size_side (sideC_size hc hd) ?_)
     | (refine wpList_load_blk rfl 28 _ rfl (w.heap.size + 1 + 1 + 1) rfl _ 28 Kb.out _ Tryd.underlying28 rfl 66 size_side (sideC_size he hf) ?_))
  clear cna cnb
  refine (VV.out _ (HN.out.below Hb.out) (HM.out.below Hb.out) (Htab.out.below Hb.out)).mono ?_
  rintro e w1 ⟨rfl, bw1⟩
  have HBw1 := hid (Below.on Hb.out bw1)
  have hsw1 := HBw1.out.size
  have Kow1 := hid (Ko.out.below bw1)
  have Kiw1 := hid (Ki.out.below bw1)
  have Kaw1 := hid (Ka.out.below bw1)
  have Kbw1 := hid (Kb.out.below bw1)
  clear bw1
  have cpa : w1.cell? ⟨w.heap.size + 1 + 1, 0, none⟩ = some (.bool false) := by rw [Kaw1.out.cell]; rfl
  have cpb : w1.cell? ⟨w.heap.size + 1 + 1 + 1, 0, none⟩ = some (.bool false) := by rw [Kbw1.out.cell]; rfl
  go_wp2_with (first
     | (with_reducible show wpList _ _ _ (⟨some 53, _, _, _, _, _⟩ :: _) _ _; refine wpList_load_blk_if (by first | rfl | go_simp) 23 _ rfl (w.heap.size) rfl _ 23 Kow1.out _ Tryd.underlying23 rfl 32 size_digest ho.size ?_)
     | (with_reducible show wpList _ _ _ (⟨some 54, _, _, _, _, _⟩ :: _) _ _; refine wpList_load_blk_if (by first | rfl | go_simp) 23 _ rfl (w.heap.size + 1) rfl _ 23 Kiw1.out _ Tryd.underlying23 rfl 32 size_digest hi.size ?_)
     | (with_reducible show wpList _ _ _ (⟨some 56, _, _, _, _, _⟩ :: _) _ _; refine wpList_load_mid_if (by first | rfl | go_simp) 26 _ rfl (w.heap.size + 1 + 1) 33 rfl _ _ (sideC_proof hc Kaw1.out) Tryd.underlying26 rfl (by rw [show (prC d (.slice aa an ac)).length = 33 by simp [prC, hd.len]]; exact size_proof) ?_))
  clear cpa cpb
  refine (I1.out _ (HN.out.below HBw1.out) (Htab.out.below HBw1.out)).mono ?_
  rintro e w2 ⟨rfl, bw2⟩
  have HBw2 := hid (Below.on HBw1.out bw2)
  have hsw2 := HBw2.out.size
  have Kow2 := hid (Kow1.out.below bw2)
  have Kiw2 := hid (Kiw1.out.below bw2)
  have Kaw2 := hid (Kaw1.out.below bw2)
  have Kbw2 := hid (Kbw1.out.below bw2)
  clear bw2
  have cpa : w2.cell? ⟨w.heap.size + 1 + 1, 0, none⟩ = some (.bool false) := by rw [Kaw2.out.cell]; rfl
  have cpb : w2.cell? ⟨w.heap.size + 1 + 1 + 1, 0, none⟩ = some (.bool false) := by rw [Kbw2.out.cell]; rfl
  go_wp2_with (first
     | (with_reducible show wpList _ _ _ (⟨some 76, _, _, _, _, _⟩ :: _) _ _; refine wpList_load_blk_if (by first | rfl | go_simp) 23 _ rfl (w.heap.size) rfl _ 23 Kow2.out _ Tryd.underlying23 rfl 32 size_digest ho.size ?_)
     | (with_reducible show wpList _ _ _ (⟨some 77, _, _, _, _, _⟩ :: _) _ _; refine wpList_load_blk_if (by first | rfl | go_simp) 23 _ rfl (w.heap.size + 1) rfl _ 23 Kiw2.out _ Tryd.underlying23 rfl 32 size_digest hi.size ?_)
     | (with_reducible show wpList _ _ _ (⟨some 79, _, _, _, _, _⟩ :: _) _ _; refine wpList_load_mid_if (by first | rfl | go_simp) 26 _ rfl (w.heap.size + 1 + 1 + 1) 33 rfl _ _ (sideC_proof he Kbw2.out) Tryd.underlying26 rfl (by rw [show (prC f (.slice ba bn bc)).length = 33 by simp [prC, hf.len]]; exact size_proof) ?_))
  clear cpa cpb
  refine (I2.out _ (HM.out.below HBw2.out) (Htab.out.below HBw2.out)).mono ?_
  rintro e w3 ⟨rfl, bw3⟩
  have HBw3 := hid (Below.on HBw2.out bw3)
  have hsw3 := HBw3.out.size
  have Kow3 := hid (Kow2.out.below bw3)
  have Kiw3 := hid (Kiw2.out.below bw3)
  have Kaw3 := hid (Kaw2.out.below bw3)
  have Kbw3 := hid (Kbw2.out.below bw3)
  clear bw3
  have cpa : w3.cell? ⟨w.heap.size + 1 + 1, 0, none⟩ = some (.bool false) := by rw [Kaw3.out.cell]; rfl
  have cpb : w3.cell? ⟨w.heap.size + 1 + 1 + 1, 0, none⟩ = some (.bool false) := by rw [Kbw3.out.cell]; rfl
  go_wp2_with fail
  clear cpa cpb
  refine (lnone_yes _).mono ?_
  rintro e w4 ⟨rfl, bw4⟩
  have HBw4 := hid (Below.on HBw3.out bw4)
  have hsw4 := HBw4.out.size
  have Kow4 := hid (Kow3.out.below bw4)
  have Kiw4 := hid (Kiw3.out.below bw4)
  have Kaw4 := hid (Kaw3.out.below bw4)
  have Kbw4 := hid (Kbw3.out.below bw4)
  clear bw4
  go_wp2_with fail
  refine (knows23 _ (Htab.out.below HBw4.out)).mono ?_
  rintro e w5 ⟨rfl, bw5⟩
  have HBw5 := hid (Below.on HBw4.out bw5)
  have hsw5 := HBw5.out.size
  have Kow5 := hid (Kow4.out.below bw5)
  have Kiw5 := hid (Kiw4.out.below bw5)
  have Kaw5 := hid (Kaw4.out.below bw5)
  have Kbw5 := hid (Kbw4.out.below bw5)
  clear bw5
  go_wp2_with fail
  go_returns
  exact ⟨by first | rfl | simp, HBw5.out⟩
set_option maxHeartbeats 4000000 in
theorem extrees_ff_yn (o i c d e f : List Int) (aa ba : Option Addr) (an ac bn bc : Nat) (ns ms : List (List Int)) (w : World) (ho : Dg o) (hi : Dg i) (hc : Dg c) (hd : Dg d) (he : Dg e) (hf : Dg f) (hN : DigsAt w aa an ac ns) (hM : DigsAt w ba bn bc ms) (tab : ShaTab w) (hb1 : an ≤ 300) (hb2 : bn ≤ 300) (q1 : isSide o i false c d ns = true) (q2 : isSide o i false e f ms = false) :
    Calls Tryd.prog 5 #[.agg (o.map (Value.int .u8)).toArray, .agg (i.map (Value.int .u8)).toArray, .agg (sideC false c d (.slice aa an ac)).toArray, .agg (sideC false e f (.slice ba bn bc)).toArray] w fun e' w' => e' = .returned (.bool true) ∧ Below w.heap.size w w' := by
  have b1 := (Below.refl w.heap.size w).alloc (Nat.le_refl _) (.cells (o.map (Value.int .u8)).toArray 23 (0, 0))
  have b2 := b1.alloc b1.size (.cells (i.map (Value.int .u8)).toArray 23 (0, 0))
  have b3 := b2.alloc b2.size (.cells (sideC false c d (.slice aa an ac)).toArray 28 (0, 0))
  have b4 := b3.alloc b3.size (.cells (sideC false e f (.slice ba bn bc)).toArray 28 (0, 0))
  have Ko := hid ((((Blk.new (w := w) (n := w.heap.size) rfl (o.map (Value.int .u8)).toArray 23).old (.cells (i.map (Value.int .u8)).toArray 23 (0, 0))).old (.cells (sideC false c d (.slice aa an ac)).toArray 28 (0, 0))).old (.cells (sideC false e f (.slice ba bn bc)).toArray 28 (0, 0)))
  have Ki := hid (((Blk.new (w := (w.alloc (.cells (o.map (Value.int .u8)).toArray 23 (0, 0)))) (n := w.heap.size + 1) (by simp only [World.size_alloc]) (i.map (Value.int .u8)).toArray 23).old (.cells (sideC false c d (.slice aa an ac)).toArray 28 (0, 0))).old (.cells (sideC false e f (.slice ba bn bc)).toArray 28 (0, 0)))
  have Ka := hid ((Blk.new (w := ((w.alloc (.cells (o.map (Value.int .u8)).toArray 23 (0, 0))).alloc (.cells (i.map (Value.int .u8)).toArray 23 (0, 0)))) (n := w.heap.size + 1 + 1) (by simp only [World.size_alloc]) (sideC false c d (.slice aa an ac)).toArray 28).old (.cells (sideC false e f (.slice ba bn bc)).toArray 28 (0, 0)))
  have Kb := hid (Blk.new (w := (((w.alloc (.cells (o.map (Value.int .u8)).toArray 23 (0, 0))).alloc (.cells (i.map (Value.int .u8)).toArray 23 (0, 0))).alloc (.cells (sideC false c d (.slice aa an ac)).toArray 28 (0, 0)))) (n := w.heap.size + 1 + 1 + 1) (by simp only [World.size_alloc]) (sideC false e f (.slice ba bn bc)).toArray 28)
  have Hb := hid b4
  have hbz := b4.size
  have Hbs := hid (show w.heap.size + 1 + 1 + 1 + 1 = ((((w.alloc (.cells (o.map (Value.int .u8)).toArray 23 (0, 0))).alloc (.cells (i.map (Value.int .u8)).toArray 23 (0, 0))).alloc (.cells (sideC false c d (.slice aa an ac)).toArray 28 (0, 0))).alloc (.cells (sideC false e f (.slice ba bn bc)).toArray 28 (0, 0))).heap.size by simp only [World.size_alloc])
  have Htab := hid tab
  clear b1 b2 b3 b4 tab 
  have HN := hid hN
  have HM := hid hM
  have VV := hid (fun (W : World) (h1 : DigsAt W aa an ac ns) (h2 : DigsAt W ba bn bc ms) (h3 : ShaTab W) => trees_ff o i c d e f aa ba an ac bn bc ns ms W ho hi hc hd he hf h1 h2 h3)
  have I1 := hid (fun (W : World) (h1 : DigsAt W aa an ac ns) (h3 : ShaTab W) => absent_is o i c d aa an ac ns W ho hi hd h1 h3)
  rw [q1] at I1
  have I2 := hid (fun (W : World) (h1 : DigsAt W ba bn bc ms) (h3 : ShaTab W) => absent_is o i e f ba bn bc ms W ho hi hf h1 h3)
  rw [q2] at I2
  have hca : ¬ (300 : Int) < (an : Int) := by omega
  have hcb : ¬ (300 : Int) < (bn : Int) := by omega
  clear hN hM
  have cna : ((((w.alloc (.cells (o.map (Value.int .u8)).toArray 23 (0, 0))).alloc (.cells (i.map (Value.int .u8)).toArray 23 (0, 0))).alloc (.cells (sideC false c d (.slice aa an ac)).toArray 28 (0, 0))).alloc (.cells (sideC false e f (.slice ba bn bc)).toArray 28 (0, 0))).cell? ⟨w.heap.size + 1 + 1, 33 + 32, none⟩ = some (.slice aa an ac) := sideC_nodes' hc hd Ka.out
  have cnb : ((((w.alloc (.cells (o.map (Value.int .u8)).toArray 23 (0, 0))).alloc (.cells (i.map (Value.int .u8)).toArray 23 (0, 0))).alloc (.cells (sideC false c d (.slice aa an ac)).toArray 28 (0, 0))).alloc (.cells (sideC false e f (.slice ba bn bc)).toArray 28 (0, 0))).cell? ⟨w.heap.size + 1 + 1 + 1, 33 + 32, none⟩ = some (.slice ba bn bc) := sideC_nodes' he hf Kb.out
  go_enter Tryd.func5, Tryd.ntmps5
  go_wp2_with (first
     | (refine wpList_load_blk rfl 23 _ rfl (w.heap.size) rfl _ 23 Ko.out _ Tryd.underlying23 rfl 32 size_digest ho.size ?_)
     | (refine wpList_load_blk rfl 23 _ rfl (w.heap.size + 1) rfl _ 23 Ki.out _ Tryd.underlying23 rfl 32 size_digest hi.size ?_)
     | (refine wpList_load_blk rfl 28 _ rfl (w.heap.size + 1 + 1) rfl _ 28 Ka.out _ Tryd.underlying28 rfl 66 size_side (sideC_size hc hd) ?_)
     | (refine wpList_load_blk rfl 28 _ rfl (w.heap.size + 1 + 1 + 1) rfl _ 28 Kb.out _ Tryd.underlying28 rfl 66 size_side (sideC_size he hf) ?_))
  clear cna cnb
  refine (VV.out _ (HN.out.below Hb.out) (HM.out.below Hb.out) (Htab.out.below Hb.out)).mono ?_
  rintro e w1 ⟨rfl, bw1⟩
  have HBw1 := hid (Below.on Hb.out bw1)
  have hsw1 := HBw1.out.size
  have Kow1 := hid (Ko.out.below bw1)
  have Kiw1 := hid (Ki.out.below bw1)
  have Kaw1 := hid (Ka.out.below bw1)
  have Kbw1 := hid (Kb.out.below bw1)
  clear bw1
  have cpa : w1.cell? ⟨w.heap.size + 1 + 1, 0, none⟩ = some (.bool false) := by rw [Kaw1.out.cell]; rfl
  have cpb : w1.cell? ⟨w.heap.size + 1 + 1 + 1, 0, none⟩ = some (.bool false) := by rw [Kbw1.out.cell]; rfl
  go_wp2_with (first
     | (with_reducible show wpList _ _ _ (⟨some 53, _, _, _, _, _⟩ :: _) _ _; refine wpList_load_blk_if (by first | rfl | go_simp) 23 _ rfl (w.heap.size) rfl _ 23 Kow1.out _ Tryd.underlying23 rfl 32 size_digest ho.size ?_)
     | (with_reducible show wpList _ _ _ (⟨some 54, _, _, _, _, _⟩ :: _) _ _; refine wpList_load_blk_if (by first | rfl | go_simp) 23 _ rfl (w.heap.size + 1) rfl _ 23 Kiw1.out _ Tryd.underlying23 rfl 32 size_digest hi.size ?_)
     | (with_reducible show wpList _ _ _ (⟨some 56, _, _, _, _, _⟩ :: _) _ _; refine wpList_load_mid_if (by first | rfl | go_simp) 26 _ rfl (w.heap.size + 1 + 1) 33 rfl _ _ (sideC_proof hc Kaw1.out) Tryd.underlying26 rfl (by rw [show (prC d (.slice aa an ac)).length = 33 by simp [prC, hd.len]]; exact size_proof) ?_))
  clear cpa cpb
  refine (I1.out _ (HN.out.below HBw1.out) (Htab.out.below HBw1.out)).mono ?_
  rintro e w2 ⟨rfl, bw2⟩
  have HBw2 := hid (Below.on HBw1.out bw2)
  have hsw2 := HBw2.out.size
  have Kow2 := hid (Kow1.out.below bw2)
  have Kiw2 := hid (Kiw1.out.below bw2)
  have Kaw2 := hid (Kaw1.out.below bw2)
  have Kbw2 := hid (Kbw1.out.below bw2)
  clear bw2
  have cpa : w2.cell? ⟨w.heap.size + 1 + 1, 0, none⟩ = some (.bool false) := by rw [Kaw2.out.cell]; rfl
  have cpb : w2.cell? ⟨w.heap.size + 1 + 1 + 1, 0, none⟩ = some (.bool false) := by rw [Kbw2.out.cell]; rfl
  go_wp2_with (first
     | (with_reducible show wpList _ _ _ (⟨some 76, _, _, _, _, _⟩ :: _) _ _; refine wpList_load_blk_if (by first | rfl | go_simp) 23 _ rfl (w.heap.size) rfl _ 23 Kow2.out _ Tryd.underlying23 rfl 32 size_digest ho.size ?_)
     | (with_reducible show wpList _ _ _ (⟨some 77, _, _, _, _, _⟩ :: _) _ _; refine wpList_load_blk_if (by first | rfl | go_simp) 23 _ rfl (w.heap.size + 1) rfl _ 23 Kiw2.out _ Tryd.underlying23 rfl 32 size_digest hi.size ?_)
     | (with_reducible show wpList _ _ _ (⟨some 79, _, _, _, _, _⟩ :: _) _ _; refine wpList_load_mid_if (by first | rfl | go_simp) 26 _ rfl (w.heap.size + 1 + 1 + 1) 33 rfl _ _ (sideC_proof he Kbw2.out) Tryd.underlying26 rfl (by rw [show (prC f (.slice ba bn bc)).length = 33 by simp [prC, hf.len]]; exact size_proof) ?_))
  clear cpa cpb
  refine (I2.out _ (HM.out.below HBw2.out) (Htab.out.below HBw2.out)).mono ?_
  rintro e w3 ⟨rfl, bw3⟩
  have HBw3 := hid (Below.on HBw2.out bw3)
  have hsw3 := HBw3.out.size
  have Kow3 := hid (Kow2.out.below bw3)
  have Kiw3 := hid (Kiw2.out.below bw3)
  have Kaw3 := hid (Kaw2.out.below bw3)
  have Kbw3 := hid (Kbw2.out.below bw3)
  clear bw3
  have cpa : w3.cell? ⟨w.heap.size + 1 + 1, 0, none⟩ = some (.bool false) := by rw [Kaw3.out.cell]; rfl
  have cpb : w3.cell? ⟨w.heap.size + 1 + 1 + 1, 0, none⟩ = some (.bool false) := by rw [Kbw3.out.cell]; rfl
  go_wp2_with fail
  clear cpa cpb
  refine (lnone_yes _).mono ?_
  rintro e w4 ⟨rfl, bw4⟩
  have HBw4 := hid (Below.on HBw3.out bw4)
  have hsw4 := HBw4.out.size
  have Kow4 := hid (Kow3.out.below bw4)
  have Kiw4 := hid (Kiw3.out.below bw4)
  have Kaw4 := hid (Kaw3.out.below bw4)
  have Kbw4 := hid (Kbw3.out.below bw4)
  clear bw4
  go_wp2_with fail
  refine (knows23 _ (Htab.out.below HBw4.out)).mono ?_
  rintro e w5 ⟨rfl, bw5⟩
  have HBw5 := hid (Below.on HBw4.out bw5)
  have hsw5 := HBw5.out.size
  have Kow5 := hid (Kow4.out.below bw5)
  have Kiw5 := hid (Kiw4.out.below bw5)
  have Kaw5 := hid (Kaw4.out.below bw5)
  have Kbw5 := hid (Kbw4.out.below bw5)
  clear bw5
  go_wp2_with fail
  go_returns
  exact ⟨by first | rfl | simp, HBw5.out⟩
set_option maxHeartbeats 4000000 in
theorem extrees_ff_ny (o i c d e f : List Int) (aa ba : Option Addr) (an ac bn bc : Nat) (ns ms : List (List Int)) (w : World) (ho : Dg o) (hi : Dg i) (hc : Dg c) (hd : Dg d) (he : Dg e) (hf : Dg f) (hN : DigsAt w aa an ac ns) (hM : DigsAt w ba bn bc ms) (tab : ShaTab w) (hb1 : an ≤ 300) (hb2 : bn ≤ 300) (q1 : isSide o i false c d ns = false) (q2 : isSide o i false e f ms = true) :
    Calls Tryd.prog 5 #[.agg (o.map (Value.int .u8)).toArray, .agg (i.map (Value.int .u8)).toArray, .agg (sideC false c d (.slice aa an ac)).toArray, .agg (sideC false e f (.slice ba bn bc)).toArray] w fun e' w' => e' = .returned (.bool true) ∧ Below w.heap.size w w' := by
  have b1 := (Below.refl w.heap.size w).alloc (Nat.le_refl _) (.cells (o.map (Value.int .u8)).toArray 23 (0, 0))
  have b2 := b1.alloc b1.size (.cells (i.map (Value.int .u8)).toArray 23 (0, 0))
  have b3 := b2.alloc b2.size (.cells (sideC false c d (.slice aa an ac)).toArray 28 (0, 0))
  have b4 := b3.alloc b3.size (.cells (sideC false e f (.slice ba bn bc)).toArray 28 (0, 0))
  have Ko := hid ((((Blk.new (w := w) (n := w.heap.size) rfl (o.map (Value.int .u8)).toArray 23).old (.cells (i.map (Value.int .u8)).toArray 23 (0, 0))).old (.cells (sideC false c d (.slice aa an ac)).toArray 28 (0, 0))).old (.cells (sideC false e f (.slice ba bn bc)).toArray 28 (0, 0)))
  have Ki := hid (((Blk.new (w := (w.alloc (.cells (o.map (Value.int .u8)).toArray 23 (0, 0)))) (n := w.heap.size + 1) (by simp only [World.size_alloc]) (i.map (Value.int .u8)).toArray 23).old (.cells (sideC false c d (.slice aa an ac)).toArray 28 (0, 0))).old (.cells (sideC false e f (.slice ba bn bc)).toArray 28 (0, 0)))
  have Ka := hid ((Blk.new (w := ((w.alloc (.cells (o.map (Value.int .u8)).toArray 23 (0, 0))).alloc (.cells (i.map (Value.int .u8)).toArray 23 (0, 0)))) (n := w.heap.size + 1 + 1) (by simp only [World.size_alloc]) (sideC false c d (.slice aa an ac)).toArray 28).old (.cells (sideC false e f (.slice ba bn bc)).toArray 28 (0, 0)))
  have Kb := hid (Blk.new (w := (((w.alloc (.cells (o.map (Value.int .u8)).toArray 23 (0, 0))).alloc (.cells (i.map (Value.int .u8)).toArray 23 (0, 0))).alloc (.cells (sideC false c d (.slice aa an ac)).toArray 28 (0, 0)))) (n := w.heap.size + 1 + 1 + 1) (by simp only [World.size_alloc]) (sideC false e f (.slice ba bn bc)).toArray 28)
  have Hb := hid b4
  have hbz := b4.size
  have Hbs := hid (show w.heap.size + 1 + 1 + 1 + 1 = ((((w.alloc (.cells (o.map (Value.int .u8)).toArray 23 (0, 0))).alloc (.cells (i.map (Value.int .u8)).toArray 23 (0, 0))).alloc (.cells (sideC false c d (.slice aa an ac)).toArray 28 (0, 0))).alloc (.cells (sideC false e f (.slice ba bn bc)).toArray 28 (0, 0))).heap.size by simp only [World.size_alloc])
  have Htab := hid tab
  clear b1 b2 b3 b4 tab 
  have HN := hid hN
  have HM := hid hM
  have VV := hid (fun (W : World) (h1 : DigsAt W aa an ac ns) (h2 : DigsAt W ba bn bc ms) (h3 : ShaTab W) => trees_ff o i c d e f aa ba an ac bn bc ns ms W ho hi hc hd he hf h1 h2 h3)
  have I1 := hid (fun (W : World) (h1 : DigsAt W aa an ac ns) (h3 : ShaTab W) => absent_is o i c d aa an ac ns W ho hi hd h1 h3)
  rw [q1] at I1
  have I2 := hid (fun (W : World) (h1 : DigsAt W ba bn bc ms) (h3 : ShaTab W) => absent_is o i e f ba bn bc ms W ho hi hf h1 h3)
  rw [q2] at I2
  have hca : ¬ (300 : Int) < (an : Int) := by omega
  have hcb : ¬ (300 : Int) < (bn : Int) := by omega
  clear hN hM
  have cna : ((((w.alloc (.cells (o.map (Value.int .u8)).toArray 23 (0, 0))).alloc (.cells (i.map (Value.int .u8)).toArray 23 (0, 0))).alloc (.cells (sideC false c d (.slice aa an ac)).toArray 28 (0, 0))).alloc (.cells (sideC false e f (.slice ba bn bc)).toArray 28 (0, 0))).cell? ⟨w.heap.size + 1 + 1, 33 + 32, none⟩ = some (.slice aa an ac) := sideC_nodes' hc hd Ka.out
  have cnb : ((((w.alloc (.cells (o.map (Value.int .u8)).toArray 23 (0, 0))).alloc (.cells (i.map (Value.int .u8)).toArray 23 (0, 0))).alloc (.cells (sideC false c d (.slice aa an ac)).toArray 28 (0, 0))).alloc (.cells (sideC false e f (.slice ba bn bc)).toArray 28 (0, 0))).cell? ⟨w.heap.size + 1 + 1 + 1, 33 + 32, none⟩ = some (.slice ba bn bc) := sideC_nodes' he hf Kb.out
  go_enter Tryd.func5, Tryd.ntmps5
  go_wp2_with (first
     | (refine wpList_load_blk rfl 23 _ rfl (w.heap.size) rfl _ 23 Ko.out _ Tryd.underlying23 rfl 32 size_digest ho.size ?_)
     | (refine wpList_load_blk rfl 23 _ rfl (w.heap.size + 1) rfl _ 23 Ki.out _ Tryd.underlying23 rfl 32 size_digest hi.size ?_)
     | (refine wpList_load_blk rfl 28 _ rfl (w.heap.size + 1 + 1) rfl _ 28 Ka.out _ Tryd.underlying28 rfl 66 size_side (sideC_size hc hd) ?_)
     | (refine wpList_load_blk rfl 28 _ rfl (w.heap.size + 1 + 1 + 1) rfl _ 28 Kb.out _ Tryd.underlying28 rfl 66 size_side (sideC_size he hf) ?_))
  clear cna cnb
  refine (VV.out _ (HN.out.below Hb.out) (HM.out.below Hb.out) (Htab.out.below Hb.out)).mono ?_
  rintro e w1 ⟨rfl, bw1⟩
  have HBw1 := hid (Below.on Hb.out bw1)
  have hsw1 := HBw1.out.size
  have Kow1 := hid (Ko.out.below bw1)
  have Kiw1 := hid (Ki.out.below bw1)
  have Kaw1 := hid (Ka.out.below bw1)
  have Kbw1 := hid (Kb.out.below bw1)
  clear bw1
  have cpa : w1.cell? ⟨w.heap.size + 1 + 1, 0, none⟩ = some (.bool false) := by rw [Kaw1.out.cell]; rfl
  have cpb : w1.cell? ⟨w.heap.size + 1 + 1 + 1, 0, none⟩ = some (.bool false) := by rw [Kbw1.out.cell]; rfl
  go_wp2_with (first
     | (with_reducible show wpList _ _ _ (⟨some 53, _, _, _, _, _⟩ :: _) _ _; refine wpList_load_blk_if (by first | rfl | go_simp) 23 _ rfl (w.heap.size) rfl _ 23 Kow1.out _ Tryd.underlying23 rfl 32 size_digest ho.size ?_)
     | (with_reducible show wpList _ _ _ (⟨some 54, _, _, _, _, _⟩ :: _) _ _; refine wpList_load_blk_if (by first | rfl | go_simp) 23 _ rfl (w.heap.size + 1) rfl _ 23 Kiw1.out _ Tryd.underlying23 rfl 32 size_digest hi.size ?_)
     | (with_reducible show wpList _ _ _ (⟨some 56, _, _, _, _, _⟩ :: _) _ _; refine wpList_load_mid_if (by first | rfl | go_simp) 26 _ rfl (w.heap.size + 1 + 1) 33 rfl _ _ (sideC_proof hc Kaw1.out) Tryd.underlying26 rfl (by rw [show (prC d (.slice aa an ac)).length = 33 by simp [prC, hd.len]]; exact size_proof) ?_))
  clear cpa cpb
  refine (I1.out _ (HN.out.below HBw1.out) (Htab.out.below HBw1.out)).mono ?_
  rintro e w2 ⟨rfl, bw2⟩
  have HBw2 := hid (Below.on HBw1.out bw2)
  have hsw2 := HBw2.out.size
  have Kow2 := hid (Kow1.out.below bw2)
  have Kiw2 := hid (Kiw1.out.below bw2)
  have Kaw2 := hid (Kaw1.out.below bw2)
  have Kbw2 := hid (Kbw1.out.below bw2)
  clear bw2
  have cpa : w2.cell? ⟨w.heap.size + 1 + 1, 0, none⟩ = some (.bool false) := by rw [Kaw2.out.cell]; rfl
  have cpb : w2.cell? ⟨w.heap.size + 1 + 1 + 1, 0, none⟩ = some (.bool false) := by rw [Kbw2.out.cell]; rfl
  go_wp2_with (first
     | (with_reducible show wpList _ _ _ (⟨some 76, _, _, _, _, _⟩ :: _) _ _; refine wpList_load_blk_if (by first | rfl | go_simp) 23 _ rfl (w.heap.size) rfl _ 23 Kow2.out _ Tryd.underlying23 rfl 32 size_digest ho.size ?_)
     | (with_reducible show wpList _ _ _ (⟨some 77, _, _, _, _, _⟩ :: _) _ _; refine wpList_load_blk_if (by first | rfl | go_simp) 23 _ rfl (w.heap.size + 1) rfl _ 23 Kiw2.out _ Tryd.underlying23 rfl 32 size_digest hi.size ?_)
     | (with_reducible show wpList _ _ _ (⟨some 79, _, _, _, _, _⟩ :: _) _ _; refine wpList_load_mid_if (by first | rfl | go_simp) 26 _ rfl (w.heap.size + 1 + 1 + 1) 33 rfl _ _ (sideC_proof he Kbw2.out) Tryd.underlying26 rfl (by rw [show (prC f (.slice ba bn bc)).length = 33 by simp [prC, hf.len]]; exact size_proof) ?_))
  clear cpa cpb
  refine (I2.out _ (HM.out.below HBw2.out) (Htab.out.below HBw2.out)).mono ?_
  rintro e w3 ⟨rfl, bw3⟩
  have HBw3 := hid (Below.on HBw2.out bw3)
  have hsw3 := HBw3.out.size
  have Kow3 := hid (Kow2.out.below bw3)
  have Kiw3 := hid (Kiw2.out.below bw3)
  have Kaw3 := hid (Kaw2.out.below bw3)
  have Kbw3 := hid (Kbw2.out.below bw3)
  clear bw3
  have cpa : w3.cell? ⟨w.heap.size + 1 + 1, 0, none⟩ = some (.bool false) := by rw [Kaw3.out.cell]; rfl
  have cpb : w3.cell? ⟨w.heap.size + 1 + 1 + 1, 0, none⟩ = some (.bool false) := by rw [Kbw3.out.cell]; rfl
  go_wp2_with fail
  clear cpa cpb
  refine (lnone_yes _).mono ?_
  rintro e w4 ⟨rfl, bw4⟩
  have HBw4 := hid (Below.on HBw3.out bw4)
  have hsw4 := HBw4.out.size
  have Kow4 := hid (Kow3.out.below bw4)
  have Kiw4 := hid (Kiw3.out.below bw4)
  have Kaw4 := hid (Kaw3.out.below bw4)
  have Kbw4 := hid (Kbw3.out.below bw4)
  clear bw4
  go_wp2_with fail
  refine (knows23 _ (Htab.out.below HBw4.out)).mono ?_
  rintro e w5 ⟨rfl, bw5⟩
  have HBw5 := hid (Below.on HBw4.out bw5)
  have hsw5 := HBw5.out.size
  have Kow5 := hid (Kow4.out.below bw5)
  have Kiw5 := hid (Kiw4.out.below bw5)
  have Kaw5 := hid (Kaw4.out.below bw5)
  have Kbw5 := hid (Kbw4.out.below bw5)
  clear bw5
  go_wp2_with fail
  go_returns
  exact ⟨by first | rfl | simp, HBw5.out⟩
set_option maxHeartbeats 4000000 in
theorem extrees_ff_nn (o i c d e f : List Int) (aa ba : Option Addr) (an ac bn bc : Nat) (ns ms : List (List Int)) (w : World) (ho : Dg o) (hi : Dg i) (hc : Dg c) (hd : Dg d) (he : Dg e) (hf : Dg f) (hN : DigsAt w aa an ac ns) (hM : DigsAt w ba bn bc ms) (tab : ShaTab w) (hb1 : an ≤ 300) (hb2 : bn ≤ 300) (q1 : isSide o i false c d ns = false) (q2 : isSide o i false e f ms = false) :
    Calls Tryd.prog 5 #[.agg (o.map (Value.int .u8)).toArray, .agg (i.map (Value.int .u8)).toArray, .agg (sideC false c d (.slice aa an ac)).toArray, .agg (sideC false e f (.slice ba bn bc)).toArray] w fun e' w' => e' = .returned (.bool true) ∧ Below w.heap.size w w' := by
  have b1 := (Below.refl w.heap.size w).alloc (Nat.le_refl _) (.cells (o.map (Value.int .u8)).toArray 23 (0, 0))
  have b2 := b1.alloc b1.size (.cells (i.map (Value.int .u8)).toArray 23 (0, 0))
  have b3 := b2.alloc b2.size (.cells (sideC false c d (.slice aa an ac)).toArray 28 (0, 0))
  have b4 := b3.alloc b3.size (.cells (sideC false e f (.slice ba bn bc)).toArray 28 (0, 0))
  have Ko := hid ((((Blk.new (w := w) (n := w.heap.size) rfl (o.map (Value.int .u8)).toArray 23).old (.cells (i.map (Value.int .u8)).toArray 23 (0, 0))).old (.cells (sideC false c d (.slice aa an ac)).toArray 28 (0, 0))).old (.cells (sideC false e f (.slice ba bn bc)).toArray 28 (0, 0)))
  have Ki := hid (((Blk.new (w := (w.alloc (.cells (o.map (Value.int .u8)).toArray 23 (0, 0)))) (n := w.heap.size + 1) (by simp only [World.size_alloc]) (i.map (Value.int .u8)).toArray 23).old (.cells (sideC false c d (.slice aa an ac)).toArray 28 (0, 0))).old (.cells (sideC false e f (.slice ba bn bc)).toArray 28 (0, 0)))
  have Ka := hid ((Blk.new (w := ((w.alloc (.cells (o.map (Value.int .u8)).toArray 23 (0, 0))).alloc (.cells (i.map (Value.int .u8)).toArray 23 (0, 0)))) (n := w.heap.size + 1 + 1) (by simp only [World.size_alloc]) (sideC false c d (.slice aa an ac)).toArray 28).old (.cells (sideC false e f (.slice ba bn bc)).toArray 28 (0, 0)))
  have Kb := hid (Blk.new (w := (((w.alloc (.cells (o.map (Value.int .u8)).toArray 23 (0, 0))).alloc (.cells (i.map (Value.int .u8)).toArray 23 (0, 0))).alloc (.cells (sideC false c d (.slice aa an ac)).toArray 28 (0, 0)))) (n := w.heap.size + 1 + 1 + 1) (by simp only [World.size_alloc]) (sideC false e f (.slice ba bn bc)).toArray 28)
  have Hb := hid b4
  have hbz := b4.size
  have Hbs := hid (show w.heap.size + 1 + 1 + 1 + 1 = ((((w.alloc (.cells (o.map (Value.int .u8)).toArray 23 (0, 0))).alloc (.cells (i.map (Value.int .u8)).toArray 23 (0, 0))).alloc (.cells (sideC false c d (.slice aa an ac)).toArray 28 (0, 0))).alloc (.cells (sideC false e f (.slice ba bn bc)).toArray 28 (0, 0))).heap.size by simp only [World.size_alloc])
  have Htab := hid tab
  clear b1 b2 b3 b4 tab 
  have HN := hid hN
  have HM := hid hM
  have VV := hid (fun (W : World) (h1 : DigsAt W aa an ac ns) (h2 : DigsAt W ba bn bc ms) (h3 : ShaTab W) => trees_ff o i c d e f aa ba an ac bn bc ns ms W ho hi hc hd he hf h1 h2 h3)
  have I1 := hid (fun (W : World) (h1 : DigsAt W aa an ac ns) (h3 : ShaTab W) => absent_is o i c d aa an ac ns W ho hi hd h1 h3)
  rw [q1] at I1
  have I2 := hid (fun (W : World) (h1 : DigsAt W ba bn bc ms) (h3 : ShaTab W) => absent_is o i e f ba bn bc ms W ho hi hf h1 h3)
  rw [q2] at I2
  have hca : ¬ (300 : Int) < (an : Int) := by omega
  have hcb : ¬ (300 : Int) < (bn : Int) := by omega
  clear hN hM
  have cna : ((((w.alloc (.cells (o.map (Value.int .u8)).toArray 23 (0, 0))).alloc (.cells (i.map (Value.int .u8)).toArray 23 (0, 0))).alloc (.cells (sideC false c d (.slice aa an ac)).toArray 28 (0, 0))).alloc (.cells (sideC false e f (.slice ba bn bc)).toArray 28 (0, 0))).cell? ⟨w.heap.size + 1 + 1, 33 + 32, none⟩ = some (.slice aa an ac) := sideC_nodes' hc hd Ka.out
  have cnb : ((((w.alloc (.cells (o.map (Value.int .u8)).toArray 23 (0, 0))).alloc (.cells (i.map (Value.int .u8)).toArray 23 (0, 0))).alloc (.cells (sideC false c d (.slice aa an ac)).toArray 28 (0, 0))).alloc (.cells (sideC false e f (.slice ba bn bc)).toArray 28 (0, 0))).cell? ⟨w.heap.size + 1 + 1 + 1, 33 + 32, none⟩ = some (.slice ba bn bc) := sideC_nodes' he hf Kb.out
  go_enter Tryd.func5, Tryd.ntmps5
  go_wp2_with (first
     | (refine wpList_load_blk rfl 23 _ rfl (w.heap.size) rfl _ 23 Ko.out _ Tryd.underlying23 rfl 32 size_digest ho.size ?_)
     | (refine wpList_load_blk rfl 23 _ rfl (w.heap.size + 1) rfl _ 23 Ki.out _ Tryd.underlying23 rfl 32 size_digest hi.size ?_)
     | (refine wpList_load_blk rfl 28 _ rfl (w.heap.size + 1 + 1) rfl _ 28 Ka.out _ Tryd.underlying28 rfl 66 size_side (sideC_size hc hd) ?_)
     | (refine wpList_load_blk rfl 28 _ rfl (w.heap.size + 1 + 1 + 1) rfl _ 28 Kb.out _ Tryd.underlying28 rfl 66 size_side (sideC_size he hf) ?_))
  clear cna cnb
  refine (VV.out _ (HN.out.below Hb.out) (HM.out.below Hb.out) (Htab.out.below Hb.out)).mono ?_
  rintro e w1 ⟨rfl, bw1⟩
  have HBw1 := hid (Below.on Hb.out bw1)
  have hsw1 := HBw1.out.size
  have Kow1 := hid (Ko.out.below bw1)
  have Kiw1 := hid (Ki.out.below bw1)
  have Kaw1 := hid (Ka.out.below bw1)
  have Kbw1 := hid (Kb.out.below bw1)
  clear bw1
  have cpa : w1.cell? ⟨w.heap.size + 1 + 1, 0, none⟩ = some (.bool false) := by rw [Kaw1.out.cell]; rfl
  have cpb : w1.cell? ⟨w.heap.size + 1 + 1 + 1, 0, none⟩ = some (.bool false) := by rw [Kbw1.out.cell]; rfl
  go_wp2_with (first
     | (with_reducible show wpList _ _ _ (⟨some 53, _, _, _, _, _⟩ :: _) _ _; refine wpList_load_blk_if (by first | rfl | go_simp) 23 _ rfl (w.heap.size) rfl _ 23 Kow1.out _ Tryd.underlying23 rfl 32 size_digest ho.size ?_)
     | (with_reducible show wpList _ _ _ (⟨some 54, _, _, _, _, _⟩ :: _) _ _; refine wpList_load_blk_if (by first | rfl | go_simp) 23 _ rfl (w.heap.size + 1) rfl _ 23 Kiw1.out _ Tryd.underlying23 rfl 32 size_digest hi.size ?_)
     | (with_reducible show wpList _ _ _ (⟨some 56, _, _, _, _, _⟩ :: _) _ _; refine wpList_load_mid_if (by first | rfl | go_simp) 26 _ rfl (w.heap.size + 1 + 1) 33 rfl _ _ (sideC_proof hc Kaw1.out) Tryd.underlying26 rfl (by rw [show (prC d (.slice aa an ac)).length = 33 by simp [prC, hd.len]]; exact size_proof) ?_))
  clear cpa cpb
  refine (I1.out _ (HN.out.below HBw1.out) (Htab.out.below HBw1.out)).mono ?_
  rintro e w2 ⟨rfl, bw2⟩
  have HBw2 := hid (Below.on HBw1.out bw2)
  have hsw2 := HBw2.out.size
  have Kow2 := hid (Kow1.out.below bw2)
  have Kiw2 := hid (Kiw1.out.below bw2)
  have Kaw2 := hid (Kaw1.out.below bw2)
  have Kbw2 := hid (Kbw1.out.below bw2)
  clear bw2
  have cpa : w2.cell? ⟨w.heap.size + 1 + 1, 0, none⟩ = some (.bool false) := by rw [Kaw2.out.cell]; rfl
  have cpb : w2.cell? ⟨w.heap.size + 1 + 1 + 1, 0, none⟩ = some (.bool false) := by rw [Kbw2.out.cell]; rfl
  go_wp2_with (first
     | (with_reducible show wpList _ _ _ (⟨some 76, _, _, _, _, _⟩ :: _) _ _; refine wpList_load_blk_if (by first | rfl | go_simp) 23 _ rfl (w.heap.size) rfl _ 23 Kow2.out _ Tryd.underlying23 rfl 32 size_digest ho.size ?_)
     | (with_reducible show wpList _ _ _ (⟨some 77, _, _, _, _, _⟩ :: _) _ _; refine wpList_load_blk_if (by first | rfl | go_simp) 23 _ rfl (w.heap.size + 1) rfl _ 23 Kiw2.out _ Tryd.underlying23 rfl 32 size_digest hi.size ?_)
     | (with_reducible show wpList _ _ _ (⟨some 79, _, _, _, _, _⟩ :: _) _ _; refine wpList_load_mid_if (by first | rfl | go_simp) 26 _ rfl (w.heap.size + 1 + 1 + 1) 33 rfl _ _ (sideC_proof he Kbw2.out) Tryd.underlying26 rfl (by rw [show (prC f (.slice ba bn bc)).length = 33 by simp [prC, hf.len]]; exact size_proof) ?_))
  clear cpa cpb
  refine (I2.out _ (HM.out.below HBw2.out) (Htab.out.below HBw2.out)).mono ?_
  rintro e w3 ⟨rfl, bw3⟩
  have HBw3 := hid (Below.on HBw2.out bw3)
  have hsw3 := HBw3.out.size
  have Kow3 := hid (Kow2.out.below bw3)
  have Kiw3 := hid (Kiw2.out.below bw3)
  have Kaw3 := hid (Kaw2.out.below bw3)
  have Kbw3 := hid (Kbw2.out.below bw3)
  clear bw3
  have cpa : w3.cell? ⟨w.heap.size + 1 + 1, 0, none⟩ = some (.bool false) := by rw [Kaw3.out.cell]; rfl
  have cpb : w3.cell? ⟨w.heap.size + 1 + 1 + 1, 0, none⟩ = some (.bool false) := by rw [Kbw3.out.cell]; rfl
  go_wp2_with fail
  clear cpa cpb
  refine (lnone_yes _).mono ?_
  rintro e w4 ⟨rfl, bw4⟩
  have HBw4 := hid (Below.on HBw3.out bw4)
  have hsw4 := HBw4.out.size
  have Kow4 := hid (Kow3.out.below bw4)
  have Kiw4 := hid (Kiw3.out.below bw4)
  have Kaw4 := hid (Kaw3.out.below bw4)
  have Kbw4 := hid (Kbw3.out.below bw4)
  clear bw4
  go_wp2_with fail
  refine (knows23 _ (Htab.out.below HBw4.out)).mono ?_
  rintro e w5 ⟨rfl, bw5⟩
  have HBw5 := hid (Below.on HBw4.out bw5)
  have hsw5 := HBw5.out.size
  have Kow5 := hid (Kow4.out.below bw5)
  have Kiw5 := hid (Kiw4.out.below bw5)
  have Kaw5 := hid (Kaw4.out.below bw5)
  have Kbw5 := hid (Kbw4.out.below bw5)
  clear bw5
  go_wp2_with fail
  go_returns
  exact ⟨by first | rfl | simp, HBw5.out⟩
end Go.Proofs.YtkakoiaahgchmaaDoor
namespace Go.Proofs.YtkakoiaahgchmaaDoor
set_option maxRecDepth 100000
open Go.ChangeShapes Go.WideShapes Go.ChangeAt Go.RowKit
set_option maxHeartbeats 4000000 in
theorem extrees_far_true_true (o i c d e f : List Int) (aa ba : Option Addr) (an ac bn bc : Nat) (ns ms : List (List Int)) (w : World) (_ho : Dg o) (_hi : Dg i) (hc : Dg c) (hd : Dg d) (_he : Dg e) (_hf : Dg f) (_hN : DigsAt w aa an ac ns) (_hM : DigsAt w ba bn bc ms) (tab : ShaTab w) (hb1 : 300 < an) :
    Calls Tryd.prog 5 #[.agg (o.map (Value.int .u8)).toArray, .agg (i.map (Value.int .u8)).toArray, .agg (sideC true c d (.slice aa an ac)).toArray, .agg (sideC true e f (.slice ba bn bc)).toArray] w fun e' w' => e' = .returned (.bool true) ∧ Below w.heap.size w w' := by
  have b1 := (Below.refl w.heap.size w).alloc (Nat.le_refl _) (.cells (o.map (Value.int .u8)).toArray 23 (0, 0))
  have b2 := b1.alloc b1.size (.cells (i.map (Value.int .u8)).toArray 23 (0, 0))
  have b3 := b2.alloc b2.size (.cells (sideC true c d (.slice aa an ac)).toArray 28 (0, 0))
  have b4 := b3.alloc b3.size (.cells (sideC true e f (.slice ba bn bc)).toArray 28 (0, 0))
  have Ko := hid ((((Blk.new (w := w) (n := w.heap.size) rfl (o.map (Value.int .u8)).toArray 23).old (.cells (i.map (Value.int .u8)).toArray 23 (0, 0))).old (.cells (sideC true c d (.slice aa an ac)).toArray 28 (0, 0))).old (.cells (sideC true e f (.slice ba bn bc)).toArray 28 (0, 0)))
  have Ki := hid (((Blk.new (w := (w.alloc (.cells (o.map (Value.int .u8)).toArray 23 (0, 0)))) (n := w.heap.size + 1) (by simp only [World.size_alloc]) (i.map (Value.int .u8)).toArray 23).old (.cells (sideC true c d (.slice aa an ac)).toArray 28 (0, 0))).old (.cells (sideC true e f (.slice ba bn bc)).toArray 28 (0, 0)))
  have Ka := hid ((Blk.new (w := ((w.alloc (.cells (o.map (Value.int .u8)).toArray 23 (0, 0))).alloc (.cells (i.map (Value.int .u8)).toArray 23 (0, 0)))) (n := w.heap.size + 1 + 1) (by simp only [World.size_alloc]) (sideC true c d (.slice aa an ac)).toArray 28).old (.cells (sideC true e f (.slice ba bn bc)).toArray 28 (0, 0)))
  have Kb := hid (Blk.new (w := (((w.alloc (.cells (o.map (Value.int .u8)).toArray 23 (0, 0))).alloc (.cells (i.map (Value.int .u8)).toArray 23 (0, 0))).alloc (.cells (sideC true c d (.slice aa an ac)).toArray 28 (0, 0)))) (n := w.heap.size + 1 + 1 + 1) (by simp only [World.size_alloc]) (sideC true e f (.slice ba bn bc)).toArray 28)
  have Hb := hid b4
  have hbz := b4.size
  have Hbs := hid (show w.heap.size + 1 + 1 + 1 + 1 = ((((w.alloc (.cells (o.map (Value.int .u8)).toArray 23 (0, 0))).alloc (.cells (i.map (Value.int .u8)).toArray 23 (0, 0))).alloc (.cells (sideC true c d (.slice aa an ac)).toArray 28 (0, 0))).alloc (.cells (sideC true e f (.slice ba bn bc)).toArray 28 (0, 0))).heap.size by simp only [World.size_alloc])
  have Htab := hid tab
  clear b1 b2 b3 b4 tab 
  have hca : (300 : Int) < (an : Int) := by omega
  have cna : ((((w.alloc (.cells (o.map (Value.int .u8)).toArray 23 (0, 0))).alloc (.cells (i.map (Value.int .u8)).toArray 23 (0, 0))).alloc (.cells (sideC true c d (.slice aa an ac)).toArray 28 (0, 0))).alloc (.cells (sideC true e f (.slice ba bn bc)).toArray 28 (0, 0))).cell? ⟨w.heap.size + 1 + 1, 33 + 32, none⟩ = some (.slice aa an ac) := sideC_nodes' hc hd Ka.out
  go_enter Tryd.func5, Tryd.ntmps5
  go_wp2_with fail
  clear cna
  refine (knows23 _ (Htab.out.below Hb.out)).mono ?_
  rintro e w1 ⟨rfl, bw1⟩
  have HBw1 := hid (Below.on Hb.out bw1)
  have hsw1 := HBw1.out.size
  have Kow1 := hid (Ko.out.below bw1)
  have Kiw1 := hid (Ki.out.below bw1)
  have Kaw1 := hid (Ka.out.below bw1)
  have Kbw1 := hid (Kb.out.below bw1)
  clear bw1
  go_wp2_with fail
  go_returns
  exact ⟨by first | rfl | simp, HBw1.out⟩
set_option maxHeartbeats 4000000 in
theorem extrees_gone_true_true (o i c d e f : List Int) (aa ba : Option Addr) (an ac bn bc : Nat) (ns ms : List (List Int)) (w : World) (_ho : Dg o) (_hi : Dg i) (hc : Dg c) (hd : Dg d) (he : Dg e) (hf : Dg f) (_hN : DigsAt w aa an ac ns) (_hM : DigsAt w ba bn bc ms) (tab : ShaTab w) (hb1 : an ≤ 300) (hb2 : 300 < bn) :
    Calls Tryd.prog 5 #[.agg (o.map (Value.int .u8)).toArray, .agg (i.map (Value.int .u8)).toArray, .agg (sideC true c d (.slice aa an ac)).toArray, .agg (sideC true e f (.slice ba bn bc)).toArray] w fun e' w' => e' = .returned (.bool true) ∧ Below w.heap.size w w' := by
  have b1 := (Below.refl w.heap.size w).alloc (Nat.le_refl _) (.cells (o.map (Value.int .u8)).toArray 23 (0, 0))
  have b2 := b1.alloc b1.size (.cells (i.map (Value.int .u8)).toArray 23 (0, 0))
  have b3 := b2.alloc b2.size (.cells (sideC true c d (.slice aa an ac)).toArray 28 (0, 0))
  have b4 := b3.alloc b3.size (.cells (sideC true e f (.slice ba bn bc)).toArray 28 (0, 0))
  have Ko := hid ((((Blk.new (w := w) (n := w.heap.size) rfl (o.map (Value.int .u8)).toArray 23).old (.cells (i.map (Value.int .u8)).toArray 23 (0, 0))).old (.cells (sideC true c d (.slice aa an ac)).toArray 28 (0, 0))).old (.cells (sideC true e f (.slice ba bn bc)).toArray 28 (0, 0)))
  have Ki := hid (((Blk.new (w := (w.alloc (.cells (o.map (Value.int .u8)).toArray 23 (0, 0)))) (n := w.heap.size + 1) (by simp only [World.size_alloc]) (i.map (Value.int .u8)).toArray 23).old (.cells (sideC true c d (.slice aa an ac)).toArray 28 (0, 0))).old (.cells (sideC true e f (.slice ba bn bc)).toArray 28 (0, 0)))
  have Ka := hid ((Blk.new (w := ((w.alloc (.cells (o.map (Value.int .u8)).toArray 23 (0, 0))).alloc (.cells (i.map (Value.int .u8)).toArray 23 (0, 0)))) (n := w.heap.size + 1 + 1) (by simp only [World.size_alloc]) (sideC true c d (.slice aa an ac)).toArray 28).old (.cells (sideC true e f (.slice ba bn bc)).toArray 28 (0, 0)))
  have Kb := hid (Blk.new (w := (((w.alloc (.cells (o.map (Value.int .u8)).toArray 23 (0, 0))).alloc (.cells (i.map (Value.int .u8)).toArray 23 (0, 0))).alloc (.cells (sideC true c d (.slice aa an ac)).toArray 28 (0, 0)))) (n := w.heap.size + 1 + 1 + 1) (by simp only [World.size_alloc]) (sideC true e f (.slice ba bn bc)).toArray 28)
  have Hb := hid b4
  have hbz := b4.size
  have Hbs := hid (show w.heap.size + 1 + 1 + 1 + 1 = ((((w.alloc (.cells (o.map (Value.int .u8)).toArray 23 (0, 0))).alloc (.cells (i.map (Value.int .u8)).toArray 23 (0, 0))).alloc (.cells (sideC true c d (.slice aa an ac)).toArray 28 (0, 0))).alloc (.cells (sideC true e f (.slice ba bn bc)).toArray 28 (0, 0))).heap.size by simp only [World.size_alloc])
  have Htab := hid tab
  clear b1 b2 b3 b4 tab 
  have hca : ¬ (300 : Int) < (an : Int) := by omega
  have hcb : (300 : Int) < (bn : Int) := by omega
  have cna : ((((w.alloc (.cells (o.map (Value.int .u8)).toArray 23 (0, 0))).alloc (.cells (i.map (Value.int .u8)).toArray 23 (0, 0))).alloc (.cells (sideC true c d (.slice aa an ac)).toArray 28 (0, 0))).alloc (.cells (sideC true e f (.slice ba bn bc)).toArray 28 (0, 0))).cell? ⟨w.heap.size + 1 + 1, 33 + 32, none⟩ = some (.slice aa an ac) := sideC_nodes' hc hd Ka.out
  have cnb : ((((w.alloc (.cells (o.map (Value.int .u8)).toArray 23 (0, 0))).alloc (.cells (i.map (Value.int .u8)).toArray 23 (0, 0))).alloc (.cells (sideC true c d (.slice aa an ac)).toArray 28 (0, 0))).alloc (.cells (sideC true e f (.slice ba bn bc)).toArray 28 (0, 0))).cell? ⟨w.heap.size + 1 + 1 + 1, 33 + 32, none⟩ = some (.slice ba bn bc) := sideC_nodes' he hf Kb.out
  go_enter Tryd.func5, Tryd.ntmps5
  go_wp2_with fail
  clear cna cnb
  refine (knows23 _ (Htab.out.below Hb.out)).mono ?_
  rintro e w1 ⟨rfl, bw1⟩
  have HBw1 := hid (Below.on Hb.out bw1)
  have hsw1 := HBw1.out.size
  have Kow1 := hid (Ko.out.below bw1)
  have Kiw1 := hid (Ki.out.below bw1)
  have Kaw1 := hid (Ka.out.below bw1)
  have Kbw1 := hid (Kb.out.below bw1)
  clear bw1
  go_wp2_with fail
  go_returns
  exact ⟨by first | rfl | simp, HBw1.out⟩
set_option maxHeartbeats 4000000 in
theorem extrees_far_true_false (o i c d e f : List Int) (aa ba : Option Addr) (an ac bn bc : Nat) (ns ms : List (List Int)) (w : World) (_ho : Dg o) (_hi : Dg i) (hc : Dg c) (hd : Dg d) (_he : Dg e) (_hf : Dg f) (_hN : DigsAt w aa an ac ns) (_hM : DigsAt w ba bn bc ms) (tab : ShaTab w) (hb1 : 300 < an) :
    Calls Tryd.prog 5 #[.agg (o.map (Value.int .u8)).toArray, .agg (i.map (Value.int .u8)).toArray, .agg (sideC true c d (.slice aa an ac)).toArray, .agg (sideC false e f (.slice ba bn bc)).toArray] w fun e' w' => e' = .returned (.bool true) ∧ Below w.heap.size w w' := by
  have b1 := (Below.refl w.heap.size w).alloc (Nat.le_refl _) (.cells (o.map (Value.int .u8)).toArray 23 (0, 0))
  have b2 := b1.alloc b1.size (.cells (i.map (Value.int .u8)).toArray 23 (0, 0))
  have b3 := b2.alloc b2.size (.cells (sideC true c d (.slice aa an ac)).toArray 28 (0, 0))
  have b4 := b3.alloc b3.size (.cells (sideC false e f (.slice ba bn bc)).toArray 28 (0, 0))
  have Ko := hid ((((Blk.new (w := w) (n := w.heap.size) rfl (o.map (Value.int .u8)).toArray 23).old (.cells (i.map (Value.int .u8)).toArray 23 (0, 0))).old (.cells (sideC true c d (.slice aa an ac)).toArray 28 (0, 0))).old (.cells (sideC false e f (.slice ba bn bc)).toArray 28 (0, 0)))
  have Ki := hid (((Blk.new (w := (w.alloc (.cells (o.map (Value.int .u8)).toArray 23 (0, 0)))) (n := w.heap.size + 1) (by simp only [World.size_alloc]) (i.map (Value.int .u8)).toArray 23).old (.cells (sideC true c d (.slice aa an ac)).toArray 28 (0, 0))).old (.cells (sideC false e f (.slice ba bn bc)).toArray 28 (0, 0)))
  have Ka := hid ((Blk.new (w := ((w.alloc (.cells (o.map (Value.int .u8)).toArray 23 (0, 0))).alloc (.cells (i.map (Value.int .u8)).toArray 23 (0, 0)))) (n := w.heap.size + 1 + 1) (by simp only [World.size_alloc]) (sideC true c d (.slice aa an ac)).toArray 28).old (.cells (sideC false e f (.slice ba bn bc)).toArray 28 (0, 0)))
  have Kb := hid (Blk.new (w := (((w.alloc (.cells (o.map (Value.int .u8)).toArray 23 (0, 0))).alloc (.cells (i.map (Value.int .u8)).toArray 23 (0, 0))).alloc (.cells (sideC true c d (.slice aa an ac)).toArray 28 (0, 0)))) (n := w.heap.size + 1 + 1 + 1) (by simp only [World.size_alloc]) (sideC false e f (.slice ba bn bc)).toArray 28)
  have Hb := hid b4
  have hbz := b4.size
  have Hbs := hid (show w.heap.size + 1 + 1 + 1 + 1 = ((((w.alloc (.cells (o.map (Value.int .u8)).toArray 23 (0, 0))).alloc (.cells (i.map (Value.int .u8)).toArray 23 (0, 0))).alloc (.cells (sideC true c d (.slice aa an ac)).toArray 28 (0, 0))).alloc (.cells (sideC false e f (.slice ba bn bc)).toArray 28 (0, 0))).heap.size by simp only [World.size_alloc])
  have Htab := hid tab
  clear b1 b2 b3 b4 tab 
  have hca : (300 : Int) < (an : Int) := by omega
  have cna : ((((w.alloc (.cells (o.map (Value.int .u8)).toArray 23 (0, 0))).alloc (.cells (i.map (Value.int .u8)).toArray 23 (0, 0))).alloc (.cells (sideC true c d (.slice aa an ac)).toArray 28 (0, 0))).alloc (.cells (sideC false e f (.slice ba bn bc)).toArray 28 (0, 0))).cell? ⟨w.heap.size + 1 + 1, 33 + 32, none⟩ = some (.slice aa an ac) := sideC_nodes' hc hd Ka.out
  go_enter Tryd.func5, Tryd.ntmps5
  go_wp2_with fail
  clear cna
  refine (knows23 _ (Htab.out.below Hb.out)).mono ?_
  rintro e w1 ⟨rfl, bw1⟩
  have HBw1 := hid (Below.on Hb.out bw1)
  have hsw1 := HBw1.out.size
  have Kow1 := hid (Ko.out.below bw1)
  have Kiw1 := hid (Ki.out.below bw1)
  have Kaw1 := hid (Ka.out.below bw1)
  have Kbw1 := hid (Kb.out.below bw1)
  clear bw1
  go_wp2_with fail
  go_returns
  exact ⟨by first | rfl | simp, HBw1.out⟩
set_option maxHeartbeats 4000000 in
theorem extrees_gone_true_false (o i c d e f : List Int) (aa ba : Option Addr) (an ac bn bc : Nat) (ns ms : List (List Int)) (w : World) (_ho : Dg o) (_hi : Dg i) (hc : Dg c) (hd : Dg d) (he : Dg e) (hf : Dg f) (_hN : DigsAt w aa an ac ns) (_hM : DigsAt w ba bn bc ms) (tab : ShaTab w) (hb1 : an ≤ 300) (hb2 : 300 < bn) :
    Calls Tryd.prog 5 #[.agg (o.map (Value.int .u8)).toArray, .agg (i.map (Value.int .u8)).toArray, .agg (sideC true c d (.slice aa an ac)).toArray, .agg (sideC false e f (.slice ba bn bc)).toArray] w fun e' w' => e' = .returned (.bool true) ∧ Below w.heap.size w w' := by
  have b1 := (Below.refl w.heap.size w).alloc (Nat.le_refl _) (.cells (o.map (Value.int .u8)).toArray 23 (0, 0))
  have b2 := b1.alloc b1.size (.cells (i.map (Value.int .u8)).toArray 23 (0, 0))
  have b3 := b2.alloc b2.size (.cells (sideC true c d (.slice aa an ac)).toArray 28 (0, 0))
  have b4 := b3.alloc b3.size (.cells (sideC false e f (.slice ba bn bc)).toArray 28 (0, 0))
  have Ko := hid ((((Blk.new (w := w) (n := w.heap.size) rfl (o.map (Value.int .u8)).toArray 23).old (.cells (i.map (Value.int .u8)).toArray 23 (0, 0))).old (.cells (sideC true c d (.slice aa an ac)).toArray 28 (0, 0))).old (.cells (sideC false e f (.slice ba bn bc)).toArray 28 (0, 0)))
  have Ki := hid (((Blk.new (w := (w.alloc (.cells (o.map (Value.int .u8)).toArray 23 (0, 0)))) (n := w.heap.size + 1) (by simp only [World.size_alloc]) (i.map (Value.int .u8)).toArray 23).old (.cells (sideC true c d (.slice aa an ac)).toArray 28 (0, 0))).old (.cells (sideC false e f (.slice ba bn bc)).toArray 28 (0, 0)))
  have Ka := hid ((Blk.new (w := ((w.alloc (.cells (o.map (Value.int .u8)).toArray 23 (0, 0))).alloc (.cells (i.map (Value.int .u8)).toArray 23 (0, 0)))) (n := w.heap.size + 1 + 1) (by simp only [World.size_alloc]) (sideC true c d (.slice aa an ac)).toArray 28).old (.cells (sideC false e f (.slice ba bn bc)).toArray 28 (0, 0)))
  have Kb := hid (Blk.new (w := (((w.alloc (.cells (o.map (Value.int .u8)).toArray 23 (0, 0))).alloc (.cells (i.map (Value.int .u8)).toArray 23 (0, 0))).alloc (.cells (sideC true c d (.slice aa an ac)).toArray 28 (0, 0)))) (n := w.heap.size + 1 + 1 + 1) (by simp only [World.size_alloc]) (sideC false e f (.slice ba bn bc)).toArray 28)
  have Hb := hid b4
  have hbz := b4.size
  have Hbs := hid (show w.heap.size + 1 + 1 + 1 + 1 = ((((w.alloc (.cells (o.map (Value.int .u8)).toArray 23 (0, 0))).alloc (.cells (i.map (Value.int .u8)).toArray 23 (0, 0))).alloc (.cells (sideC true c d (.slice aa an ac)).toArray 28 (0, 0))).alloc (.cells (sideC false e f (.slice ba bn bc)).toArray 28 (0, 0))).heap.size by simp only [World.size_alloc])
  have Htab := hid tab
  clear b1 b2 b3 b4 tab 
  have hca : ¬ (300 : Int) < (an : Int) := by omega
  have hcb : (300 : Int) < (bn : Int) := by omega
  have cna : ((((w.alloc (.cells (o.map (Value.int .u8)).toArray 23 (0, 0))).alloc (.cells (i.map (Value.int .u8)).toArray 23 (0, 0))).alloc (.cells (sideC true c d (.slice aa an ac)).toArray 28 (0, 0))).alloc (.cells (sideC false e f (.slice ba bn bc)).toArray 28 (0, 0))).cell? ⟨w.heap.size + 1 + 1, 33 + 32, none⟩ = some (.slice aa an ac) := sideC_nodes' hc hd Ka.out
  have cnb : ((((w.alloc (.cells (o.map (Value.int .u8)).toArray 23 (0, 0))).alloc (.cells (i.map (Value.int .u8)).toArray 23 (0, 0))).alloc (.cells (sideC true c d (.slice aa an ac)).toArray 28 (0, 0))).alloc (.cells (sideC false e f (.slice ba bn bc)).toArray 28 (0, 0))).cell? ⟨w.heap.size + 1 + 1 + 1, 33 + 32, none⟩ = some (.slice ba bn bc) := sideC_nodes' he hf Kb.out
  go_enter Tryd.func5, Tryd.ntmps5
  go_wp2_with fail
  clear cna cnb
  refine (knows23 _ (Htab.out.below Hb.out)).mono ?_
  rintro e w1 ⟨rfl, bw1⟩
  have HBw1 := hid (Below.on Hb.out bw1)
  have hsw1 := HBw1.out.size
  have Kow1 := hid (Ko.out.below bw1)
  have Kiw1 := hid (Ki.out.below bw1)
  have Kaw1 := hid (Ka.out.below bw1)
  have Kbw1 := hid (Kb.out.below bw1)
  clear bw1
  go_wp2_with fail
  go_returns
  exact ⟨by first | rfl | simp, HBw1.out⟩
set_option maxHeartbeats 4000000 in
theorem extrees_far_false_true (o i c d e f : List Int) (aa ba : Option Addr) (an ac bn bc : Nat) (ns ms : List (List Int)) (w : World) (_ho : Dg o) (_hi : Dg i) (hc : Dg c) (hd : Dg d) (_he : Dg e) (_hf : Dg f) (_hN : DigsAt w aa an ac ns) (_hM : DigsAt w ba bn bc ms) (tab : ShaTab w) (hb1 : 300 < an) :
    Calls Tryd.prog 5 #[.agg (o.map (Value.int .u8)).toArray, .agg (i.map (Value.int .u8)).toArray, .agg (sideC false c d (.slice aa an ac)).toArray, .agg (sideC true e f (.slice ba bn bc)).toArray] w fun e' w' => e' = .returned (.bool true) ∧ Below w.heap.size w w' := by
  have b1 := (Below.refl w.heap.size w).alloc (Nat.le_refl _) (.cells (o.map (Value.int .u8)).toArray 23 (0, 0))
  have b2 := b1.alloc b1.size (.cells (i.map (Value.int .u8)).toArray 23 (0, 0))
  have b3 := b2.alloc b2.size (.cells (sideC false c d (.slice aa an ac)).toArray 28 (0, 0))
  have b4 := b3.alloc b3.size (.cells (sideC true e f (.slice ba bn bc)).toArray 28 (0, 0))
  have Ko := hid ((((Blk.new (w := w) (n := w.heap.size) rfl (o.map (Value.int .u8)).toArray 23).old (.cells (i.map (Value.int .u8)).toArray 23 (0, 0))).old (.cells (sideC false c d (.slice aa an ac)).toArray 28 (0, 0))).old (.cells (sideC true e f (.slice ba bn bc)).toArray 28 (0, 0)))
  have Ki := hid (((Blk.new (w := (w.alloc (.cells (o.map (Value.int .u8)).toArray 23 (0, 0)))) (n := w.heap.size + 1) (by simp only [World.size_alloc]) (i.map (Value.int .u8)).toArray 23).old (.cells (sideC false c d (.slice aa an ac)).toArray 28 (0, 0))).old (.cells (sideC true e f (.slice ba bn bc)).toArray 28 (0, 0)))
  have Ka := hid ((Blk.new (w := ((w.alloc (.cells (o.map (Value.int .u8)).toArray 23 (0, 0))).alloc (.cells (i.map (Value.int .u8)).toArray 23 (0, 0)))) (n := w.heap.size + 1 + 1) (by simp only [World.size_alloc]) (sideC false c d (.slice aa an ac)).toArray 28).old (.cells (sideC true e f (.slice ba bn bc)).toArray 28 (0, 0)))
  have Kb := hid (Blk.new (w := (((w.alloc (.cells (o.map (Value.int .u8)).toArray 23 (0, 0))).alloc (.cells (i.map (Value.int .u8)).toArray 23 (0, 0))).alloc (.cells (sideC false c d (.slice aa an ac)).toArray 28 (0, 0)))) (n := w.heap.size + 1 + 1 + 1) (by simp only [World.size_alloc]) (sideC true e f (.slice ba bn bc)).toArray 28)
  have Hb := hid b4
  have hbz := b4.size
  have Hbs := hid (show w.heap.size + 1 + 1 + 1 + 1 = ((((w.alloc (.cells (o.map (Value.int .u8)).toArray 23 (0, 0))).alloc (.cells (i.map (Value.int .u8)).toArray 23 (0, 0))).alloc (.cells (sideC false c d (.slice aa an ac)).toArray 28 (0, 0))).alloc (.cells (sideC true e f (.slice ba bn bc)).toArray 28 (0, 0))).heap.size by simp only [World.size_alloc])
  have Htab := hid tab
  clear b1 b2 b3 b4 tab 
  have hca : (300 : Int) < (an : Int) := by omega
  have cna : ((((w.alloc (.cells (o.map (Value.int .u8)).toArray 23 (0, 0))).alloc (.cells (i.map (Value.int .u8)).toArray 23 (0, 0))).alloc (.cells (sideC false c d (.slice aa an ac)).toArray 28 (0, 0))).alloc (.cells (sideC true e f (.slice ba bn bc)).toArray 28 (0, 0))).cell? ⟨w.heap.size + 1 + 1, 33 + 32, none⟩ = some (.slice aa an ac) := sideC_nodes' hc hd Ka.out
  go_enter Tryd.func5, Tryd.ntmps5
  go_wp2_with fail
  clear cna
  refine (knows23 _ (Htab.out.below Hb.out)).mono ?_
  rintro e w1 ⟨rfl, bw1⟩
  have HBw1 := hid (Below.on Hb.out bw1)
  have hsw1 := HBw1.out.size
  have Kow1 := hid (Ko.out.below bw1)
  have Kiw1 := hid (Ki.out.below bw1)
  have Kaw1 := hid (Ka.out.below bw1)
  have Kbw1 := hid (Kb.out.below bw1)
  clear bw1
  go_wp2_with fail
  go_returns
  exact ⟨by first | rfl | simp, HBw1.out⟩
set_option maxHeartbeats 4000000 in
theorem extrees_gone_false_true (o i c d e f : List Int) (aa ba : Option Addr) (an ac bn bc : Nat) (ns ms : List (List Int)) (w : World) (_ho : Dg o) (_hi : Dg i) (hc : Dg c) (hd : Dg d) (he : Dg e) (hf : Dg f) (_hN : DigsAt w aa an ac ns) (_hM : DigsAt w ba bn bc ms) (tab : ShaTab w) (hb1 : an ≤ 300) (hb2 : 300 < bn) :
    Calls Tryd.prog 5 #[.agg (o.map (Value.int .u8)).toArray, .agg (i.map (Value.int .u8)).toArray, .agg (sideC false c d (.slice aa an ac)).toArray, .agg (sideC true e f (.slice ba bn bc)).toArray] w fun e' w' => e' = .returned (.bool true) ∧ Below w.heap.size w w' := by
  have b1 := (Below.refl w.heap.size w).alloc (Nat.le_refl _) (.cells (o.map (Value.int .u8)).toArray 23 (0, 0))
  have b2 := b1.alloc b1.size (.cells (i.map (Value.int .u8)).toArray 23 (0, 0))
  have b3 := b2.alloc b2.size (.cells (sideC false c d (.slice aa an ac)).toArray 28 (0, 0))
  have b4 := b3.alloc b3.size (.cells (sideC true e f (.slice ba bn bc)).toArray 28 (0, 0))
  have Ko := hid ((((Blk.new (w := w) (n := w.heap.size) rfl (o.map (Value.int .u8)).toArray 23).old (.cells (i.map (Value.int .u8)).toArray 23 (0, 0))).old (.cells (sideC false c d (.slice aa an ac)).toArray 28 (0, 0))).old (.cells (sideC true e f (.slice ba bn bc)).toArray 28 (0, 0)))
  have Ki := hid (((Blk.new (w := (w.alloc (.cells (o.map (Value.int .u8)).toArray 23 (0, 0)))) (n := w.heap.size + 1) (by simp only [World.size_alloc]) (i.map (Value.int .u8)).toArray 23).old (.cells (sideC false c d (.slice aa an ac)).toArray 28 (0, 0))).old (.cells (sideC true e f (.slice ba bn bc)).toArray 28 (0, 0)))
  have Ka := hid ((Blk.new (w := ((w.alloc (.cells (o.map (Value.int .u8)).toArray 23 (0, 0))).alloc (.cells (i.map (Value.int .u8)).toArray 23 (0, 0)))) (n := w.heap.size + 1 + 1) (by simp only [World.size_alloc]) (sideC false c d (.slice aa an ac)).toArray 28).old (.cells (sideC true e f (.slice ba bn bc)).toArray 28 (0, 0)))
  have Kb := hid (Blk.new (w := (((w.alloc (.cells (o.map (Value.int .u8)).toArray 23 (0, 0))).alloc (.cells (i.map (Value.int .u8)).toArray 23 (0, 0))).alloc (.cells (sideC false c d (.slice aa an ac)).toArray 28 (0, 0)))) (n := w.heap.size + 1 + 1 + 1) (by simp only [World.size_alloc]) (sideC true e f (.slice ba bn bc)).toArray 28)
  have Hb := hid b4
  have hbz := b4.size
  have Hbs := hid (show w.heap.size + 1 + 1 + 1 + 1 = ((((w.alloc (.cells (o.map (Value.int .u8)).toArray 23 (0, 0))).alloc (.cells (i.map (Value.int .u8)).toArray 23 (0, 0))).alloc (.cells (sideC false c d (.slice aa an ac)).toArray 28 (0, 0))).alloc (.cells (sideC true e f (.slice ba bn bc)).toArray 28 (0, 0))).heap.size by simp only [World.size_alloc])
  have Htab := hid tab
  clear b1 b2 b3 b4 tab 
  have hca : ¬ (300 : Int) < (an : Int) := by omega
  have hcb : (300 : Int) < (bn : Int) := by omega
  have cna : ((((w.alloc (.cells (o.map (Value.int .u8)).toArray 23 (0, 0))).alloc (.cells (i.map (Value.int .u8)).toArray 23 (0, 0))).alloc (.cells (sideC false c d (.slice aa an ac)).toArray 28 (0, 0))).alloc (.cells (sideC true e f (.slice ba bn bc)).toArray 28 (0, 0))).cell? ⟨w.heap.size + 1 + 1, 33 + 32, none⟩ = some (.slice aa an ac) := sideC_nodes' hc hd Ka.out
  have cnb : ((((w.alloc (.cells (o.map (Value.int .u8)).toArray 23 (0, 0))).alloc (.cells (i.map (Value.int .u8)).toArray 23 (0, 0))).alloc (.cells (sideC false c d (.slice aa an ac)).toArray 28 (0, 0))).alloc (.cells (sideC true e f (.slice ba bn bc)).toArray 28 (0, 0))).cell? ⟨w.heap.size + 1 + 1 + 1, 33 + 32, none⟩ = some (.slice ba bn bc) := sideC_nodes' he hf Kb.out
  go_enter Tryd.func5, Tryd.ntmps5
  go_wp2_with fail
  clear cna cnb
  refine (knows23 _ (Htab.out.below Hb.out)).mono ?_
  rintro e w1 ⟨rfl, bw1⟩
  have HBw1 := hid (Below.on Hb.out bw1)
  have hsw1 := HBw1.out.size
  have Kow1 := hid (Ko.out.below bw1)
  have Kiw1 := hid (Ki.out.below bw1)
  have Kaw1 := hid (Ka.out.below bw1)
  have Kbw1 := hid (Kb.out.below bw1)
  clear bw1
  go_wp2_with fail
  go_returns
  exact ⟨by first | rfl | simp, HBw1.out⟩
set_option maxHeartbeats 4000000 in
theorem extrees_far_false_false (o i c d e f : List Int) (aa ba : Option Addr) (an ac bn bc : Nat) (ns ms : List (List Int)) (w : World) (_ho : Dg o) (_hi : Dg i) (hc : Dg c) (hd : Dg d) (_he : Dg e) (_hf : Dg f) (_hN : DigsAt w aa an ac ns) (_hM : DigsAt w ba bn bc ms) (tab : ShaTab w) (hb1 : 300 < an) :
    Calls Tryd.prog 5 #[.agg (o.map (Value.int .u8)).toArray, .agg (i.map (Value.int .u8)).toArray, .agg (sideC false c d (.slice aa an ac)).toArray, .agg (sideC false e f (.slice ba bn bc)).toArray] w fun e' w' => e' = .returned (.bool true) ∧ Below w.heap.size w w' := by
  have b1 := (Below.refl w.heap.size w).alloc (Nat.le_refl _) (.cells (o.map (Value.int .u8)).toArray 23 (0, 0))
  have b2 := b1.alloc b1.size (.cells (i.map (Value.int .u8)).toArray 23 (0, 0))
  have b3 := b2.alloc b2.size (.cells (sideC false c d (.slice aa an ac)).toArray 28 (0, 0))
  have b4 := b3.alloc b3.size (.cells (sideC false e f (.slice ba bn bc)).toArray 28 (0, 0))
  have Ko := hid ((((Blk.new (w := w) (n := w.heap.size) rfl (o.map (Value.int .u8)).toArray 23).old (.cells (i.map (Value.int .u8)).toArray 23 (0, 0))).old (.cells (sideC false c d (.slice aa an ac)).toArray 28 (0, 0))).old (.cells (sideC false e f (.slice ba bn bc)).toArray 28 (0, 0)))
  have Ki := hid (((Blk.new (w := (w.alloc (.cells (o.map (Value.int .u8)).toArray 23 (0, 0)))) (n := w.heap.size + 1) (by simp only [World.size_alloc]) (i.map (Value.int .u8)).toArray 23).old (.cells (sideC false c d (.slice aa an ac)).toArray 28 (0, 0))).old (.cells (sideC false e f (.slice ba bn bc)).toArray 28 (0, 0)))
  have Ka := hid ((Blk.new (w := ((w.alloc (.cells (o.map (Value.int .u8)).toArray 23 (0, 0))).alloc (.cells (i.map (Value.int .u8)).toArray 23 (0, 0)))) (n := w.heap.size + 1 + 1) (by simp only [World.size_alloc]) (sideC false c d (.slice aa an ac)).toArray 28).old (.cells (sideC false e f (.slice ba bn bc)).toArray 28 (0, 0)))
  have Kb := hid (Blk.new (w := (((w.alloc (.cells (o.map (Value.int .u8)).toArray 23 (0, 0))).alloc (.cells (i.map (Value.int .u8)).toArray 23 (0, 0))).alloc (.cells (sideC false c d (.slice aa an ac)).toArray 28 (0, 0)))) (n := w.heap.size + 1 + 1 + 1) (by simp only [World.size_alloc]) (sideC false e f (.slice ba bn bc)).toArray 28)
  have Hb := hid b4
  have hbz := b4.size
  have Hbs := hid (show w.heap.size + 1 + 1 + 1 + 1 = ((((w.alloc (.cells (o.map (Value.int .u8)).toArray 23 (0, 0))).alloc (.cells (i.map (Value.int .u8)).toArray 23 (0, 0))).alloc (.cells (sideC false c d (.slice aa an ac)).toArray 28 (0, 0))).alloc (.cells (sideC false e f (.slice ba bn bc)).toArray 28 (0, 0))).heap.size by simp only [World.size_alloc])
  have Htab := hid tab
  clear b1 b2 b3 b4 tab 
  have hca : (300 : Int) < (an : Int) := by omega
  have cna : ((((w.alloc (.cells (o.map (Value.int .u8)).toArray 23 (0, 0))).alloc (.cells (i.map (Value.int .u8)).toArray 23 (0, 0))).alloc (.cells (sideC false c d (.slice aa an ac)).toArray 28 (0, 0))).alloc (.cells (sideC false e f (.slice ba bn bc)).toArray 28 (0, 0))).cell? ⟨w.heap.size + 1 + 1, 33 + 32, none⟩ = some (.slice aa an ac) := sideC_nodes' hc hd Ka.out
  go_enter Tryd.func5, Tryd.ntmps5
  go_wp2_with fail
  clear cna
  refine (knows23 _ (Htab.out.below Hb.out)).mono ?_
  rintro e w1 ⟨rfl, bw1⟩
  have HBw1 := hid (Below.on Hb.out bw1)
  have hsw1 := HBw1.out.size
  have Kow1 := hid (Ko.out.below bw1)
  have Kiw1 := hid (Ki.out.below bw1)
  have Kaw1 := hid (Ka.out.below bw1)
  have Kbw1 := hid (Kb.out.below bw1)
  clear bw1
  go_wp2_with fail
  go_returns
  exact ⟨by first | rfl | simp, HBw1.out⟩
set_option maxHeartbeats 4000000 in
theorem extrees_gone_false_false (o i c d e f : List Int) (aa ba : Option Addr) (an ac bn bc : Nat) (ns ms : List (List Int)) (w : World) (_ho : Dg o) (_hi : Dg i) (hc : Dg c) (hd : Dg d) (he : Dg e) (hf : Dg f) (_hN : DigsAt w aa an ac ns) (_hM : DigsAt w ba bn bc ms) (tab : ShaTab w) (hb1 : an ≤ 300) (hb2 : 300 < bn) :
    Calls Tryd.prog 5 #[.agg (o.map (Value.int .u8)).toArray, .agg (i.map (Value.int .u8)).toArray, .agg (sideC false c d (.slice aa an ac)).toArray, .agg (sideC false e f (.slice ba bn bc)).toArray] w fun e' w' => e' = .returned (.bool true) ∧ Below w.heap.size w w' := by
  have b1 := (Below.refl w.heap.size w).alloc (Nat.le_refl _) (.cells (o.map (Value.int .u8)).toArray 23 (0, 0))
  have b2 := b1.alloc b1.size (.cells (i.map (Value.int .u8)).toArray 23 (0, 0))
  have b3 := b2.alloc b2.size (.cells (sideC false c d (.slice aa an ac)).toArray 28 (0, 0))
  have b4 := b3.alloc b3.size (.cells (sideC false e f (.slice ba bn bc)).toArray 28 (0, 0))
  have Ko := hid ((((Blk.new (w := w) (n := w.heap.size) rfl (o.map (Value.int .u8)).toArray 23).old (.cells (i.map (Value.int .u8)).toArray 23 (0, 0))).old (.cells (sideC false c d (.slice aa an ac)).toArray 28 (0, 0))).old (.cells (sideC false e f (.slice ba bn bc)).toArray 28 (0, 0)))
  have Ki := hid (((Blk.new (w := (w.alloc (.cells (o.map (Value.int .u8)).toArray 23 (0, 0)))) (n := w.heap.size + 1) (by simp only [World.size_alloc]) (i.map (Value.int .u8)).toArray 23).old (.cells (sideC false c d (.slice aa an ac)).toArray 28 (0, 0))).old (.cells (sideC false e f (.slice ba bn bc)).toArray 28 (0, 0)))
  have Ka := hid ((Blk.new (w := ((w.alloc (.cells (o.map (Value.int .u8)).toArray 23 (0, 0))).alloc (.cells (i.map (Value.int .u8)).toArray 23 (0, 0)))) (n := w.heap.size + 1 + 1) (by simp only [World.size_alloc]) (sideC false c d (.slice aa an ac)).toArray 28).old (.cells (sideC false e f (.slice ba bn bc)).toArray 28 (0, 0)))
  have Kb := hid (Blk.new (w := (((w.alloc (.cells (o.map (Value.int .u8)).toArray 23 (0, 0))).alloc (.cells (i.map (Value.int .u8)).toArray 23 (0, 0))).alloc (.cells (sideC false c d (.slice aa an ac)).toArray 28 (0, 0)))) (n := w.heap.size + 1 + 1 + 1) (by simp only [World.size_alloc]) (sideC false e f (.slice ba bn bc)).toArray 28)
  have Hb := hid b4
  have hbz := b4.size
  have Hbs := hid (show w.heap.size + 1 + 1 + 1 + 1 = ((((w.alloc (.cells (o.map (Value.int .u8)).toArray 23 (0, 0))).alloc (.cells (i.map (Value.int .u8)).toArray 23 (0, 0))).alloc (.cells (sideC false c d (.slice aa an ac)).toArray 28 (0, 0))).alloc (.cells (sideC false e f (.slice ba bn bc)).toArray 28 (0, 0))).heap.size by simp only [World.size_alloc])
  have Htab := hid tab
  clear b1 b2 b3 b4 tab 
  have hca : ¬ (300 : Int) < (an : Int) := by omega
  have hcb : (300 : Int) < (bn : Int) := by omega
  have cna : ((((w.alloc (.cells (o.map (Value.int .u8)).toArray 23 (0, 0))).alloc (.cells (i.map (Value.int .u8)).toArray 23 (0, 0))).alloc (.cells (sideC false c d (.slice aa an ac)).toArray 28 (0, 0))).alloc (.cells (sideC false e f (.slice ba bn bc)).toArray 28 (0, 0))).cell? ⟨w.heap.size + 1 + 1, 33 + 32, none⟩ = some (.slice aa an ac) := sideC_nodes' hc hd Ka.out
  have cnb : ((((w.alloc (.cells (o.map (Value.int .u8)).toArray 23 (0, 0))).alloc (.cells (i.map (Value.int .u8)).toArray 23 (0, 0))).alloc (.cells (sideC false c d (.slice aa an ac)).toArray 28 (0, 0))).alloc (.cells (sideC false e f (.slice ba bn bc)).toArray 28 (0, 0))).cell? ⟨w.heap.size + 1 + 1 + 1, 33 + 32, none⟩ = some (.slice ba bn bc) := sideC_nodes' he hf Kb.out
  go_enter Tryd.func5, Tryd.ntmps5
  go_wp2_with fail
  clear cna cnb
  refine (knows23 _ (Htab.out.below Hb.out)).mono ?_
  rintro e w1 ⟨rfl, bw1⟩
  have HBw1 := hid (Below.on Hb.out bw1)
  have hsw1 := HBw1.out.size
  have Kow1 := hid (Ko.out.below bw1)
  have Kiw1 := hid (Ki.out.below bw1)
  have Kaw1 := hid (Ka.out.below bw1)
  have Kbw1 := hid (Kb.out.below bw1)
  clear bw1
  go_wp2_with fail
  go_returns
  exact ⟨by first | rfl | simp, HBw1.out⟩
theorem extractTrees_any (p q : Bool) (o i c d e f : List Int) (aa ba : Option Addr) (an ac bn bc : Nat) (ns ms : List (List Int)) (w : World) (ho : Dg o) (hi : Dg i) (hc : Dg c) (hd : Dg d) (he : Dg e) (hf : Dg f) (hN : DigsAt w aa an ac ns) (hM : DigsAt w ba bn bc ms) (tab : ShaTab w) :
    Calls Tryd.prog 5 #[.agg (o.map (Value.int .u8)).toArray, .agg (i.map (Value.int .u8)).toArray, .agg (sideC p c d (.slice aa an ac)).toArray, .agg (sideC q e f (.slice ba bn bc)).toArray] w fun e' w' => e' = .returned (.bool true) ∧ Below w.heap.size w w' := by
  cases p <;> cases q
  · rcases Nat.lt_or_ge 300 an with h | h1
    · exact extrees_far_false_false o i c d e f aa ba an ac bn bc ns ms w ho hi hc hd he hf hN hM tab h
    rcases Nat.lt_or_ge 300 bn with h | h2
    · exact extrees_gone_false_false o i c d e f aa ba an ac bn bc ns ms w ho hi hc hd he hf hN hM tab h1 h
    cases q1 : isSide o i false c d ns with
    | false =>
      cases q2 : isSide o i false e f ms with
      | false => exact extrees_ff_nn o i c d e f aa ba an ac bn bc ns ms w ho hi hc hd he hf hN hM tab h1 h2 q1 q2
      | true => exact extrees_ff_ny o i c d e f aa ba an ac bn bc ns ms w ho hi hc hd he hf hN hM tab h1 h2 q1 q2
    | true =>
      cases q2 : isSide o i false e f ms with
      | false => exact extrees_ff_yn o i c d e f aa ba an ac bn bc ns ms w ho hi hc hd he hf hN hM tab h1 h2 q1 q2
      | true => exact extrees_ff_yy o i c d e f aa ba an ac bn bc ns ms w ho hi hc hd he hf hN hM tab h1 h2 q1 q2
  · rcases Nat.lt_or_ge 300 an with h | h1
    · exact extrees_far_false_true o i c d e f aa ba an ac bn bc ns ms w ho hi hc hd he hf hN hM tab h
    rcases Nat.lt_or_ge 300 bn with h | h2
    · exact extrees_gone_false_true o i c d e f aa ba an ac bn bc ns ms w ho hi hc hd he hf hN hM tab h1 h
    cases q1 : isSide o i false c d ns with
    | false =>
      cases q2 : isSide o i true e f ms with
      | false => exact extrees_ft_nn o i c d e f aa ba an ac bn bc ns ms w ho hi hc hd he hf hN hM tab h1 h2 q1 q2
      | true => exact extrees_ft_ny o i c d e f aa ba an ac bn bc ns ms w ho hi hc hd he hf hN hM tab h1 h2 q1 q2
    | true =>
      cases q2 : isSide o i true e f ms with
      | false => exact extrees_ft_yn o i c d e f aa ba an ac bn bc ns ms w ho hi hc hd he hf hN hM tab h1 h2 q1 q2
      | true => exact extrees_ft_yy o i c d e f aa ba an ac bn bc ns ms w ho hi hc hd he hf hN hM tab h1 h2 q1 q2
  · rcases Nat.lt_or_ge 300 an with h | h1
    · exact extrees_far_true_false o i c d e f aa ba an ac bn bc ns ms w ho hi hc hd he hf hN hM tab h
    rcases Nat.lt_or_ge 300 bn with h | h2
    · exact extrees_gone_true_false o i c d e f aa ba an ac bn bc ns ms w ho hi hc hd he hf hN hM tab h1 h
    cases q1 : isSide o i true c d ns with
    | false =>
      cases q2 : isSide o i false e f ms with
      | false => exact extrees_tf_nn o i c d e f aa ba an ac bn bc ns ms w ho hi hc hd he hf hN hM tab h1 h2 q1 q2
      | true => exact extrees_tf_ny o i c d e f aa ba an ac bn bc ns ms w ho hi hc hd he hf hN hM tab h1 h2 q1 q2
    | true =>
      cases q2 : isSide o i false e f ms with
      | false => exact extrees_tf_yn o i c d e f aa ba an ac bn bc ns ms w ho hi hc hd he hf hN hM tab h1 h2 q1 q2
      | true => exact extrees_tf_yy o i c d e f aa ba an ac bn bc ns ms w ho hi hc hd he hf hN hM tab h1 h2 q1 q2
  · rcases Nat.lt_or_ge 300 an with h | h1
    · exact extrees_far_true_true o i c d e f aa ba an ac bn bc ns ms w ho hi hc hd he hf hN hM tab h
    rcases Nat.lt_or_ge 300 bn with h | h2
    · exact extrees_gone_true_true o i c d e f aa ba an ac bn bc ns ms w ho hi hc hd he hf hN hM tab h1 h
    by_cases hce : c = e
    · skip
      cases q1 : isSide o i true c d ns with
      | false =>
        cases q2 : isSide o i true e f ms with
        | false => exact extrees_tte_nn o i c d e f aa ba an ac bn bc ns ms w ho hi hc hd he hf hN hM tab h1 h2 hce q1 q2
        | true => exact extrees_tte_ny o i c d e f aa ba an ac bn bc ns ms w ho hi hc hd he hf hN hM tab h1 h2 hce q1 q2
      | true =>
        cases q2 : isSide o i true e f ms with
        | false => exact extrees_tte_yn o i c d e f aa ba an ac bn bc ns ms w ho hi hc hd he hf hN hM tab h1 h2 hce q1 q2
        | true => exact extrees_tte_yy o i c d e f aa ba an ac bn bc ns ms w ho hi hc hd he hf hN hM tab h1 h2 hce q1 q2
    · skip
      cases q1 : isSide o i true c d ns with
      | false =>
        cases q2 : isSide o i true e f ms with
        | false => exact extrees_ttn_nn o i c d e f aa ba an ac bn bc ns ms w ho hi hc hd he hf hN hM tab h1 h2 hce q1 q2
        | true => exact extrees_ttn_ny o i c d e f aa ba an ac bn bc ns ms w ho hi hc hd he hf hN hM tab h1 h2 hce q1 q2
      | true =>
        cases q2 : isSide o i true e f ms with
        | false => exact extrees_ttn_yn o i c d e f aa ba an ac bn bc ns ms w ho hi hc hd he hf hN hM tab h1 h2 hce q1 q2
        | true => exact extrees_ttn_yy o i c d e f aa ba an ac bn bc ns ms w ho hi hc hd he hf hN hM tab h1 h2 hce q1 q2
end Go.Proofs.YtkakoiaahgchmaaDoor
