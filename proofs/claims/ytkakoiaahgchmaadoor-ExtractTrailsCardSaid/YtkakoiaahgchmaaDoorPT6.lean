/-
  Put together, as far as wanted: ExAJA ExAJB ExAJC.
-/
import Derived.Test.YtkakoiaahgchmaaDoorPT5
namespace Go.Proofs.YtkakoiaahgchmaaDoor
set_option maxRecDepth 100000
open Go.ChangeShapes Go.WideShapes Go.ChangeAt Go.RowKit
set_option maxHeartbeats 4000000 in
theorem extrails_w_lt (i c d t : List Int) (p : Bool) (na ta ya : Option Addr) (nn nc tn tc yn yc : Nat) (m n : Int) (ns ds : List (List Int)) (A : List (List Int)) (w : World) (hi : Dg i) (hc : Dg c) (hd : Dg d) (hN : DigsAt w na nn nc ns) (hT : TextAt w ta tn tc t) (hW : DigsAt w ya yn yc ds) (tab : ShaTab w) (hb1 : nn ≤ 300) (hb2 : tn ≤ 1000) (hb3 : yn ≤ 40) (q1 : n < 1)
    (CT : ∀ W : World, DigsAt W na nn nc ns → ShaTab W → Calls Tryd.prog 10 #[.agg (i.map (Value.int .u8)).toArray, .agg (sideC p c d (.slice na nn nc)).toArray] W fun e w' => ∃ v, e = .returned v ∧ TextsV A v w' ∧ Below W.heap.size W w')
    (CW : ∀ W : World, Calls Tryd.prog 11 #[.agg (d.map (Value.int .u8)).toArray, .slice na nn nc] W fun e w' => e = .returned (.bool true) ∧ Below W.heap.size W w')
    (CR : ∀ W : World, DigsAt W na nn nc ns → Calls Tryd.prog 13 #[.agg (i.map (Value.int .u8)).toArray, .bool p, .agg (c.map (Value.int .u8)).toArray, .agg (d.map (Value.int .u8)).toArray, .slice na nn nc] W fun e w' => ∃ v, e = .returned v ∧ TextsV A v w' ∧ Below W.heap.size W w')
    (CX : ∀ W : World, TextAt W ta tn tc t → DigsAt W ya yn yc ds → ShaTab W → Calls Tryd.prog 14 #[.int .i64 n, .int .i64 m, .slice ta tn tc, .slice ya yn yc] W fun e w' => ∃ v, e = .returned v ∧ TextsV [] v w' ∧ Below W.heap.size W w')
    (CG : ∀ W : World, DigsAt W ya yn yc ds → ShaTab W → Calls Tryd.prog 15 #[.agg (i.map (Value.int .u8)).toArray, .int .i64 m, .int .i64 n, .slice ya yn yc] W fun e w' => ∃ v, e = .returned v ∧ TextsV [] v w' ∧ Below W.heap.size W w') :
    Calls Tryd.prog 3 #[.agg (i.map (Value.int .u8)).toArray, .agg (sideC p c d (.slice na nn nc)).toArray, .int .i64 m, .int .i64 n, .slice ta tn tc, .slice ya yn yc] w fun e' w' => e' = .returned (.bool true) ∧ Below w.heap.size w w' := by
  have b1 := (Below.refl w.heap.size w).alloc (Nat.le_refl _) (.cells (i.map (Value.int .u8)).toArray 23 (0, 0))
  have b2 := b1.alloc b1.size (.cells (sideC p c d (.slice na nn nc)).toArray 28 (0, 0))
  have Ki := hid ((Blk.new (w := w) (n := w.heap.size) rfl (i.map (Value.int .u8)).toArray 23).old (.cells (sideC p c d (.slice na nn nc)).toArray 28 (0, 0)))
  have Ks := hid (Blk.new (w := (w.alloc (.cells (i.map (Value.int .u8)).toArray 23 (0, 0)))) (n := w.heap.size + 1) (by simp only [World.size_alloc]) (sideC p c d (.slice na nn nc)).toArray 28)
  have Hb := hid b2
  have hbz := b2.size
  have Hbs := hid (show w.heap.size + 1 + 1 = ((w.alloc (.cells (i.map (Value.int .u8)).toArray 23 (0, 0))).alloc (.cells (sideC p c d (.slice na nn nc)).toArray 28 (0, 0))).heap.size by simp only [World.size_alloc])
  have Htab := hid tab
  clear b1 b2 tab 
  have KN := hid (hN.below Hb.out)
  have KT := hid (hT.below Hb.out)
  have KW := hid (hW.below Hb.out)
  clear hN hT hW
  have hca : ¬ (300 : Int) < (nn : Int) := by omega
  have hcb : ¬ (1000 : Int) < (tn : Int) := by omega
  have hcc : ¬ (40 : Int) < (yn : Int) := by omega
  have cna : ((w.alloc (.cells (i.map (Value.int .u8)).toArray 23 (0, 0))).alloc (.cells (sideC p c d (.slice na nn nc)).toArray 28 (0, 0))).cell? ⟨w.heap.size + 1, 33 + 32, none⟩ = some (.slice na nn nc) := sideC_nodes' hc hd Ks.out
  go_enter Tryd.func3, Tryd.ntmps3
  go_wp2_with (first
     | (with_reducible show wpList _ _ _ (⟨some 37, _, _, _, _, _⟩ :: _) _ _; refine wpList_load_blk rfl 23 _ rfl (w.heap.size) rfl _ 23 Ki.out _ Tryd.underlying23 rfl 32 size_digest hi.size ?_)
     | (with_reducible show wpList _ _ _ (⟨some 38, _, _, _, _, _⟩ :: _) _ _; refine wpList_load_blk rfl 28 _ rfl (w.heap.size + 1) rfl _ 28 Ks.out _ Tryd.underlying28 rfl 66 size_side (sideC_size hc hd) ?_))
  clear cna
  refine (CT _ KN.out (Htab.out.below Hb.out)).mono ?_
  rintro e w1 ⟨vA, rfl, ⟨aA, nA, cA, rfl, htA⟩, bw1⟩
  have HBw1 := hid (Below.on Hb.out bw1)
  have hsw1 := HBw1.out.size
  have Kiw1 := hid (Ki.out.below bw1)
  have Ksw1 := hid (Ks.out.below bw1)
  have KNw1 := hid (KN.out.below bw1)
  have KTw1 := hid (KT.out.below bw1)
  have KWw1 := hid (KW.out.below bw1)
  clear bw1
  have KAw1 := hid htA
  clear htA
  have cna : w1.cell? ⟨w.heap.size + 1, 33 + 32, none⟩ = some (.slice na nn nc) := sideC_nodes' hc hd Ksw1.out
  go_wp2_with (with_reducible show wpList _ _ _ (⟨some 42, _, _, _, _, _⟩ :: _) _ _; refine wpList_load_mid rfl 23 _ rfl (w.heap.size + 1) 33 rfl _ _ (sideC_known hc Ksw1.out) Tryd.underlying23 rfl (by rw [List.length_map, hd.len]; exact size_digest) ?_)
  clear cna
  refine (CW _).mono ?_
  rintro e w2 ⟨rfl, bw2⟩
  have HBw2 := hid (Below.on HBw1.out bw2)
  have hsw2 := HBw2.out.size
  have Kiw2 := hid (Kiw1.out.below bw2)
  have Ksw2 := hid (Ksw1.out.below bw2)
  have KNw2 := hid (KNw1.out.below bw2)
  have KTw2 := hid (KTw1.out.below bw2)
  have KWw2 := hid (KWw1.out.below bw2)
  have KAw2 := hid (KAw1.out.below bw2)
  clear bw2
  have cna : w2.cell? ⟨w.heap.size + 1, 33 + 32, none⟩ = some (.slice na nn nc) := sideC_nodes' hc hd Ksw2.out
  have cp : w2.cell? ⟨w.heap.size + 1, 0, none⟩ = some (.bool p) := by rw [Ksw2.out.cell]; rfl
  go_wp2_with (first
     | (with_reducible show wpList _ _ _ (⟨some 52, _, _, _, _, _⟩ :: _) _ _; refine wpList_load_blk rfl 23 _ rfl (w.heap.size) rfl _ 23 Kiw2.out _ Tryd.underlying23 rfl 32 size_digest hi.size ?_)
     | (with_reducible show wpList _ _ _ (⟨some 56, _, _, _, _, _⟩ :: _) _ _; refine wpList_load_mid rfl 23 _ rfl (w.heap.size + 1) 1 rfl _ _ (sideC_com Ksw2.out) Tryd.underlying23 rfl (by rw [List.length_map, hc.len]; exact size_digest) ?_)
     | (with_reducible show wpList _ _ _ (⟨some 59, _, _, _, _, _⟩ :: _) _ _; refine wpList_load_mid rfl 23 _ rfl (w.heap.size + 1) 33 rfl _ _ (sideC_known hc Ksw2.out) Tryd.underlying23 rfl (by rw [List.length_map, hd.len]; exact size_digest) ?_))
  clear cna cp
  refine (CR _ KNw2.out).mono ?_
  rintro e w3 ⟨vQ, rfl, ⟨aQ, nQ, cQ, rfl, htQ⟩, bw3⟩
  have HBw3 := hid (Below.on HBw2.out bw3)
  have hsw3 := HBw3.out.size
  have Kiw3 := hid (Kiw2.out.below bw3)
  have Ksw3 := hid (Ksw2.out.below bw3)
  have KNw3 := hid (KNw2.out.below bw3)
  have KTw3 := hid (KTw2.out.below bw3)
  have KWw3 := hid (KWw2.out.below bw3)
  have KAw3 := hid (KAw2.out.below bw3)
  clear bw3
  have KQw3 := hid htQ
  obtain rfl : nA = nQ := KAw3.out.length.symm.trans htQ.length
  clear htQ
  go_wp2_with fail
  refine (refsameT_any aA aQ nA cA cQ A _ KAw3.out KQw3.out).mono ?_
  rintro e w4 ⟨rfl, bw4⟩
  have HBw4 := hid (Below.on HBw3.out bw4)
  have hsw4 := HBw4.out.size
  have Kiw4 := hid (Kiw3.out.below bw4)
  have Ksw4 := hid (Ksw3.out.below bw4)
  have KNw4 := hid (KNw3.out.below bw4)
  have KTw4 := hid (KTw3.out.below bw4)
  have KWw4 := hid (KWw3.out.below bw4)
  have KAw4 := hid (KAw3.out.below bw4)
  have KQw4 := hid (KQw3.out.below bw4)
  clear bw4
  go_wp2_with fail
  refine (CX _ KTw4.out KWw4.out (Htab.out.below HBw4.out)).mono ?_
  rintro e w5 ⟨vB, rfl, ⟨aB, nB, cB, rfl, htB⟩, bw5⟩
  have HBw5 := hid (Below.on HBw4.out bw5)
  have hsw5 := HBw5.out.size
  have Kiw5 := hid (Kiw4.out.below bw5)
  have Ksw5 := hid (Ksw4.out.below bw5)
  have KNw5 := hid (KNw4.out.below bw5)
  have KTw5 := hid (KTw4.out.below bw5)
  have KWw5 := hid (KWw4.out.below bw5)
  have KAw5 := hid (KAw4.out.below bw5)
  have KQw5 := hid (KQw4.out.below bw5)
  clear bw5
  have KBw5 := hid htB
  obtain rfl : nB = 0 := htB.length.symm
  clear htB
  go_wp2_with (with_reducible show wpList _ _ _ (⟨some 71, _, _, _, _, _⟩ :: _) _ _; refine wpList_load_blk rfl 23 _ rfl (w.heap.size) rfl _ 23 Kiw5.out _ Tryd.underlying23 rfl 32 size_digest hi.size ?_)
  refine (CG _ KWw5.out (Htab.out.below HBw5.out)).mono ?_
  rintro e w6 ⟨vC, rfl, ⟨aC, nC, cC, rfl, htC⟩, bw6⟩
  have HBw6 := hid (Below.on HBw5.out bw6)
  have hsw6 := HBw6.out.size
  have Kiw6 := hid (Kiw5.out.below bw6)
  have Ksw6 := hid (Ksw5.out.below bw6)
  have KNw6 := hid (KNw5.out.below bw6)
  have KTw6 := hid (KTw5.out.below bw6)
  have KWw6 := hid (KWw5.out.below bw6)
  have KAw6 := hid (KAw5.out.below bw6)
  have KQw6 := hid (KQw5.out.below bw6)
  have KBw6 := hid (KBw5.out.below bw6)
  clear bw6
  have KCw6 := hid htC
  obtain rfl : nC = 0 := htC.length.symm
  clear htC
  go_wp2_with fail
  refine (knows23 _ (Htab.out.below HBw6.out)).mono ?_
  rintro e w7 ⟨rfl, bw7⟩
  have HBw7 := hid (Below.on HBw6.out bw7)
  have hsw7 := HBw7.out.size
  have Kiw7 := hid (Kiw6.out.below bw7)
  have Ksw7 := hid (Ksw6.out.below bw7)
  have KNw7 := hid (KNw6.out.below bw7)
  have KTw7 := hid (KTw6.out.below bw7)
  have KWw7 := hid (KWw6.out.below bw7)
  have KAw7 := hid (KAw6.out.below bw7)
  have KQw7 := hid (KQw6.out.below bw7)
  have KBw7 := hid (KBw6.out.below bw7)
  have KCw7 := hid (KCw6.out.below bw7)
  clear bw7
  go_wp2_with fail
  go_returns
  exact ⟨by first | rfl | simp, HBw7.out⟩
set_option maxHeartbeats 4000000 in
theorem extrails_w_gt (i c d t : List Int) (p : Bool) (na ta ya : Option Addr) (nn nc tn tc yn yc : Nat) (m n : Int) (ns ds : List (List Int)) (A : List (List Int)) (w : World) (hi : Dg i) (hc : Dg c) (hd : Dg d) (hN : DigsAt w na nn nc ns) (hT : TextAt w ta tn tc t) (hW : DigsAt w ya yn yc ds) (tab : ShaTab w) (hb1 : nn ≤ 300) (hb2 : tn ≤ 1000) (hb3 : yn ≤ 40) (q1 : ¬ n < 1) (q2 : 200 < n)
    (CT : ∀ W : World, DigsAt W na nn nc ns → ShaTab W → Calls Tryd.prog 10 #[.agg (i.map (Value.int .u8)).toArray, .agg (sideC p c d (.slice na nn nc)).toArray] W fun e w' => ∃ v, e = .returned v ∧ TextsV A v w' ∧ Below W.heap.size W w')
    (CW : ∀ W : World, Calls Tryd.prog 11 #[.agg (d.map (Value.int .u8)).toArray, .slice na nn nc] W fun e w' => e = .returned (.bool true) ∧ Below W.heap.size W w')
    (CR : ∀ W : World, DigsAt W na nn nc ns → Calls Tryd.prog 13 #[.agg (i.map (Value.int .u8)).toArray, .bool p, .agg (c.map (Value.int .u8)).toArray, .agg (d.map (Value.int .u8)).toArray, .slice na nn nc] W fun e w' => ∃ v, e = .returned v ∧ TextsV A v w' ∧ Below W.heap.size W w')
    (CX : ∀ W : World, TextAt W ta tn tc t → DigsAt W ya yn yc ds → ShaTab W → Calls Tryd.prog 14 #[.int .i64 n, .int .i64 m, .slice ta tn tc, .slice ya yn yc] W fun e w' => ∃ v, e = .returned v ∧ TextsV [] v w' ∧ Below W.heap.size W w')
    (CG : ∀ W : World, DigsAt W ya yn yc ds → ShaTab W → Calls Tryd.prog 15 #[.agg (i.map (Value.int .u8)).toArray, .int .i64 m, .int .i64 n, .slice ya yn yc] W fun e w' => ∃ v, e = .returned v ∧ TextsV [] v w' ∧ Below W.heap.size W w') :
    Calls Tryd.prog 3 #[.agg (i.map (Value.int .u8)).toArray, .agg (sideC p c d (.slice na nn nc)).toArray, .int .i64 m, .int .i64 n, .slice ta tn tc, .slice ya yn yc] w fun e' w' => e' = .returned (.bool true) ∧ Below w.heap.size w w' := by
  have b1 := (Below.refl w.heap.size w).alloc (Nat.le_refl _) (.cells (i.map (Value.int .u8)).toArray 23 (0, 0))
  have b2 := b1.alloc b1.size (.cells (sideC p c d (.slice na nn nc)).toArray 28 (0, 0))
  have Ki := hid ((Blk.new (w := w) (n := w.heap.size) rfl (i.map (Value.int .u8)).toArray 23).old (.cells (sideC p c d (.slice na nn nc)).toArray 28 (0, 0)))
  have Ks := hid (Blk.new (w := (w.alloc (.cells (i.map (Value.int .u8)).toArray 23 (0, 0)))) (n := w.heap.size + 1) (by simp only [World.size_alloc]) (sideC p c d (.slice na nn nc)).toArray 28)
  have Hb := hid b2
  have hbz := b2.size
  have Hbs := hid (show w.heap.size + 1 + 1 = ((w.alloc (.cells (i.map (Value.int .u8)).toArray 23 (0, 0))).alloc (.cells (sideC p c d (.slice na nn nc)).toArray 28 (0, 0))).heap.size by simp only [World.size_alloc])
  have Htab := hid tab
  clear b1 b2 tab 
  have KN := hid (hN.below Hb.out)
  have KT := hid (hT.below Hb.out)
  have KW := hid (hW.below Hb.out)
  clear hN hT hW
  have hca : ¬ (300 : Int) < (nn : Int) := by omega
  have hcb : ¬ (1000 : Int) < (tn : Int) := by omega
  have hcc : ¬ (40 : Int) < (yn : Int) := by omega
  have cna : ((w.alloc (.cells (i.map (Value.int .u8)).toArray 23 (0, 0))).alloc (.cells (sideC p c d (.slice na nn nc)).toArray 28 (0, 0))).cell? ⟨w.heap.size + 1, 33 + 32, none⟩ = some (.slice na nn nc) := sideC_nodes' hc hd Ks.out
  go_enter Tryd.func3, Tryd.ntmps3
  go_wp2_with (first
     | (with_reducible show wpList _ _ _ (⟨some 37, _, _, _, _, _⟩ :: _) _ _; refine wpList_load_blk rfl 23 _ rfl (w.heap.size) rfl _ 23 Ki.out _ Tryd.underlying23 rfl 32 size_digest hi.size ?_)
     | (with_reducible show wpList _ _ _ (⟨some 38, _, _, _, _, _⟩ :: _) _ _; refine wpList_load_blk rfl 28 _ rfl (w.heap.size + 1) rfl _ 28 Ks.out _ Tryd.underlying28 rfl 66 size_side (sideC_size hc hd) ?_))
  clear cna
  refine (CT _ KN.out (Htab.out.below Hb.out)).mono ?_
  rintro e w1 ⟨vA, rfl, ⟨aA, nA, cA, rfl, htA⟩, bw1⟩
  have HBw1 := hid (Below.on Hb.out bw1)
  have hsw1 := HBw1.out.size
  have Kiw1 := hid (Ki.out.below bw1)
  have Ksw1 := hid (Ks.out.below bw1)
  have KNw1 := hid (KN.out.below bw1)
  have KTw1 := hid (KT.out.below bw1)
  have KWw1 := hid (KW.out.below bw1)
  clear bw1
  have KAw1 := hid htA
  clear htA
  have cna : w1.cell? ⟨w.heap.size + 1, 33 + 32, none⟩ = some (.slice na nn nc) := sideC_nodes' hc hd Ksw1.out
  go_wp2_with (with_reducible show wpList _ _ _ (⟨some 42, _, _, _, _, _⟩ :: _) _ _; refine wpList_load_mid rfl 23 _ rfl (w.heap.size + 1) 33 rfl _ _ (sideC_known hc Ksw1.out) Tryd.underlying23 rfl (by rw [List.length_map, hd.len]; exact size_digest) ?_)
  clear cna
  refine (CW _).mono ?_
  rintro e w2 ⟨rfl, bw2⟩
  have HBw2 := hid (Below.on HBw1.out bw2)
  have hsw2 := HBw2.out.size
  have Kiw2 := hid (Kiw1.out.below bw2)
  have Ksw2 := hid (Ksw1.out.below bw2)
  have KNw2 := hid (KNw1.out.below bw2)
  have KTw2 := hid (KTw1.out.below bw2)
  have KWw2 := hid (KWw1.out.below bw2)
  have KAw2 := hid (KAw1.out.below bw2)
  clear bw2
  have cna : w2.cell? ⟨w.heap.size + 1, 33 + 32, none⟩ = some (.slice na nn nc) := sideC_nodes' hc hd Ksw2.out
  have cp : w2.cell? ⟨w.heap.size + 1, 0, none⟩ = some (.bool p) := by rw [Ksw2.out.cell]; rfl
  go_wp2_with (first
     | (with_reducible show wpList _ _ _ (⟨some 52, _, _, _, _, _⟩ :: _) _ _; refine wpList_load_blk rfl 23 _ rfl (w.heap.size) rfl _ 23 Kiw2.out _ Tryd.underlying23 rfl 32 size_digest hi.size ?_)
     | (with_reducible show wpList _ _ _ (⟨some 56, _, _, _, _, _⟩ :: _) _ _; refine wpList_load_mid rfl 23 _ rfl (w.heap.size + 1) 1 rfl _ _ (sideC_com Ksw2.out) Tryd.underlying23 rfl (by rw [List.length_map, hc.len]; exact size_digest) ?_)
     | (with_reducible show wpList _ _ _ (⟨some 59, _, _, _, _, _⟩ :: _) _ _; refine wpList_load_mid rfl 23 _ rfl (w.heap.size + 1) 33 rfl _ _ (sideC_known hc Ksw2.out) Tryd.underlying23 rfl (by rw [List.length_map, hd.len]; exact size_digest) ?_))
  clear cna cp
  refine (CR _ KNw2.out).mono ?_
  rintro e w3 ⟨vQ, rfl, ⟨aQ, nQ, cQ, rfl, htQ⟩, bw3⟩
  have HBw3 := hid (Below.on HBw2.out bw3)
  have hsw3 := HBw3.out.size
  have Kiw3 := hid (Kiw2.out.below bw3)
  have Ksw3 := hid (Ksw2.out.below bw3)
  have KNw3 := hid (KNw2.out.below bw3)
  have KTw3 := hid (KTw2.out.below bw3)
  have KWw3 := hid (KWw2.out.below bw3)
  have KAw3 := hid (KAw2.out.below bw3)
  clear bw3
  have KQw3 := hid htQ
  obtain rfl : nA = nQ := KAw3.out.length.symm.trans htQ.length
  clear htQ
  go_wp2_with fail
  refine (refsameT_any aA aQ nA cA cQ A _ KAw3.out KQw3.out).mono ?_
  rintro e w4 ⟨rfl, bw4⟩
  have HBw4 := hid (Below.on HBw3.out bw4)
  have hsw4 := HBw4.out.size
  have Kiw4 := hid (Kiw3.out.below bw4)
  have Ksw4 := hid (Ksw3.out.below bw4)
  have KNw4 := hid (KNw3.out.below bw4)
  have KTw4 := hid (KTw3.out.below bw4)
  have KWw4 := hid (KWw3.out.below bw4)
  have KAw4 := hid (KAw3.out.below bw4)
  have KQw4 := hid (KQw3.out.below bw4)
  clear bw4
  go_wp2_with fail
  refine (CX _ KTw4.out KWw4.out (Htab.out.below HBw4.out)).mono ?_
  rintro e w5 ⟨vB, rfl, ⟨aB, nB, cB, rfl, htB⟩, bw5⟩
  have HBw5 := hid (Below.on HBw4.out bw5)
  have hsw5 := HBw5.out.size
  have Kiw5 := hid (Kiw4.out.below bw5)
  have Ksw5 := hid (Ksw4.out.below bw5)
  have KNw5 := hid (KNw4.out.below bw5)
  have KTw5 := hid (KTw4.out.below bw5)
  have KWw5 := hid (KWw4.out.below bw5)
  have KAw5 := hid (KAw4.out.below bw5)
  have KQw5 := hid (KQw4.out.below bw5)
  clear bw5
  have KBw5 := hid htB
  obtain rfl : nB = 0 := htB.length.symm
  clear htB
  go_wp2_with (with_reducible show wpList _ _ _ (⟨some 71, _, _, _, _, _⟩ :: _) _ _; refine wpList_load_blk rfl 23 _ rfl (w.heap.size) rfl _ 23 Kiw5.out _ Tryd.underlying23 rfl 32 size_digest hi.size ?_)
  refine (CG _ KWw5.out (Htab.out.below HBw5.out)).mono ?_
  rintro e w6 ⟨vC, rfl, ⟨aC, nC, cC, rfl, htC⟩, bw6⟩
  have HBw6 := hid (Below.on HBw5.out bw6)
  have hsw6 := HBw6.out.size
  have Kiw6 := hid (Kiw5.out.below bw6)
  have Ksw6 := hid (Ksw5.out.below bw6)
  have KNw6 := hid (KNw5.out.below bw6)
  have KTw6 := hid (KTw5.out.below bw6)
  have KWw6 := hid (KWw5.out.below bw6)
  have KAw6 := hid (KAw5.out.below bw6)
  have KQw6 := hid (KQw5.out.below bw6)
  have KBw6 := hid (KBw5.out.below bw6)
  clear bw6
  have KCw6 := hid htC
  obtain rfl : nC = 0 := htC.length.symm
  clear htC
  go_wp2_with fail
  refine (knows23 _ (Htab.out.below HBw6.out)).mono ?_
  rintro e w7 ⟨rfl, bw7⟩
  have HBw7 := hid (Below.on HBw6.out bw7)
  have hsw7 := HBw7.out.size
  have Kiw7 := hid (Kiw6.out.below bw7)
  have Ksw7 := hid (Ksw6.out.below bw7)
  have KNw7 := hid (KNw6.out.below bw7)
  have KTw7 := hid (KTw6.out.below bw7)
  have KWw7 := hid (KWw6.out.below bw7)
  have KAw7 := hid (KAw6.out.below bw7)
  have KQw7 := hid (KQw6.out.below bw7)
  have KBw7 := hid (KBw6.out.below bw7)
  have KCw7 := hid (KCw6.out.below bw7)
  clear bw7
  go_wp2_with fail
  go_returns
  exact ⟨by first | rfl | simp, HBw7.out⟩
set_option maxHeartbeats 4000000 in
theorem extrails_w_neg (i c d t : List Int) (p : Bool) (na ta ya : Option Addr) (nn nc tn tc yn yc : Nat) (m n : Int) (ns ds : List (List Int)) (A : List (List Int)) (w : World) (hi : Dg i) (hc : Dg c) (hd : Dg d) (hN : DigsAt w na nn nc ns) (hT : TextAt w ta tn tc t) (hW : DigsAt w ya yn yc ds) (tab : ShaTab w) (hb1 : nn ≤ 300) (hb2 : tn ≤ 1000) (hb3 : yn ≤ 40) (q1 : ¬ n < 1) (q2 : ¬ 200 < n) (q3 : m < 0)
    (CT : ∀ W : World, DigsAt W na nn nc ns → ShaTab W → Calls Tryd.prog 10 #[.agg (i.map (Value.int .u8)).toArray, .agg (sideC p c d (.slice na nn nc)).toArray] W fun e w' => ∃ v, e = .returned v ∧ TextsV A v w' ∧ Below W.heap.size W w')
    (CW : ∀ W : World, Calls Tryd.prog 11 #[.agg (d.map (Value.int .u8)).toArray, .slice na nn nc] W fun e w' => e = .returned (.bool true) ∧ Below W.heap.size W w')
    (CR : ∀ W : World, DigsAt W na nn nc ns → Calls Tryd.prog 13 #[.agg (i.map (Value.int .u8)).toArray, .bool p, .agg (c.map (Value.int .u8)).toArray, .agg (d.map (Value.int .u8)).toArray, .slice na nn nc] W fun e w' => ∃ v, e = .returned v ∧ TextsV A v w' ∧ Below W.heap.size W w')
    (CX : ∀ W : World, TextAt W ta tn tc t → DigsAt W ya yn yc ds → ShaTab W → Calls Tryd.prog 14 #[.int .i64 n, .int .i64 m, .slice ta tn tc, .slice ya yn yc] W fun e w' => ∃ v, e = .returned v ∧ TextsV [] v w' ∧ Below W.heap.size W w')
    (CG : ∀ W : World, DigsAt W ya yn yc ds → ShaTab W → Calls Tryd.prog 15 #[.agg (i.map (Value.int .u8)).toArray, .int .i64 m, .int .i64 n, .slice ya yn yc] W fun e w' => ∃ v, e = .returned v ∧ TextsV [] v w' ∧ Below W.heap.size W w') :
    Calls Tryd.prog 3 #[.agg (i.map (Value.int .u8)).toArray, .agg (sideC p c d (.slice na nn nc)).toArray, .int .i64 m, .int .i64 n, .slice ta tn tc, .slice ya yn yc] w fun e' w' => e' = .returned (.bool true) ∧ Below w.heap.size w w' := by
  have b1 := (Below.refl w.heap.size w).alloc (Nat.le_refl _) (.cells (i.map (Value.int .u8)).toArray 23 (0, 0))
  have b2 := b1.alloc b1.size (.cells (sideC p c d (.slice na nn nc)).toArray 28 (0, 0))
  have Ki := hid ((Blk.new (w := w) (n := w.heap.size) rfl (i.map (Value.int .u8)).toArray 23).old (.cells (sideC p c d (.slice na nn nc)).toArray 28 (0, 0)))
  have Ks := hid (Blk.new (w := (w.alloc (.cells (i.map (Value.int .u8)).toArray 23 (0, 0)))) (n := w.heap.size + 1) (by simp only [World.size_alloc]) (sideC p c d (.slice na nn nc)).toArray 28)
  have Hb := hid b2
  have hbz := b2.size
  have Hbs := hid (show w.heap.size + 1 + 1 = ((w.alloc (.cells (i.map (Value.int .u8)).toArray 23 (0, 0))).alloc (.cells (sideC p c d (.slice na nn nc)).toArray 28 (0, 0))).heap.size by simp only [World.size_alloc])
  have Htab := hid tab
  clear b1 b2 tab 
  have KN := hid (hN.below Hb.out)
  have KT := hid (hT.below Hb.out)
  have KW := hid (hW.below Hb.out)
  clear hN hT hW
  have hca : ¬ (300 : Int) < (nn : Int) := by omega
  have hcb : ¬ (1000 : Int) < (tn : Int) := by omega
  have hcc : ¬ (40 : Int) < (yn : Int) := by omega
  have cna : ((w.alloc (.cells (i.map (Value.int .u8)).toArray 23 (0, 0))).alloc (.cells (sideC p c d (.slice na nn nc)).toArray 28 (0, 0))).cell? ⟨w.heap.size + 1, 33 + 32, none⟩ = some (.slice na nn nc) := sideC_nodes' hc hd Ks.out
  go_enter Tryd.func3, Tryd.ntmps3
  go_wp2_with (first
     | (with_reducible show wpList _ _ _ (⟨some 37, _, _, _, _, _⟩ :: _) _ _; refine wpList_load_blk rfl 23 _ rfl (w.heap.size) rfl _ 23 Ki.out _ Tryd.underlying23 rfl 32 size_digest hi.size ?_)
     | (with_reducible show wpList _ _ _ (⟨some 38, _, _, _, _, _⟩ :: _) _ _; refine wpList_load_blk rfl 28 _ rfl (w.heap.size + 1) rfl _ 28 Ks.out _ Tryd.underlying28 rfl 66 size_side (sideC_size hc hd) ?_))
  clear cna
  refine (CT _ KN.out (Htab.out.below Hb.out)).mono ?_
  rintro e w1 ⟨vA, rfl, ⟨aA, nA, cA, rfl, htA⟩, bw1⟩
  have HBw1 := hid (Below.on Hb.out bw1)
  have hsw1 := HBw1.out.size
  have Kiw1 := hid (Ki.out.below bw1)
  have Ksw1 := hid (Ks.out.below bw1)
  have KNw1 := hid (KN.out.below bw1)
  have KTw1 := hid (KT.out.below bw1)
  have KWw1 := hid (KW.out.below bw1)
  clear bw1
  have KAw1 := hid htA
  clear htA
  have cna : w1.cell? ⟨w.heap.size + 1, 33 + 32, none⟩ = some (.slice na nn nc) := sideC_nodes' hc hd Ksw1.out
  go_wp2_with (with_reducible show wpList _ _ _ (⟨some 42, _, _, _, _, _⟩ :: _) _ _; refine wpList_load_mid rfl 23 _ rfl (w.heap.size + 1) 33 rfl _ _ (sideC_known hc Ksw1.out) Tryd.underlying23 rfl (by rw [List.length_map, hd.len]; exact size_digest) ?_)
  clear cna
  refine (CW _).mono ?_
  rintro e w2 ⟨rfl, bw2⟩
  have HBw2 := hid (Below.on HBw1.out bw2)
  have hsw2 := HBw2.out.size
  have Kiw2 := hid (Kiw1.out.below bw2)
  have Ksw2 := hid (Ksw1.out.below bw2)
  have KNw2 := hid (KNw1.out.below bw2)
  have KTw2 := hid (KTw1.out.below bw2)
  have KWw2 := hid (KWw1.out.below bw2)
  have KAw2 := hid (KAw1.out.below bw2)
  clear bw2
  have cna : w2.cell? ⟨w.heap.size + 1, 33 + 32, none⟩ = some (.slice na nn nc) := sideC_nodes' hc hd Ksw2.out
  have cp : w2.cell? ⟨w.heap.size + 1, 0, none⟩ = some (.bool p) := by rw [Ksw2.out.cell]; rfl
  go_wp2_with (first
     | (with_reducible show wpList _ _ _ (⟨some 52, _, _, _, _, _⟩ :: _) _ _; refine wpList_load_blk rfl 23 _ rfl (w.heap.size) rfl _ 23 Kiw2.out _ Tryd.underlying23 rfl 32 size_digest hi.size ?_)
     | (with_reducible show wpList _ _ _ (⟨some 56, _, _, _, _, _⟩ :: _) _ _; refine wpList_load_mid rfl 23 _ rfl (w.heap.size + 1) 1 rfl _ _ (sideC_com Ksw2.out) Tryd.underlying23 rfl (by rw [List.length_map, hc.len]; exact size_digest) ?_)
     | (with_reducible show wpList _ _ _ (⟨some 59, _, _, _, _, _⟩ :: _) _ _; refine wpList_load_mid rfl 23 _ rfl (w.heap.size + 1) 33 rfl _ _ (sideC_known hc Ksw2.out) Tryd.underlying23 rfl (by rw [List.length_map, hd.len]; exact size_digest) ?_))
  clear cna cp
  refine (CR _ KNw2.out).mono ?_
  rintro e w3 ⟨vQ, rfl, ⟨aQ, nQ, cQ, rfl, htQ⟩, bw3⟩
  have HBw3 := hid (Below.on HBw2.out bw3)
  have hsw3 := HBw3.out.size
  have Kiw3 := hid (Kiw2.out.below bw3)
  have Ksw3 := hid (Ksw2.out.below bw3)
  have KNw3 := hid (KNw2.out.below bw3)
  have KTw3 := hid (KTw2.out.below bw3)
  have KWw3 := hid (KWw2.out.below bw3)
  have KAw3 := hid (KAw2.out.below bw3)
  clear bw3
  have KQw3 := hid htQ
  obtain rfl : nA = nQ := KAw3.out.length.symm.trans htQ.length
  clear htQ
  go_wp2_with fail
  refine (refsameT_any aA aQ nA cA cQ A _ KAw3.out KQw3.out).mono ?_
  rintro e w4 ⟨rfl, bw4⟩
  have HBw4 := hid (Below.on HBw3.out bw4)
  have hsw4 := HBw4.out.size
  have Kiw4 := hid (Kiw3.out.below bw4)
  have Ksw4 := hid (Ksw3.out.below bw4)
  have KNw4 := hid (KNw3.out.below bw4)
  have KTw4 := hid (KTw3.out.below bw4)
  have KWw4 := hid (KWw3.out.below bw4)
  have KAw4 := hid (KAw3.out.below bw4)
  have KQw4 := hid (KQw3.out.below bw4)
  clear bw4
  go_wp2_with fail
  refine (CX _ KTw4.out KWw4.out (Htab.out.below HBw4.out)).mono ?_
  rintro e w5 ⟨vB, rfl, ⟨aB, nB, cB, rfl, htB⟩, bw5⟩
  have HBw5 := hid (Below.on HBw4.out bw5)
  have hsw5 := HBw5.out.size
  have Kiw5 := hid (Kiw4.out.below bw5)
  have Ksw5 := hid (Ksw4.out.below bw5)
  have KNw5 := hid (KNw4.out.below bw5)
  have KTw5 := hid (KTw4.out.below bw5)
  have KWw5 := hid (KWw4.out.below bw5)
  have KAw5 := hid (KAw4.out.below bw5)
  have KQw5 := hid (KQw4.out.below bw5)
  clear bw5
  have KBw5 := hid htB
  obtain rfl : nB = 0 := htB.length.symm
  clear htB
  go_wp2_with (with_reducible show wpList _ _ _ (⟨some 71, _, _, _, _, _⟩ :: _) _ _; refine wpList_load_blk rfl 23 _ rfl (w.heap.size) rfl _ 23 Kiw5.out _ Tryd.underlying23 rfl 32 size_digest hi.size ?_)
  refine (CG _ KWw5.out (Htab.out.below HBw5.out)).mono ?_
  rintro e w6 ⟨vC, rfl, ⟨aC, nC, cC, rfl, htC⟩, bw6⟩
  have HBw6 := hid (Below.on HBw5.out bw6)
  have hsw6 := HBw6.out.size
  have Kiw6 := hid (Kiw5.out.below bw6)
  have Ksw6 := hid (Ksw5.out.below bw6)
  have KNw6 := hid (KNw5.out.below bw6)
  have KTw6 := hid (KTw5.out.below bw6)
  have KWw6 := hid (KWw5.out.below bw6)
  have KAw6 := hid (KAw5.out.below bw6)
  have KQw6 := hid (KQw5.out.below bw6)
  have KBw6 := hid (KBw5.out.below bw6)
  clear bw6
  have KCw6 := hid htC
  obtain rfl : nC = 0 := htC.length.symm
  clear htC
  go_wp2_with fail
  refine (knows23 _ (Htab.out.below HBw6.out)).mono ?_
  rintro e w7 ⟨rfl, bw7⟩
  have HBw7 := hid (Below.on HBw6.out bw7)
  have hsw7 := HBw7.out.size
  have Kiw7 := hid (Kiw6.out.below bw7)
  have Ksw7 := hid (Ksw6.out.below bw7)
  have KNw7 := hid (KNw6.out.below bw7)
  have KTw7 := hid (KTw6.out.below bw7)
  have KWw7 := hid (KWw6.out.below bw7)
  have KAw7 := hid (KAw6.out.below bw7)
  have KQw7 := hid (KQw6.out.below bw7)
  have KBw7 := hid (KBw6.out.below bw7)
  have KCw7 := hid (KCw6.out.below bw7)
  clear bw7
  go_wp2_with fail
  go_returns
  exact ⟨by first | rfl | simp, HBw7.out⟩
set_option maxHeartbeats 4000000 in
theorem extrails_w_far (i c d t : List Int) (p : Bool) (na ta ya : Option Addr) (nn nc tn tc yn yc : Nat) (m n : Int) (ns ds : List (List Int)) (A : List (List Int)) (w : World) (hi : Dg i) (hc : Dg c) (hd : Dg d) (hN : DigsAt w na nn nc ns) (hT : TextAt w ta tn tc t) (hW : DigsAt w ya yn yc ds) (tab : ShaTab w) (hb1 : nn ≤ 300) (hb2 : tn ≤ 1000) (hb3 : yn ≤ 40) (q1 : ¬ n < 1) (q2 : ¬ 200 < n) (q3 : ¬ m < 0) (q4 : n < m)
    (CT : ∀ W : World, DigsAt W na nn nc ns → ShaTab W → Calls Tryd.prog 10 #[.agg (i.map (Value.int .u8)).toArray, .agg (sideC p c d (.slice na nn nc)).toArray] W fun e w' => ∃ v, e = .returned v ∧ TextsV A v w' ∧ Below W.heap.size W w')
    (CW : ∀ W : World, Calls Tryd.prog 11 #[.agg (d.map (Value.int .u8)).toArray, .slice na nn nc] W fun e w' => e = .returned (.bool true) ∧ Below W.heap.size W w')
    (CR : ∀ W : World, DigsAt W na nn nc ns → Calls Tryd.prog 13 #[.agg (i.map (Value.int .u8)).toArray, .bool p, .agg (c.map (Value.int .u8)).toArray, .agg (d.map (Value.int .u8)).toArray, .slice na nn nc] W fun e w' => ∃ v, e = .returned v ∧ TextsV A v w' ∧ Below W.heap.size W w')
    (CX : ∀ W : World, TextAt W ta tn tc t → DigsAt W ya yn yc ds → ShaTab W → Calls Tryd.prog 14 #[.int .i64 n, .int .i64 m, .slice ta tn tc, .slice ya yn yc] W fun e w' => ∃ v, e = .returned v ∧ TextsV [] v w' ∧ Below W.heap.size W w')
    (CG : ∀ W : World, DigsAt W ya yn yc ds → ShaTab W → Calls Tryd.prog 15 #[.agg (i.map (Value.int .u8)).toArray, .int .i64 m, .int .i64 n, .slice ya yn yc] W fun e w' => ∃ v, e = .returned v ∧ TextsV [] v w' ∧ Below W.heap.size W w') :
    Calls Tryd.prog 3 #[.agg (i.map (Value.int .u8)).toArray, .agg (sideC p c d (.slice na nn nc)).toArray, .int .i64 m, .int .i64 n, .slice ta tn tc, .slice ya yn yc] w fun e' w' => e' = .returned (.bool true) ∧ Below w.heap.size w w' := by
  have b1 := (Below.refl w.heap.size w).alloc (Nat.le_refl _) (.cells (i.map (Value.int .u8)).toArray 23 (0, 0))
  have b2 := b1.alloc b1.size (.cells (sideC p c d (.slice na nn nc)).toArray 28 (0, 0))
  have Ki := hid ((Blk.new (w := w) (n := w.heap.size) rfl (i.map (Value.int .u8)).toArray 23).old (.cells (sideC p c d (.slice na nn nc)).toArray 28 (0, 0)))
  have Ks := hid (Blk.new (w := (w.alloc (.cells (i.map (Value.int .u8)).toArray 23 (0, 0)))) (n := w.heap.size + 1) (by simp only [World.size_alloc]) (sideC p c d (.slice na nn nc)).toArray 28)
  have Hb := hid b2
  have hbz := b2.size
  have Hbs := hid (show w.heap.size + 1 + 1 = ((w.alloc (.cells (i.map (Value.int .u8)).toArray 23 (0, 0))).alloc (.cells (sideC p c d (.slice na nn nc)).toArray 28 (0, 0))).heap.size by simp only [World.size_alloc])
  have Htab := hid tab
  clear b1 b2 tab 
  have KN := hid (hN.below Hb.out)
  have KT := hid (hT.below Hb.out)
  have KW := hid (hW.below Hb.out)
  clear hN hT hW
  have hca : ¬ (300 : Int) < (nn : Int) := by omega
  have hcb : ¬ (1000 : Int) < (tn : Int) := by omega
  have hcc : ¬ (40 : Int) < (yn : Int) := by omega
  have cna : ((w.alloc (.cells (i.map (Value.int .u8)).toArray 23 (0, 0))).alloc (.cells (sideC p c d (.slice na nn nc)).toArray 28 (0, 0))).cell? ⟨w.heap.size + 1, 33 + 32, none⟩ = some (.slice na nn nc) := sideC_nodes' hc hd Ks.out
  go_enter Tryd.func3, Tryd.ntmps3
  go_wp2_with (first
     | (with_reducible show wpList _ _ _ (⟨some 37, _, _, _, _, _⟩ :: _) _ _; refine wpList_load_blk rfl 23 _ rfl (w.heap.size) rfl _ 23 Ki.out _ Tryd.underlying23 rfl 32 size_digest hi.size ?_)
     | (with_reducible show wpList _ _ _ (⟨some 38, _, _, _, _, _⟩ :: _) _ _; refine wpList_load_blk rfl 28 _ rfl (w.heap.size + 1) rfl _ 28 Ks.out _ Tryd.underlying28 rfl 66 size_side (sideC_size hc hd) ?_))
  clear cna
  refine (CT _ KN.out (Htab.out.below Hb.out)).mono ?_
  rintro e w1 ⟨vA, rfl, ⟨aA, nA, cA, rfl, htA⟩, bw1⟩
  have HBw1 := hid (Below.on Hb.out bw1)
  have hsw1 := HBw1.out.size
  have Kiw1 := hid (Ki.out.below bw1)
  have Ksw1 := hid (Ks.out.below bw1)
  have KNw1 := hid (KN.out.below bw1)
  have KTw1 := hid (KT.out.below bw1)
  have KWw1 := hid (KW.out.below bw1)
  clear bw1
  have KAw1 := hid htA
  clear htA
  have cna : w1.cell? ⟨w.heap.size + 1, 33 + 32, none⟩ = some (.slice na nn nc) := sideC_nodes' hc hd Ksw1.out
  go_wp2_with (with_reducible show wpList _ _ _ (⟨some 42, _, _, _, _, _⟩ :: _) _ _; refine wpList_load_mid rfl 23 _ rfl (w.heap.size + 1) 33 rfl _ _ (sideC_known hc Ksw1.out) Tryd.underlying23 rfl (by rw [List.length_map, hd.len]; exact size_digest) ?_)
  clear cna
  refine (CW _).mono ?_
  rintro e w2 ⟨rfl, bw2⟩
  have HBw2 := hid (Below.on HBw1.out bw2)
  have hsw2 := HBw2.out.size
  have Kiw2 := hid (Kiw1.out.below bw2)
  have Ksw2 := hid (Ksw1.out.below bw2)
  have KNw2 := hid (KNw1.out.below bw2)
  have KTw2 := hid (KTw1.out.below bw2)
  have KWw2 := hid (KWw1.out.below bw2)
  have KAw2 := hid (KAw1.out.below bw2)
  clear bw2
  have cna : w2.cell? ⟨w.heap.size + 1, 33 + 32, none⟩ = some (.slice na nn nc) := sideC_nodes' hc hd Ksw2.out
  have cp : w2.cell? ⟨w.heap.size + 1, 0, none⟩ = some (.bool p) := by rw [Ksw2.out.cell]; rfl
  go_wp2_with (first
     | (with_reducible show wpList _ _ _ (⟨some 52, _, _, _, _, _⟩ :: _) _ _; refine wpList_load_blk rfl 23 _ rfl (w.heap.size) rfl _ 23 Kiw2.out _ Tryd.underlying23 rfl 32 size_digest hi.size ?_)
     | (with_reducible show wpList _ _ _ (⟨some 56, _, _, _, _, _⟩ :: _) _ _; refine wpList_load_mid rfl 23 _ rfl (w.heap.size + 1) 1 rfl _ _ (sideC_com Ksw2.out) Tryd.underlying23 rfl (by rw [List.length_map, hc.len]; exact size_digest) ?_)
     | (with_reducible show wpList _ _ _ (⟨some 59, _, _, _, _, _⟩ :: _) _ _; refine wpList_load_mid rfl 23 _ rfl (w.heap.size + 1) 33 rfl _ _ (sideC_known hc Ksw2.out) Tryd.underlying23 rfl (by rw [List.length_map, hd.len]; exact size_digest) ?_))
  clear cna cp
  refine (CR _ KNw2.out).mono ?_
  rintro e w3 ⟨vQ, rfl, ⟨aQ, nQ, cQ, rfl, htQ⟩, bw3⟩
  have HBw3 := hid (Below.on HBw2.out bw3)
  have hsw3 := HBw3.out.size
  have Kiw3 := hid (Kiw2.out.below bw3)
  have Ksw3 := hid (Ksw2.out.below bw3)
  have KNw3 := hid (KNw2.out.below bw3)
  have KTw3 := hid (KTw2.out.below bw3)
  have KWw3 := hid (KWw2.out.below bw3)
  have KAw3 := hid (KAw2.out.below bw3)
  clear bw3
  have KQw3 := hid htQ
  obtain rfl : nA = nQ := KAw3.out.length.symm.trans htQ.length
  clear htQ
  go_wp2_with fail
  refine (refsameT_any aA aQ nA cA cQ A _ KAw3.out KQw3.out).mono ?_
  rintro e w4 ⟨rfl, bw4⟩
  have HBw4 := hid (Below.on HBw3.out bw4)
  have hsw4 := HBw4.out.size
  have Kiw4 := hid (Kiw3.out.below bw4)
  have Ksw4 := hid (Ksw3.out.below bw4)
  have KNw4 := hid (KNw3.out.below bw4)
  have KTw4 := hid (KTw3.out.below bw4)
  have KWw4 := hid (KWw3.out.below bw4)
  have KAw4 := hid (KAw3.out.below bw4)
  have KQw4 := hid (KQw3.out.below bw4)
  clear bw4
  go_wp2_with fail
  refine (CX _ KTw4.out KWw4.out (Htab.out.below HBw4.out)).mono ?_
  rintro e w5 ⟨vB, rfl, ⟨aB, nB, cB, rfl, htB⟩, bw5⟩
  have HBw5 := hid (Below.on HBw4.out bw5)
  have hsw5 := HBw5.out.size
  have Kiw5 := hid (Kiw4.out.below bw5)
  have Ksw5 := hid (Ksw4.out.below bw5)
  have KNw5 := hid (KNw4.out.below bw5)
  have KTw5 := hid (KTw4.out.below bw5)
  have KWw5 := hid (KWw4.out.below bw5)
  have KAw5 := hid (KAw4.out.below bw5)
  have KQw5 := hid (KQw4.out.below bw5)
  clear bw5
  have KBw5 := hid htB
  obtain rfl : nB = 0 := htB.length.symm
  clear htB
  go_wp2_with (with_reducible show wpList _ _ _ (⟨some 71, _, _, _, _, _⟩ :: _) _ _; refine wpList_load_blk rfl 23 _ rfl (w.heap.size) rfl _ 23 Kiw5.out _ Tryd.underlying23 rfl 32 size_digest hi.size ?_)
  refine (CG _ KWw5.out (Htab.out.below HBw5.out)).mono ?_
  rintro e w6 ⟨vC, rfl, ⟨aC, nC, cC, rfl, htC⟩, bw6⟩
  have HBw6 := hid (Below.on HBw5.out bw6)
  have hsw6 := HBw6.out.size
  have Kiw6 := hid (Kiw5.out.below bw6)
  have Ksw6 := hid (Ksw5.out.below bw6)
  have KNw6 := hid (KNw5.out.below bw6)
  have KTw6 := hid (KTw5.out.below bw6)
  have KWw6 := hid (KWw5.out.below bw6)
  have KAw6 := hid (KAw5.out.below bw6)
  have KQw6 := hid (KQw5.out.below bw6)
  have KBw6 := hid (KBw5.out.below bw6)
  clear bw6
  have KCw6 := hid htC
  obtain rfl : nC = 0 := htC.length.symm
  clear htC
  go_wp2_with fail
  refine (knows23 _ (Htab.out.below HBw6.out)).mono ?_
  rintro e w7 ⟨rfl, bw7⟩
  have HBw7 := hid (Below.on HBw6.out bw7)
  have hsw7 := HBw7.out.size
  have Kiw7 := hid (Kiw6.out.below bw7)
  have Ksw7 := hid (Ksw6.out.below bw7)
  have KNw7 := hid (KNw6.out.below bw7)
  have KTw7 := hid (KTw6.out.below bw7)
  have KWw7 := hid (KWw6.out.below bw7)
  have KAw7 := hid (KAw6.out.below bw7)
  have KQw7 := hid (KQw6.out.below bw7)
  have KBw7 := hid (KBw6.out.below bw7)
  have KCw7 := hid (KCw6.out.below bw7)
  clear bw7
  go_wp2_with fail
  go_returns
  exact ⟨by first | rfl | simp, HBw7.out⟩
set_option maxHeartbeats 4000000 in
theorem extrails_w_eqy (i c d t : List Int) (p : Bool) (na ta ya : Option Addr) (nn nc tn tc yn yc : Nat) (m n : Int) (ns ds : List (List Int)) (A C : List (List Int)) (w : World) (hi : Dg i) (hc : Dg c) (hd : Dg d) (hN : DigsAt w na nn nc ns) (hT : TextAt w ta tn tc t) (hW : DigsAt w ya yn yc ds) (tab : ShaTab w) (hb1 : nn ≤ 300) (hb2 : tn ≤ 1000) (hb3 : yn ≤ 40) (q1 : ¬ n < 1) (q2 : ¬ 200 < n) (q3 : ¬ m < 0) (q4 : ¬ n < m) (he : m = n)
    (CT : ∀ W : World, DigsAt W na nn nc ns → ShaTab W → Calls Tryd.prog 10 #[.agg (i.map (Value.int .u8)).toArray, .agg (sideC p c d (.slice na nn nc)).toArray] W fun e w' => ∃ v, e = .returned v ∧ TextsV A v w' ∧ Below W.heap.size W w')
    (CW : ∀ W : World, Calls Tryd.prog 11 #[.agg (d.map (Value.int .u8)).toArray, .slice na nn nc] W fun e w' => e = .returned (.bool true) ∧ Below W.heap.size W w')
    (CR : ∀ W : World, DigsAt W na nn nc ns → Calls Tryd.prog 13 #[.agg (i.map (Value.int .u8)).toArray, .bool p, .agg (c.map (Value.int .u8)).toArray, .agg (d.map (Value.int .u8)).toArray, .slice na nn nc] W fun e w' => ∃ v, e = .returned v ∧ TextsV A v w' ∧ Below W.heap.size W w')
    (CX : ∀ W : World, TextAt W ta tn tc t → DigsAt W ya yn yc ds → ShaTab W → Calls Tryd.prog 14 #[.int .i64 n, .int .i64 m, .slice ta tn tc, .slice ya yn yc] W fun e w' => ∃ v, e = .returned v ∧ TextsV [] v w' ∧ Below W.heap.size W w')
    (CG : ∀ W : World, DigsAt W ya yn yc ds → ShaTab W → Calls Tryd.prog 15 #[.agg (i.map (Value.int .u8)).toArray, .int .i64 m, .int .i64 n, .slice ya yn yc] W fun e w' => ∃ v, e = .returned v ∧ TextsV C v w' ∧ Below W.heap.size W w')
    (CGR : ∀ W : World, DigsAt W ya yn yc ds → Calls Tryd.prog 17 #[.agg (i.map (Value.int .u8)).toArray, .int .i64 m, .int .i64 n, .bool false, .slice ya yn yc] W fun e w' => ∃ (v : Value) (X : List Int), e = .returned (.tuple #[v, .agg (X.map (Value.int .u8)).toArray, .bool true]) ∧ Dg X ∧ TextsV C v w' ∧ Below W.heap.size W w') :
    Calls Tryd.prog 3 #[.agg (i.map (Value.int .u8)).toArray, .agg (sideC p c d (.slice na nn nc)).toArray, .int .i64 m, .int .i64 n, .slice ta tn tc, .slice ya yn yc] w fun e' w' => e' = .returned (.bool true) ∧ Below w.heap.size w w' := by
  have b1 := (Below.refl w.heap.size w).alloc (Nat.le_refl _) (.cells (i.map (Value.int .u8)).toArray 23 (0, 0))
  have b2 := b1.alloc b1.size (.cells (sideC p c d (.slice na nn nc)).toArray 28 (0, 0))
  have Ki := hid ((Blk.new (w := w) (n := w.heap.size) rfl (i.map (Value.int .u8)).toArray 23).old (.cells (sideC p c d (.slice na nn nc)).toArray 28 (0, 0)))
  have Ks := hid (Blk.new (w := (w.alloc (.cells (i.map (Value.int .u8)).toArray 23 (0, 0)))) (n := w.heap.size + 1) (by simp only [World.size_alloc]) (sideC p c d (.slice na nn nc)).toArray 28)
  have Hb := hid b2
  have hbz := b2.size
  have Hbs := hid (show w.heap.size + 1 + 1 = ((w.alloc (.cells (i.map (Value.int .u8)).toArray 23 (0, 0))).alloc (.cells (sideC p c d (.slice na nn nc)).toArray 28 (0, 0))).heap.size by simp only [World.size_alloc])
  have Htab := hid tab
  clear b1 b2 tab 
  have KN := hid (hN.below Hb.out)
  have KT := hid (hT.below Hb.out)
  have KW := hid (hW.below Hb.out)
  clear hN hT hW
  have hca : ¬ (300 : Int) < (nn : Int) := by omega
  have hcb : ¬ (1000 : Int) < (tn : Int) := by omega
  have hcc : ¬ (40 : Int) < (yn : Int) := by omega
  have qe : (m == n) = true := by simp [he]
  have qz : (m == 0) = false := by simp; omega
  clear he
  have cna : ((w.alloc (.cells (i.map (Value.int .u8)).toArray 23 (0, 0))).alloc (.cells (sideC p c d (.slice na nn nc)).toArray 28 (0, 0))).cell? ⟨w.heap.size + 1, 33 + 32, none⟩ = some (.slice na nn nc) := sideC_nodes' hc hd Ks.out
  go_enter Tryd.func3, Tryd.ntmps3
  go_wp2_with (first
     | (with_reducible show wpList _ _ _ (⟨some 37, _, _, _, _, _⟩ :: _) _ _; refine wpList_load_blk rfl 23 _ rfl (w.heap.size) rfl _ 23 Ki.out _ Tryd.underlying23 rfl 32 size_digest hi.size ?_)
     | (with_reducible show wpList _ _ _ (⟨some 38, _, _, _, _, _⟩ :: _) _ _; refine wpList_load_blk rfl 28 _ rfl (w.heap.size + 1) rfl _ 28 Ks.out _ Tryd.underlying28 rfl 66 size_side (sideC_size hc hd) ?_))
  clear cna
  refine (CT _ KN.out (Htab.out.below Hb.out)).mono ?_
  rintro e w1 ⟨vA, rfl, ⟨aA, nA, cA, rfl, htA⟩, bw1⟩
  have HBw1 := hid (Below.on Hb.out bw1)
  have hsw1 := HBw1.out.size
  have Kiw1 := hid (Ki.out.below bw1)
  have Ksw1 := hid (Ks.out.below bw1)
  have KNw1 := hid (KN.out.below bw1)
  have KTw1 := hid (KT.out.below bw1)
  have KWw1 := hid (KW.out.below bw1)
  clear bw1
  have KAw1 := hid htA
  clear htA
  have cna : w1.cell? ⟨w.heap.size + 1, 33 + 32, none⟩ = some (.slice na nn nc) := sideC_nodes' hc hd Ksw1.out
  go_wp2_with (with_reducible show wpList _ _ _ (⟨some 42, _, _, _, _, _⟩ :: _) _ _; refine wpList_load_mid rfl 23 _ rfl (w.heap.size + 1) 33 rfl _ _ (sideC_known hc Ksw1.out) Tryd.underlying23 rfl (by rw [List.length_map, hd.len]; exact size_digest) ?_)
  clear cna
  refine (CW _).mono ?_
  rintro e w2 ⟨rfl, bw2⟩
  have HBw2 := hid (Below.on HBw1.out bw2)
  have hsw2 := HBw2.out.size
  have Kiw2 := hid (Kiw1.out.below bw2)
  have Ksw2 := hid (Ksw1.out.below bw2)
  have KNw2 := hid (KNw1.out.below bw2)
  have KTw2 := hid (KTw1.out.below bw2)
  have KWw2 := hid (KWw1.out.below bw2)
  have KAw2 := hid (KAw1.out.below bw2)
  clear bw2
  have cna : w2.cell? ⟨w.heap.size + 1, 33 + 32, none⟩ = some (.slice na nn nc) := sideC_nodes' hc hd Ksw2.out
  have cp : w2.cell? ⟨w.heap.size + 1, 0, none⟩ = some (.bool p) := by rw [Ksw2.out.cell]; rfl
  go_wp2_with (first
     | (with_reducible show wpList _ _ _ (⟨some 52, _, _, _, _, _⟩ :: _) _ _; refine wpList_load_blk rfl 23 _ rfl (w.heap.size) rfl _ 23 Kiw2.out _ Tryd.underlying23 rfl 32 size_digest hi.size ?_)
     | (with_reducible show wpList _ _ _ (⟨some 56, _, _, _, _, _⟩ :: _) _ _; refine wpList_load_mid rfl 23 _ rfl (w.heap.size + 1) 1 rfl _ _ (sideC_com Ksw2.out) Tryd.underlying23 rfl (by rw [List.length_map, hc.len]; exact size_digest) ?_)
     | (with_reducible show wpList _ _ _ (⟨some 59, _, _, _, _, _⟩ :: _) _ _; refine wpList_load_mid rfl 23 _ rfl (w.heap.size + 1) 33 rfl _ _ (sideC_known hc Ksw2.out) Tryd.underlying23 rfl (by rw [List.length_map, hd.len]; exact size_digest) ?_))
  clear cna cp
  refine (CR _ KNw2.out).mono ?_
  rintro e w3 ⟨vQ, rfl, ⟨aQ, nQ, cQ, rfl, htQ⟩, bw3⟩
  have HBw3 := hid (Below.on HBw2.out bw3)
  have hsw3 := HBw3.out.size
  have Kiw3 := hid (Kiw2.out.below bw3)
  have Ksw3 := hid (Ksw2.out.below bw3)
  have KNw3 := hid (KNw2.out.below bw3)
  have KTw3 := hid (KTw2.out.below bw3)
  have KWw3 := hid (KWw2.out.below bw3)
  have KAw3 := hid (KAw2.out.below bw3)
  clear bw3
  have KQw3 := hid htQ
  obtain rfl : nA = nQ := KAw3.out.length.symm.trans htQ.length
  clear htQ
  go_wp2_with fail
  refine (refsameT_any aA aQ nA cA cQ A _ KAw3.out KQw3.out).mono ?_
  rintro e w4 ⟨rfl, bw4⟩
  have HBw4 := hid (Below.on HBw3.out bw4)
  have hsw4 := HBw4.out.size
  have Kiw4 := hid (Kiw3.out.below bw4)
  have Ksw4 := hid (Ksw3.out.below bw4)
  have KNw4 := hid (KNw3.out.below bw4)
  have KTw4 := hid (KTw3.out.below bw4)
  have KWw4 := hid (KWw3.out.below bw4)
  have KAw4 := hid (KAw3.out.below bw4)
  have KQw4 := hid (KQw3.out.below bw4)
  clear bw4
  go_wp2_with fail
  refine (CX _ KTw4.out KWw4.out (Htab.out.below HBw4.out)).mono ?_
  rintro e w5 ⟨vB, rfl, ⟨aB, nB, cB, rfl, htB⟩, bw5⟩
  have HBw5 := hid (Below.on HBw4.out bw5)
  have hsw5 := HBw5.out.size
  have Kiw5 := hid (Kiw4.out.below bw5)
  have Ksw5 := hid (Ksw4.out.below bw5)
  have KNw5 := hid (KNw4.out.below bw5)
  have KTw5 := hid (KTw4.out.below bw5)
  have KWw5 := hid (KWw4.out.below bw5)
  have KAw5 := hid (KAw4.out.below bw5)
  have KQw5 := hid (KQw4.out.below bw5)
  clear bw5
  have KBw5 := hid htB
  obtain rfl : nB = 0 := htB.length.symm
  clear htB
  go_wp2_with (with_reducible show wpList _ _ _ (⟨some 71, _, _, _, _, _⟩ :: _) _ _; refine wpList_load_blk rfl 23 _ rfl (w.heap.size) rfl _ 23 Kiw5.out _ Tryd.underlying23 rfl 32 size_digest hi.size ?_)
  refine (CG _ KWw5.out (Htab.out.below HBw5.out)).mono ?_
  rintro e w6 ⟨vC, rfl, ⟨aC, nC, cC, rfl, htC⟩, bw6⟩
  have HBw6 := hid (Below.on HBw5.out bw6)
  have hsw6 := HBw6.out.size
  have Kiw6 := hid (Kiw5.out.below bw6)
  have Ksw6 := hid (Ksw5.out.below bw6)
  have KNw6 := hid (KNw5.out.below bw6)
  have KTw6 := hid (KTw5.out.below bw6)
  have KWw6 := hid (KWw5.out.below bw6)
  have KAw6 := hid (KAw5.out.below bw6)
  have KQw6 := hid (KQw5.out.below bw6)
  have KBw6 := hid (KBw5.out.below bw6)
  clear bw6
  have KCw6 := hid htC
  clear htC
  go_wp2_with (with_reducible show wpList _ _ _ (⟨some 141, _, _, _, _, _⟩ :: _) _ _; refine wpList_load_blk rfl 23 _ rfl (w.heap.size) rfl _ 23 Kiw6.out _ Tryd.underlying23 rfl 32 size_digest hi.size ?_)
  refine (CGR _ KWw6.out).mono ?_
  rintro e w7 ⟨vY, X, rfl, hX, ⟨aY, nY, cY, rfl, htY⟩, bw7⟩
  have HBw7 := hid (Below.on HBw6.out bw7)
  have hsw7 := HBw7.out.size
  have Kiw7 := hid (Kiw6.out.below bw7)
  have Ksw7 := hid (Ksw6.out.below bw7)
  have KNw7 := hid (KNw6.out.below bw7)
  have KTw7 := hid (KTw6.out.below bw7)
  have KWw7 := hid (KWw6.out.below bw7)
  have KAw7 := hid (KAw6.out.below bw7)
  have KQw7 := hid (KQw6.out.below bw7)
  have KBw7 := hid (KBw6.out.below bw7)
  have KCw7 := hid (KCw6.out.below bw7)
  clear bw7
  have KYw7 := hid htY
  obtain rfl : nC = nY := KCw7.out.length.symm.trans htY.length
  clear htY
  go_wp2_with (
        refine wpList_store_blk rfl 23 _ _ rfl (w7.heap.size) (X.map (Value.int .u8)).toArray rfl rfl _ 23 (Blk.new rfl (byteCells 32 []) _) 32 size_digest zsize hX.size (ints_one _ _) ?_
        intro w8 hbw8 hkw8
        have hw8 := hbw8.below ((Below.refl w7.heap.size w7).alloc (Nat.le_refl _) _) (by simp only [World.size_alloc]; omega) (Nat.le_refl _)
        have HBw8 := hid (Below.on HBw7.out hw8)
        have hsw8 := HBw8.out.size
        have Kiw8 := hid (Kiw7.out.below hw8)
        have hliw8 := Kiw7.out.lt
        have Ksw8 := hid (Ksw7.out.below hw8)
        have hlsw8 := Ksw7.out.lt
        have KNw8 := hid (KNw7.out.below hw8)
        have KTw8 := hid (KTw7.out.below hw8)
        have KWw8 := hid (KWw7.out.below hw8)
        have KAw8 := hid (KAw7.out.below hw8)
        have KQw8 := hid (KQw7.out.below hw8)
        have KBw8 := hid (KBw7.out.below hw8)
        have KCw8 := hid (KCw7.out.below hw8)
        have KYw8 := hid (KYw7.out.below hw8)
        have Kxw8 := hid hkw8
        have hfw8 : w.heap.size ≤ w7.heap.size := HBw7.out.size
        clear hbw8 hkw8 hw8)
  refine (refsameT_any aC aY nC cC cY C _ KCw8.out KYw8.out).mono ?_
  rintro e w9 ⟨rfl, bw9⟩
  have HBw9 := hid (Below.on HBw8.out bw9)
  have hsw9 := HBw9.out.size
  have Kiw9 := hid (Kiw8.out.below bw9)
  have Ksw9 := hid (Ksw8.out.below bw9)
  have KNw9 := hid (KNw8.out.below bw9)
  have KTw9 := hid (KTw8.out.below bw9)
  have KWw9 := hid (KWw8.out.below bw9)
  have KAw9 := hid (KAw8.out.below bw9)
  have KQw9 := hid (KQw8.out.below bw9)
  have KBw9 := hid (KBw8.out.below bw9)
  have KCw9 := hid (KCw8.out.below bw9)
  have KYw9 := hid (KYw8.out.below bw9)
  have Kxw9 := hid (Kxw8.out.below bw9)
  clear bw9
  go_wp2_with fail
  refine (knows23 _ (Htab.out.below HBw9.out)).mono ?_
  rintro e w10 ⟨rfl, bw10⟩
  have HBw10 := hid (Below.on HBw9.out bw10)
  have hsw10 := HBw10.out.size
  have Kiw10 := hid (Kiw9.out.below bw10)
  have Ksw10 := hid (Ksw9.out.below bw10)
  have KNw10 := hid (KNw9.out.below bw10)
  have KTw10 := hid (KTw9.out.below bw10)
  have KWw10 := hid (KWw9.out.below bw10)
  have KAw10 := hid (KAw9.out.below bw10)
  have KQw10 := hid (KQw9.out.below bw10)
  have KBw10 := hid (KBw9.out.below bw10)
  have KCw10 := hid (KCw9.out.below bw10)
  have KYw10 := hid (KYw9.out.below bw10)
  have Kxw10 := hid (Kxw9.out.below bw10)
  clear bw10
  go_wp2_with fail
  go_returns
  exact ⟨by first | rfl | simp, HBw10.out⟩
set_option maxHeartbeats 4000000 in
theorem extrails_w_eqn (i c d t : List Int) (p : Bool) (na ta ya : Option Addr) (nn nc tn tc yn yc : Nat) (m n : Int) (ns ds : List (List Int)) (A : List (List Int)) (w : World) (hi : Dg i) (hc : Dg c) (hd : Dg d) (hN : DigsAt w na nn nc ns) (hT : TextAt w ta tn tc t) (hW : DigsAt w ya yn yc ds) (tab : ShaTab w) (hb1 : nn ≤ 300) (hb2 : tn ≤ 1000) (hb3 : yn ≤ 40) (q1 : ¬ n < 1) (q2 : ¬ 200 < n) (q3 : ¬ m < 0) (q4 : ¬ n < m) (he : m = n)
    (CT : ∀ W : World, DigsAt W na nn nc ns → ShaTab W → Calls Tryd.prog 10 #[.agg (i.map (Value.int .u8)).toArray, .agg (sideC p c d (.slice na nn nc)).toArray] W fun e w' => ∃ v, e = .returned v ∧ TextsV A v w' ∧ Below W.heap.size W w')
    (CW : ∀ W : World, Calls Tryd.prog 11 #[.agg (d.map (Value.int .u8)).toArray, .slice na nn nc] W fun e w' => e = .returned (.bool true) ∧ Below W.heap.size W w')
    (CR : ∀ W : World, DigsAt W na nn nc ns → Calls Tryd.prog 13 #[.agg (i.map (Value.int .u8)).toArray, .bool p, .agg (c.map (Value.int .u8)).toArray, .agg (d.map (Value.int .u8)).toArray, .slice na nn nc] W fun e w' => ∃ v, e = .returned v ∧ TextsV A v w' ∧ Below W.heap.size W w')
    (CX : ∀ W : World, TextAt W ta tn tc t → DigsAt W ya yn yc ds → ShaTab W → Calls Tryd.prog 14 #[.int .i64 n, .int .i64 m, .slice ta tn tc, .slice ya yn yc] W fun e w' => ∃ v, e = .returned v ∧ TextsV [] v w' ∧ Below W.heap.size W w')
    (CG : ∀ W : World, DigsAt W ya yn yc ds → ShaTab W → Calls Tryd.prog 15 #[.agg (i.map (Value.int .u8)).toArray, .int .i64 m, .int .i64 n, .slice ya yn yc] W fun e w' => ∃ v, e = .returned v ∧ TextsV [] v w' ∧ Below W.heap.size W w')
    (CGR : ∀ W : World, DigsAt W ya yn yc ds → Calls Tryd.prog 17 #[.agg (i.map (Value.int .u8)).toArray, .int .i64 m, .int .i64 n, .bool false, .slice ya yn yc] W fun e w' => ∃ (v : Value) (X : List Int), e = .returned (.tuple #[v, .agg (X.map (Value.int .u8)).toArray, .bool false]) ∧ Dg X ∧ Below W.heap.size W w') :
    Calls Tryd.prog 3 #[.agg (i.map (Value.int .u8)).toArray, .agg (sideC p c d (.slice na nn nc)).toArray, .int .i64 m, .int .i64 n, .slice ta tn tc, .slice ya yn yc] w fun e' w' => e' = .returned (.bool true) ∧ Below w.heap.size w w' := by
  have b1 := (Below.refl w.heap.size w).alloc (Nat.le_refl _) (.cells (i.map (Value.int .u8)).toArray 23 (0, 0))
  have b2 := b1.alloc b1.size (.cells (sideC p c d (.slice na nn nc)).toArray 28 (0, 0))
  have Ki := hid ((Blk.new (w := w) (n := w.heap.size) rfl (i.map (Value.int .u8)).toArray 23).old (.cells (sideC p c d (.slice na nn nc)).toArray 28 (0, 0)))
  have Ks := hid (Blk.new (w := (w.alloc (.cells (i.map (Value.int .u8)).toArray 23 (0, 0)))) (n := w.heap.size + 1) (by simp only [World.size_alloc]) (sideC p c d (.slice na nn nc)).toArray 28)
  have Hb := hid b2
  have hbz := b2.size
  have Hbs := hid (show w.heap.size + 1 + 1 = ((w.alloc (.cells (i.map (Value.int .u8)).toArray 23 (0, 0))).alloc (.cells (sideC p c d (.slice na nn nc)).toArray 28 (0, 0))).heap.size by simp only [World.size_alloc])
  have Htab := hid tab
  clear b1 b2 tab 
  have KN := hid (hN.below Hb.out)
  have KT := hid (hT.below Hb.out)
  have KW := hid (hW.below Hb.out)
  clear hN hT hW
  have hca : ¬ (300 : Int) < (nn : Int) := by omega
  have hcb : ¬ (1000 : Int) < (tn : Int) := by omega
  have hcc : ¬ (40 : Int) < (yn : Int) := by omega
  have qe : (m == n) = true := by simp [he]
  have qz : (m == 0) = false := by simp; omega
  clear he
  have cna : ((w.alloc (.cells (i.map (Value.int .u8)).toArray 23 (0, 0))).alloc (.cells (sideC p c d (.slice na nn nc)).toArray 28 (0, 0))).cell? ⟨w.heap.size + 1, 33 + 32, none⟩ = some (.slice na nn nc) := sideC_nodes' hc hd Ks.out
  go_enter Tryd.func3, Tryd.ntmps3
  go_wp2_with (first
     | (with_reducible show wpList _ _ _ (⟨some 37, _, _, _, _, _⟩ :: _) _ _; refine wpList_load_blk rfl 23 _ rfl (w.heap.size) rfl _ 23 Ki.out _ Tryd.underlying23 rfl 32 size_digest hi.size ?_)
     | (with_reducible show wpList _ _ _ (⟨some 38, _, _, _, _, _⟩ :: _) _ _; refine wpList_load_blk rfl 28 _ rfl (w.heap.size + 1) rfl _ 28 Ks.out _ Tryd.underlying28 rfl 66 size_side (sideC_size hc hd) ?_))
  clear cna
  refine (CT _ KN.out (Htab.out.below Hb.out)).mono ?_
  rintro e w1 ⟨vA, rfl, ⟨aA, nA, cA, rfl, htA⟩, bw1⟩
  have HBw1 := hid (Below.on Hb.out bw1)
  have hsw1 := HBw1.out.size
  have Kiw1 := hid (Ki.out.below bw1)
  have Ksw1 := hid (Ks.out.below bw1)
  have KNw1 := hid (KN.out.below bw1)
  have KTw1 := hid (KT.out.below bw1)
  have KWw1 := hid (KW.out.below bw1)
  clear bw1
  have KAw1 := hid htA
  clear htA
  have cna : w1.cell? ⟨w.heap.size + 1, 33 + 32, none⟩ = some (.slice na nn nc) := sideC_nodes' hc hd Ksw1.out
  go_wp2_with (with_reducible show wpList _ _ _ (⟨some 42, _, _, _, _, _⟩ :: _) _ _; refine wpList_load_mid rfl 23 _ rfl (w.heap.size + 1) 33 rfl _ _ (sideC_known hc Ksw1.out) Tryd.underlying23 rfl (by rw [List.length_map, hd.len]; exact size_digest) ?_)
  clear cna
  refine (CW _).mono ?_
  rintro e w2 ⟨rfl, bw2⟩
  have HBw2 := hid (Below.on HBw1.out bw2)
  have hsw2 := HBw2.out.size
  have Kiw2 := hid (Kiw1.out.below bw2)
  have Ksw2 := hid (Ksw1.out.below bw2)
  have KNw2 := hid (KNw1.out.below bw2)
  have KTw2 := hid (KTw1.out.below bw2)
  have KWw2 := hid (KWw1.out.below bw2)
  have KAw2 := hid (KAw1.out.below bw2)
  clear bw2
  have cna : w2.cell? ⟨w.heap.size + 1, 33 + 32, none⟩ = some (.slice na nn nc) := sideC_nodes' hc hd Ksw2.out
  have cp : w2.cell? ⟨w.heap.size + 1, 0, none⟩ = some (.bool p) := by rw [Ksw2.out.cell]; rfl
  go_wp2_with (first
     | (with_reducible show wpList _ _ _ (⟨some 52, _, _, _, _, _⟩ :: _) _ _; refine wpList_load_blk rfl 23 _ rfl (w.heap.size) rfl _ 23 Kiw2.out _ Tryd.underlying23 rfl 32 size_digest hi.size ?_)
     | (with_reducible show wpList _ _ _ (⟨some 56, _, _, _, _, _⟩ :: _) _ _; refine wpList_load_mid rfl 23 _ rfl (w.heap.size + 1) 1 rfl _ _ (sideC_com Ksw2.out) Tryd.underlying23 rfl (by rw [List.length_map, hc.len]; exact size_digest) ?_)
     | (with_reducible show wpList _ _ _ (⟨some 59, _, _, _, _, _⟩ :: _) _ _; refine wpList_load_mid rfl 23 _ rfl (w.heap.size + 1) 33 rfl _ _ (sideC_known hc Ksw2.out) Tryd.underlying23 rfl (by rw [List.length_map, hd.len]; exact size_digest) ?_))
  clear cna cp
  refine (CR _ KNw2.out).mono ?_
  rintro e w3 ⟨vQ, rfl, ⟨aQ, nQ, cQ, rfl, htQ⟩, bw3⟩
  have HBw3 := hid (Below.on HBw2.out bw3)
  have hsw3 := HBw3.out.size
  have Kiw3 := hid (Kiw2.out.below bw3)
  have Ksw3 := hid (Ksw2.out.below bw3)
  have KNw3 := hid (KNw2.out.below bw3)
  have KTw3 := hid (KTw2.out.below bw3)
  have KWw3 := hid (KWw2.out.below bw3)
  have KAw3 := hid (KAw2.out.below bw3)
  clear bw3
  have KQw3 := hid htQ
  obtain rfl : nA = nQ := KAw3.out.length.symm.trans htQ.length
  clear htQ
  go_wp2_with fail
  refine (refsameT_any aA aQ nA cA cQ A _ KAw3.out KQw3.out).mono ?_
  rintro e w4 ⟨rfl, bw4⟩
  have HBw4 := hid (Below.on HBw3.out bw4)
  have hsw4 := HBw4.out.size
  have Kiw4 := hid (Kiw3.out.below bw4)
  have Ksw4 := hid (Ksw3.out.below bw4)
  have KNw4 := hid (KNw3.out.below bw4)
  have KTw4 := hid (KTw3.out.below bw4)
  have KWw4 := hid (KWw3.out.below bw4)
  have KAw4 := hid (KAw3.out.below bw4)
  have KQw4 := hid (KQw3.out.below bw4)
  clear bw4
  go_wp2_with fail
  refine (CX _ KTw4.out KWw4.out (Htab.out.below HBw4.out)).mono ?_
  rintro e w5 ⟨vB, rfl, ⟨aB, nB, cB, rfl, htB⟩, bw5⟩
  have HBw5 := hid (Below.on HBw4.out bw5)
  have hsw5 := HBw5.out.size
  have Kiw5 := hid (Kiw4.out.below bw5)
  have Ksw5 := hid (Ksw4.out.below bw5)
  have KNw5 := hid (KNw4.out.below bw5)
  have KTw5 := hid (KTw4.out.below bw5)
  have KWw5 := hid (KWw4.out.below bw5)
  have KAw5 := hid (KAw4.out.below bw5)
  have KQw5 := hid (KQw4.out.below bw5)
  clear bw5
  have KBw5 := hid htB
  obtain rfl : nB = 0 := htB.length.symm
  clear htB
  go_wp2_with (with_reducible show wpList _ _ _ (⟨some 71, _, _, _, _, _⟩ :: _) _ _; refine wpList_load_blk rfl 23 _ rfl (w.heap.size) rfl _ 23 Kiw5.out _ Tryd.underlying23 rfl 32 size_digest hi.size ?_)
  refine (CG _ KWw5.out (Htab.out.below HBw5.out)).mono ?_
  rintro e w6 ⟨vC, rfl, ⟨aC, nC, cC, rfl, htC⟩, bw6⟩
  have HBw6 := hid (Below.on HBw5.out bw6)
  have hsw6 := HBw6.out.size
  have Kiw6 := hid (Kiw5.out.below bw6)
  have Ksw6 := hid (Ksw5.out.below bw6)
  have KNw6 := hid (KNw5.out.below bw6)
  have KTw6 := hid (KTw5.out.below bw6)
  have KWw6 := hid (KWw5.out.below bw6)
  have KAw6 := hid (KAw5.out.below bw6)
  have KQw6 := hid (KQw5.out.below bw6)
  have KBw6 := hid (KBw5.out.below bw6)
  clear bw6
  have KCw6 := hid htC
  obtain rfl : nC = 0 := htC.length.symm
  clear htC
  go_wp2_with (with_reducible show wpList _ _ _ (⟨some 141, _, _, _, _, _⟩ :: _) _ _; refine wpList_load_blk rfl 23 _ rfl (w.heap.size) rfl _ 23 Kiw6.out _ Tryd.underlying23 rfl 32 size_digest hi.size ?_)
  refine (CGR _ KWw6.out).mono ?_
  rintro e w7 ⟨vY, X, rfl, hX, bw7⟩
  have HBw7 := hid (Below.on HBw6.out bw7)
  have hsw7 := HBw7.out.size
  have Kiw7 := hid (Kiw6.out.below bw7)
  have Ksw7 := hid (Ksw6.out.below bw7)
  have KNw7 := hid (KNw6.out.below bw7)
  have KTw7 := hid (KTw6.out.below bw7)
  have KWw7 := hid (KWw6.out.below bw7)
  have KAw7 := hid (KAw6.out.below bw7)
  have KQw7 := hid (KQw6.out.below bw7)
  have KBw7 := hid (KBw6.out.below bw7)
  have KCw7 := hid (KCw6.out.below bw7)
  clear bw7
  go_wp2_with (
        refine wpList_store_blk rfl 23 _ _ rfl (w7.heap.size) (X.map (Value.int .u8)).toArray rfl rfl _ 23 (Blk.new rfl (byteCells 32 []) _) 32 size_digest zsize hX.size (ints_one _ _) ?_
        intro w8 hbw8 hkw8
        have hw8 := hbw8.below ((Below.refl w7.heap.size w7).alloc (Nat.le_refl _) _) (by simp only [World.size_alloc]; omega) (Nat.le_refl _)
        have HBw8 := hid (Below.on HBw7.out hw8)
        have hsw8 := HBw8.out.size
        have Kiw8 := hid (Kiw7.out.below hw8)
        have hliw8 := Kiw7.out.lt
        have Ksw8 := hid (Ksw7.out.below hw8)
        have hlsw8 := Ksw7.out.lt
        have KNw8 := hid (KNw7.out.below hw8)
        have KTw8 := hid (KTw7.out.below hw8)
        have KWw8 := hid (KWw7.out.below hw8)
        have KAw8 := hid (KAw7.out.below hw8)
        have KQw8 := hid (KQw7.out.below hw8)
        have KBw8 := hid (KBw7.out.below hw8)
        have KCw8 := hid (KCw7.out.below hw8)
        have Kxw8 := hid hkw8
        have hfw8 : w.heap.size ≤ w7.heap.size := HBw7.out.size
        clear hbw8 hkw8 hw8)
  refine (knows23 _ (Htab.out.below HBw8.out)).mono ?_
  rintro e w9 ⟨rfl, bw9⟩
  have HBw9 := hid (Below.on HBw8.out bw9)
  have hsw9 := HBw9.out.size
  have Kiw9 := hid (Kiw8.out.below bw9)
  have Ksw9 := hid (Ksw8.out.below bw9)
  have KNw9 := hid (KNw8.out.below bw9)
  have KTw9 := hid (KTw8.out.below bw9)
  have KWw9 := hid (KWw8.out.below bw9)
  have KAw9 := hid (KAw8.out.below bw9)
  have KQw9 := hid (KQw8.out.below bw9)
  have KBw9 := hid (KBw8.out.below bw9)
  have KCw9 := hid (KCw8.out.below bw9)
  have Kxw9 := hid (Kxw8.out.below bw9)
  clear bw9
  go_wp2_with fail
  go_returns
  exact ⟨by first | rfl | simp, HBw9.out⟩
end Go.Proofs.YtkakoiaahgchmaaDoor
namespace Go.Proofs.YtkakoiaahgchmaaDoor
set_option maxRecDepth 100000
open Go.ChangeShapes Go.WideShapes Go.ChangeAt Go.RowKit
set_option maxHeartbeats 4000000 in
theorem extrails_w_neyz (i c d t : List Int) (p : Bool) (na ta ya : Option Addr) (nn nc tn tc yn yc : Nat) (m n : Int) (ns ds : List (List Int)) (A B : List (List Int)) (w : World) (hi : Dg i) (hc : Dg c) (hd : Dg d) (hN : DigsAt w na nn nc ns) (hT : TextAt w ta tn tc t) (hW : DigsAt w ya yn yc ds) (tab : ShaTab w) (hb1 : nn ≤ 300) (hb2 : tn ≤ 1000) (hb3 : yn ≤ 40) (q1 : ¬ n < 1) (q2 : ¬ 200 < n) (q3 : ¬ m < 0) (q4 : ¬ n < m) (he : ¬ m = n) (hz : m = 0)
    (CT : ∀ W : World, DigsAt W na nn nc ns → ShaTab W → Calls Tryd.prog 10 #[.agg (i.map (Value.int .u8)).toArray, .agg (sideC p c d (.slice na nn nc)).toArray] W fun e w' => ∃ v, e = .returned v ∧ TextsV A v w' ∧ Below W.heap.size W w')
    (CW : ∀ W : World, Calls Tryd.prog 11 #[.agg (d.map (Value.int .u8)).toArray, .slice na nn nc] W fun e w' => e = .returned (.bool true) ∧ Below W.heap.size W w')
    (CR : ∀ W : World, DigsAt W na nn nc ns → Calls Tryd.prog 13 #[.agg (i.map (Value.int .u8)).toArray, .bool p, .agg (c.map (Value.int .u8)).toArray, .agg (d.map (Value.int .u8)).toArray, .slice na nn nc] W fun e w' => ∃ v, e = .returned v ∧ TextsV A v w' ∧ Below W.heap.size W w')
    (CX : ∀ W : World, TextAt W ta tn tc t → DigsAt W ya yn yc ds → ShaTab W → Calls Tryd.prog 14 #[.int .i64 n, .int .i64 m, .slice ta tn tc, .slice ya yn yc] W fun e w' => ∃ v, e = .returned v ∧ TextsV B v w' ∧ Below W.heap.size W w')
    (CG : ∀ W : World, DigsAt W ya yn yc ds → ShaTab W → Calls Tryd.prog 15 #[.agg (i.map (Value.int .u8)).toArray, .int .i64 m, .int .i64 n, .slice ya yn yc] W fun e w' => ∃ v, e = .returned v ∧ TextsV [] v w' ∧ Below W.heap.size W w')
    (CXR : ∀ W : World, TextAt W ta tn tc t → DigsAt W ya yn yc ds → Calls Tryd.prog 16 #[.int .i64 n, .int .i64 m, .slice ta tn tc, .slice ya yn yc] W fun e w' => ∃ v, e = .returned (.tuple #[v, .bool true]) ∧ TextsV B v w' ∧ Below W.heap.size W w') :
    Calls Tryd.prog 3 #[.agg (i.map (Value.int .u8)).toArray, .agg (sideC p c d (.slice na nn nc)).toArray, .int .i64 m, .int .i64 n, .slice ta tn tc, .slice ya yn yc] w fun e' w' => e' = .returned (.bool true) ∧ Below w.heap.size w w' := by
  have b1 := (Below.refl w.heap.size w).alloc (Nat.le_refl _) (.cells (i.map (Value.int .u8)).toArray 23 (0, 0))
  have b2 := b1.alloc b1.size (.cells (sideC p c d (.slice na nn nc)).toArray 28 (0, 0))
  have Ki := hid ((Blk.new (w := w) (n := w.heap.size) rfl (i.map (Value.int .u8)).toArray 23).old (.cells (sideC p c d (.slice na nn nc)).toArray 28 (0, 0)))
  have Ks := hid (Blk.new (w := (w.alloc (.cells (i.map (Value.int .u8)).toArray 23 (0, 0)))) (n := w.heap.size + 1) (by simp only [World.size_alloc]) (sideC p c d (.slice na nn nc)).toArray 28)
  have Hb := hid b2
  have hbz := b2.size
  have Hbs := hid (show w.heap.size + 1 + 1 = ((w.alloc (.cells (i.map (Value.int .u8)).toArray 23 (0, 0))).alloc (.cells (sideC p c d (.slice na nn nc)).toArray 28 (0, 0))).heap.size by simp only [World.size_alloc])
  have Htab := hid tab
  clear b1 b2 tab 
  have KN := hid (hN.below Hb.out)
  have KT := hid (hT.below Hb.out)
  have KW := hid (hW.below Hb.out)
  clear hN hT hW
  have hca : ¬ (300 : Int) < (nn : Int) := by omega
  have hcb : ¬ (1000 : Int) < (tn : Int) := by omega
  have hcc : ¬ (40 : Int) < (yn : Int) := by omega
  have qe : (m == n) = false := by simp [he]
  have qz : (m == 0) = true := by simp [hz]
  clear he hz
  have cna : ((w.alloc (.cells (i.map (Value.int .u8)).toArray 23 (0, 0))).alloc (.cells (sideC p c d (.slice na nn nc)).toArray 28 (0, 0))).cell? ⟨w.heap.size + 1, 33 + 32, none⟩ = some (.slice na nn nc) := sideC_nodes' hc hd Ks.out
  go_enter Tryd.func3, Tryd.ntmps3
  go_wp2_with (first
     | (with_reducible show wpList _ _ _ (⟨some 37, _, _, _, _, _⟩ :: _) _ _; refine wpList_load_blk rfl 23 _ rfl (w.heap.size) rfl _ 23 Ki.out _ Tryd.underlying23 rfl 32 size_digest hi.size ?_)
     | (with_reducible show wpList _ _ _ (⟨some 38, _, _, _, _, _⟩ :: _) _ _; refine wpList_load_blk rfl 28 _ rfl (w.heap.size + 1) rfl _ 28 Ks.out _ Tryd.underlying28 rfl 66 size_side (sideC_size hc hd) ?_))
  clear cna
  refine (CT _ KN.out (Htab.out.below Hb.out)).mono ?_
  rintro e w1 ⟨vA, rfl, ⟨aA, nA, cA, rfl, htA⟩, bw1⟩
  have HBw1 := hid (Below.on Hb.out bw1)
  have hsw1 := HBw1.out.size
  have Kiw1 := hid (Ki.out.below bw1)
  have Ksw1 := hid (Ks.out.below bw1)
  have KNw1 := hid (KN.out.below bw1)
  have KTw1 := hid (KT.out.below bw1)
  have KWw1 := hid (KW.out.below bw1)
  clear bw1
  have KAw1 := hid htA
  clear htA
  have cna : w1.cell? ⟨w.heap.size + 1, 33 + 32, none⟩ = some (.slice na nn nc) := sideC_nodes' hc hd Ksw1.out
  go_wp2_with (with_reducible show wpList _ _ _ (⟨some 42, _, _, _, _, _⟩ :: _) _ _; refine wpList_load_mid rfl 23 _ rfl (w.heap.size + 1) 33 rfl _ _ (sideC_known hc Ksw1.out) Tryd.underlying23 rfl (by rw [List.length_map, hd.len]; exact size_digest) ?_)
  clear cna
  refine (CW _).mono ?_
  rintro e w2 ⟨rfl, bw2⟩
  have HBw2 := hid (Below.on HBw1.out bw2)
  have hsw2 := HBw2.out.size
  have Kiw2 := hid (Kiw1.out.below bw2)
  have Ksw2 := hid (Ksw1.out.below bw2)
  have KNw2 := hid (KNw1.out.below bw2)
  have KTw2 := hid (KTw1.out.below bw2)
  have KWw2 := hid (KWw1.out.below bw2)
  have KAw2 := hid (KAw1.out.below bw2)
  clear bw2
  have cna : w2.cell? ⟨w.heap.size + 1, 33 + 32, none⟩ = some (.slice na nn nc) := sideC_nodes' hc hd Ksw2.out
  have cp : w2.cell? ⟨w.heap.size + 1, 0, none⟩ = some (.bool p) := by rw [Ksw2.out.cell]; rfl
  go_wp2_with (first
     | (with_reducible show wpList _ _ _ (⟨some 52, _, _, _, _, _⟩ :: _) _ _; refine wpList_load_blk rfl 23 _ rfl (w.heap.size) rfl _ 23 Kiw2.out _ Tryd.underlying23 rfl 32 size_digest hi.size ?_)
     | (with_reducible show wpList _ _ _ (⟨some 56, _, _, _, _, _⟩ :: _) _ _; refine wpList_load_mid rfl 23 _ rfl (w.heap.size + 1) 1 rfl _ _ (sideC_com Ksw2.out) Tryd.underlying23 rfl (by rw [List.length_map, hc.len]; exact size_digest) ?_)
     | (with_reducible show wpList _ _ _ (⟨some 59, _, _, _, _, _⟩ :: _) _ _; refine wpList_load_mid rfl 23 _ rfl (w.heap.size + 1) 33 rfl _ _ (sideC_known hc Ksw2.out) Tryd.underlying23 rfl (by rw [List.length_map, hd.len]; exact size_digest) ?_))
  clear cna cp
  refine (CR _ KNw2.out).mono ?_
  rintro e w3 ⟨vQ, rfl, ⟨aQ, nQ, cQ, rfl, htQ⟩, bw3⟩
  have HBw3 := hid (Below.on HBw2.out bw3)
  have hsw3 := HBw3.out.size
  have Kiw3 := hid (Kiw2.out.below bw3)
  have Ksw3 := hid (Ksw2.out.below bw3)
  have KNw3 := hid (KNw2.out.below bw3)
  have KTw3 := hid (KTw2.out.below bw3)
  have KWw3 := hid (KWw2.out.below bw3)
  have KAw3 := hid (KAw2.out.below bw3)
  clear bw3
  have KQw3 := hid htQ
  obtain rfl : nA = nQ := KAw3.out.length.symm.trans htQ.length
  clear htQ
  go_wp2_with fail
  refine (refsameT_any aA aQ nA cA cQ A _ KAw3.out KQw3.out).mono ?_
  rintro e w4 ⟨rfl, bw4⟩
  have HBw4 := hid (Below.on HBw3.out bw4)
  have hsw4 := HBw4.out.size
  have Kiw4 := hid (Kiw3.out.below bw4)
  have Ksw4 := hid (Ksw3.out.below bw4)
  have KNw4 := hid (KNw3.out.below bw4)
  have KTw4 := hid (KTw3.out.below bw4)
  have KWw4 := hid (KWw3.out.below bw4)
  have KAw4 := hid (KAw3.out.below bw4)
  have KQw4 := hid (KQw3.out.below bw4)
  clear bw4
  go_wp2_with fail
  refine (CX _ KTw4.out KWw4.out (Htab.out.below HBw4.out)).mono ?_
  rintro e w5 ⟨vB, rfl, ⟨aB, nB, cB, rfl, htB⟩, bw5⟩
  have HBw5 := hid (Below.on HBw4.out bw5)
  have hsw5 := HBw5.out.size
  have Kiw5 := hid (Kiw4.out.below bw5)
  have Ksw5 := hid (Ksw4.out.below bw5)
  have KNw5 := hid (KNw4.out.below bw5)
  have KTw5 := hid (KTw4.out.below bw5)
  have KWw5 := hid (KWw4.out.below bw5)
  have KAw5 := hid (KAw4.out.below bw5)
  have KQw5 := hid (KQw4.out.below bw5)
  clear bw5
  have KBw5 := hid htB
  clear htB
  go_wp2_with (with_reducible show wpList _ _ _ (⟨some 71, _, _, _, _, _⟩ :: _) _ _; refine wpList_load_blk rfl 23 _ rfl (w.heap.size) rfl _ 23 Kiw5.out _ Tryd.underlying23 rfl 32 size_digest hi.size ?_)
  refine (CG _ KWw5.out (Htab.out.below HBw5.out)).mono ?_
  rintro e w6 ⟨vC, rfl, ⟨aC, nC, cC, rfl, htC⟩, bw6⟩
  have HBw6 := hid (Below.on HBw5.out bw6)
  have hsw6 := HBw6.out.size
  have Kiw6 := hid (Kiw5.out.below bw6)
  have Ksw6 := hid (Ksw5.out.below bw6)
  have KNw6 := hid (KNw5.out.below bw6)
  have KTw6 := hid (KTw5.out.below bw6)
  have KWw6 := hid (KWw5.out.below bw6)
  have KAw6 := hid (KAw5.out.below bw6)
  have KQw6 := hid (KQw5.out.below bw6)
  have KBw6 := hid (KBw5.out.below bw6)
  clear bw6
  have KCw6 := hid htC
  obtain rfl : nC = 0 := htC.length.symm
  clear htC
  go_wp2_with fail
  refine (CXR _ KTw6.out KWw6.out).mono ?_
  rintro e w7 ⟨vX, rfl, ⟨aX, nX, cX, rfl, htX⟩, bw7⟩
  have HBw7 := hid (Below.on HBw6.out bw7)
  have hsw7 := HBw7.out.size
  have Kiw7 := hid (Kiw6.out.below bw7)
  have Ksw7 := hid (Ksw6.out.below bw7)
  have KNw7 := hid (KNw6.out.below bw7)
  have KTw7 := hid (KTw6.out.below bw7)
  have KWw7 := hid (KWw6.out.below bw7)
  have KAw7 := hid (KAw6.out.below bw7)
  have KQw7 := hid (KQw6.out.below bw7)
  have KBw7 := hid (KBw6.out.below bw7)
  have KCw7 := hid (KCw6.out.below bw7)
  clear bw7
  have KXw7 := hid htX
  obtain rfl : nB = nX := KBw7.out.length.symm.trans htX.length
  clear htX
  go_wp2_with fail
  refine (refsameT_any aB aX nB cB cX B _ KBw7.out KXw7.out).mono ?_
  rintro e w8 ⟨rfl, bw8⟩
  have HBw8 := hid (Below.on HBw7.out bw8)
  have hsw8 := HBw8.out.size
  have Kiw8 := hid (Kiw7.out.below bw8)
  have Ksw8 := hid (Ksw7.out.below bw8)
  have KNw8 := hid (KNw7.out.below bw8)
  have KTw8 := hid (KTw7.out.below bw8)
  have KWw8 := hid (KWw7.out.below bw8)
  have KAw8 := hid (KAw7.out.below bw8)
  have KQw8 := hid (KQw7.out.below bw8)
  have KBw8 := hid (KBw7.out.below bw8)
  have KCw8 := hid (KCw7.out.below bw8)
  have KXw8 := hid (KXw7.out.below bw8)
  clear bw8
  go_wp2_with fail
  refine (knows23 _ (Htab.out.below HBw8.out)).mono ?_
  rintro e w9 ⟨rfl, bw9⟩
  have HBw9 := hid (Below.on HBw8.out bw9)
  have hsw9 := HBw9.out.size
  have Kiw9 := hid (Kiw8.out.below bw9)
  have Ksw9 := hid (Ksw8.out.below bw9)
  have KNw9 := hid (KNw8.out.below bw9)
  have KTw9 := hid (KTw8.out.below bw9)
  have KWw9 := hid (KWw8.out.below bw9)
  have KAw9 := hid (KAw8.out.below bw9)
  have KQw9 := hid (KQw8.out.below bw9)
  have KBw9 := hid (KBw8.out.below bw9)
  have KCw9 := hid (KCw8.out.below bw9)
  have KXw9 := hid (KXw8.out.below bw9)
  clear bw9
  go_wp2_with fail
  go_returns
  exact ⟨by first | rfl | simp, HBw9.out⟩
set_option maxHeartbeats 4000000 in
theorem extrails_w_neyy (i c d t : List Int) (p : Bool) (na ta ya : Option Addr) (nn nc tn tc yn yc : Nat) (m n : Int) (ns ds : List (List Int)) (A B C : List (List Int)) (w : World) (hi : Dg i) (hc : Dg c) (hd : Dg d) (hN : DigsAt w na nn nc ns) (hT : TextAt w ta tn tc t) (hW : DigsAt w ya yn yc ds) (tab : ShaTab w) (hb1 : nn ≤ 300) (hb2 : tn ≤ 1000) (hb3 : yn ≤ 40) (q1 : ¬ n < 1) (q2 : ¬ 200 < n) (q3 : ¬ m < 0) (q4 : ¬ n < m) (he : ¬ m = n) (hz : ¬ m = 0)
    (CT : ∀ W : World, DigsAt W na nn nc ns → ShaTab W → Calls Tryd.prog 10 #[.agg (i.map (Value.int .u8)).toArray, .agg (sideC p c d (.slice na nn nc)).toArray] W fun e w' => ∃ v, e = .returned v ∧ TextsV A v w' ∧ Below W.heap.size W w')
    (CW : ∀ W : World, Calls Tryd.prog 11 #[.agg (d.map (Value.int .u8)).toArray, .slice na nn nc] W fun e w' => e = .returned (.bool true) ∧ Below W.heap.size W w')
    (CR : ∀ W : World, DigsAt W na nn nc ns → Calls Tryd.prog 13 #[.agg (i.map (Value.int .u8)).toArray, .bool p, .agg (c.map (Value.int .u8)).toArray, .agg (d.map (Value.int .u8)).toArray, .slice na nn nc] W fun e w' => ∃ v, e = .returned v ∧ TextsV A v w' ∧ Below W.heap.size W w')
    (CX : ∀ W : World, TextAt W ta tn tc t → DigsAt W ya yn yc ds → ShaTab W → Calls Tryd.prog 14 #[.int .i64 n, .int .i64 m, .slice ta tn tc, .slice ya yn yc] W fun e w' => ∃ v, e = .returned v ∧ TextsV B v w' ∧ Below W.heap.size W w')
    (CG : ∀ W : World, DigsAt W ya yn yc ds → ShaTab W → Calls Tryd.prog 15 #[.agg (i.map (Value.int .u8)).toArray, .int .i64 m, .int .i64 n, .slice ya yn yc] W fun e w' => ∃ v, e = .returned v ∧ TextsV C v w' ∧ Below W.heap.size W w')
    (CXR : ∀ W : World, TextAt W ta tn tc t → DigsAt W ya yn yc ds → Calls Tryd.prog 16 #[.int .i64 n, .int .i64 m, .slice ta tn tc, .slice ya yn yc] W fun e w' => ∃ v, e = .returned (.tuple #[v, .bool true]) ∧ TextsV B v w' ∧ Below W.heap.size W w')
    (CGR : ∀ W : World, DigsAt W ya yn yc ds → Calls Tryd.prog 17 #[.agg (i.map (Value.int .u8)).toArray, .int .i64 m, .int .i64 n, .bool false, .slice ya yn yc] W fun e w' => ∃ (v : Value) (X : List Int), e = .returned (.tuple #[v, .agg (X.map (Value.int .u8)).toArray, .bool true]) ∧ Dg X ∧ TextsV C v w' ∧ Below W.heap.size W w') :
    Calls Tryd.prog 3 #[.agg (i.map (Value.int .u8)).toArray, .agg (sideC p c d (.slice na nn nc)).toArray, .int .i64 m, .int .i64 n, .slice ta tn tc, .slice ya yn yc] w fun e' w' => e' = .returned (.bool true) ∧ Below w.heap.size w w' := by
  have b1 := (Below.refl w.heap.size w).alloc (Nat.le_refl _) (.cells (i.map (Value.int .u8)).toArray 23 (0, 0))
  have b2 := b1.alloc b1.size (.cells (sideC p c d (.slice na nn nc)).toArray 28 (0, 0))
  have Ki := hid ((Blk.new (w := w) (n := w.heap.size) rfl (i.map (Value.int .u8)).toArray 23).old (.cells (sideC p c d (.slice na nn nc)).toArray 28 (0, 0)))
  have Ks := hid (Blk.new (w := (w.alloc (.cells (i.map (Value.int .u8)).toArray 23 (0, 0)))) (n := w.heap.size + 1) (by simp only [World.size_alloc]) (sideC p c d (.slice na nn nc)).toArray 28)
  have Hb := hid b2
  have hbz := b2.size
  have Hbs := hid (show w.heap.size + 1 + 1 = ((w.alloc (.cells (i.map (Value.int .u8)).toArray 23 (0, 0))).alloc (.cells (sideC p c d (.slice na nn nc)).toArray 28 (0, 0))).heap.size by simp only [World.size_alloc])
  have Htab := hid tab
  clear b1 b2 tab 
  have KN := hid (hN.below Hb.out)
  have KT := hid (hT.below Hb.out)
  have KW := hid (hW.below Hb.out)
  clear hN hT hW
  have hca : ¬ (300 : Int) < (nn : Int) := by omega
  have hcb : ¬ (1000 : Int) < (tn : Int) := by omega
  have hcc : ¬ (40 : Int) < (yn : Int) := by omega
  have qe : (m == n) = false := by simp [he]
  have qz : (m == 0) = false := by simp [hz]
  clear he hz
  have cna : ((w.alloc (.cells (i.map (Value.int .u8)).toArray 23 (0, 0))).alloc (.cells (sideC p c d (.slice na nn nc)).toArray 28 (0, 0))).cell? ⟨w.heap.size + 1, 33 + 32, none⟩ = some (.slice na nn nc) := sideC_nodes' hc hd Ks.out
  go_enter Tryd.func3, Tryd.ntmps3
  go_wp2_with (first
     | (with_reducible show wpList _ _ _ (⟨some 37, _, _, _, _, _⟩ :: _) _ _; refine wpList_load_blk rfl 23 _ rfl (w.heap.size) rfl _ 23 Ki.out _ Tryd.underlying23 rfl 32 size_digest hi.size ?_)
     | (with_reducible show wpList _ _ _ (⟨some 38, _, _, _, _, _⟩ :: _) _ _; refine wpList_load_blk rfl 28 _ rfl (w.heap.size + 1) rfl _ 28 Ks.out _ Tryd.underlying28 rfl 66 size_side (sideC_size hc hd) ?_))
  clear cna
  refine (CT _ KN.out (Htab.out.below Hb.out)).mono ?_
  rintro e w1 ⟨vA, rfl, ⟨aA, nA, cA, rfl, htA⟩, bw1⟩
  have HBw1 := hid (Below.on Hb.out bw1)
  have hsw1 := HBw1.out.size
  have Kiw1 := hid (Ki.out.below bw1)
  have Ksw1 := hid (Ks.out.below bw1)
  have KNw1 := hid (KN.out.below bw1)
  have KTw1 := hid (KT.out.below bw1)
  have KWw1 := hid (KW.out.below bw1)
  clear bw1
  have KAw1 := hid htA
  clear htA
  have cna : w1.cell? ⟨w.heap.size + 1, 33 + 32, none⟩ = some (.slice na nn nc) := sideC_nodes' hc hd Ksw1.out
  go_wp2_with (with_reducible show wpList _ _ _ (⟨some 42, _, _, _, _, _⟩ :: _) _ _; refine wpList_load_mid rfl 23 _ rfl (w.heap.size + 1) 33 rfl _ _ (sideC_known hc Ksw1.out) Tryd.underlying23 rfl (by rw [List.length_map, hd.len]; exact size_digest) ?_)
  clear cna
  refine (CW _).mono ?_
  rintro e w2 ⟨rfl, bw2⟩
  have HBw2 := hid (Below.on HBw1.out bw2)
  have hsw2 := HBw2.out.size
  have Kiw2 := hid (Kiw1.out.below bw2)
  have Ksw2 := hid (Ksw1.out.below bw2)
  have KNw2 := hid (KNw1.out.below bw2)
  have KTw2 := hid (KTw1.out.below bw2)
  have KWw2 := hid (KWw1.out.below bw2)
  have KAw2 := hid (KAw1.out.below bw2)
  clear bw2
  have cna : w2.cell? ⟨w.heap.size + 1, 33 + 32, none⟩ = some (.slice na nn nc) := sideC_nodes' hc hd Ksw2.out
  have cp : w2.cell? ⟨w.heap.size + 1, 0, none⟩ = some (.bool p) := by rw [Ksw2.out.cell]; rfl
  go_wp2_with (first
     | (with_reducible show wpList _ _ _ (⟨some 52, _, _, _, _, _⟩ :: _) _ _; refine wpList_load_blk rfl 23 _ rfl (w.heap.size) rfl _ 23 Kiw2.out _ Tryd.underlying23 rfl 32 size_digest hi.size ?_)
     | (with_reducible show wpList _ _ _ (⟨some 56, _, _, _, _, _⟩ :: _) _ _; refine wpList_load_mid rfl 23 _ rfl (w.heap.size + 1) 1 rfl _ _ (sideC_com Ksw2.out) Tryd.underlying23 rfl (by rw [List.length_map, hc.len]; exact size_digest) ?_)
     | (with_reducible show wpList _ _ _ (⟨some 59, _, _, _, _, _⟩ :: _) _ _; refine wpList_load_mid rfl 23 _ rfl (w.heap.size + 1) 33 rfl _ _ (sideC_known hc Ksw2.out) Tryd.underlying23 rfl (by rw [List.length_map, hd.len]; exact size_digest) ?_))
  clear cna cp
  refine (CR _ KNw2.out).mono ?_
  rintro e w3 ⟨vQ, rfl, ⟨aQ, nQ, cQ, rfl, htQ⟩, bw3⟩
  have HBw3 := hid (Below.on HBw2.out bw3)
  have hsw3 := HBw3.out.size
  have Kiw3 := hid (Kiw2.out.below bw3)
  have Ksw3 := hid (Ksw2.out.below bw3)
  have KNw3 := hid (KNw2.out.below bw3)
  have KTw3 := hid (KTw2.out.below bw3)
  have KWw3 := hid (KWw2.out.below bw3)
  have KAw3 := hid (KAw2.out.below bw3)
  clear bw3
  have KQw3 := hid htQ
  obtain rfl : nA = nQ := KAw3.out.length.symm.trans htQ.length
  clear htQ
  go_wp2_with fail
  refine (refsameT_any aA aQ nA cA cQ A _ KAw3.out KQw3.out).mono ?_
  rintro e w4 ⟨rfl, bw4⟩
  have HBw4 := hid (Below.on HBw3.out bw4)
  have hsw4 := HBw4.out.size
  have Kiw4 := hid (Kiw3.out.below bw4)
  have Ksw4 := hid (Ksw3.out.below bw4)
  have KNw4 := hid (KNw3.out.below bw4)
  have KTw4 := hid (KTw3.out.below bw4)
  have KWw4 := hid (KWw3.out.below bw4)
  have KAw4 := hid (KAw3.out.below bw4)
  have KQw4 := hid (KQw3.out.below bw4)
  clear bw4
  go_wp2_with fail
  refine (CX _ KTw4.out KWw4.out (Htab.out.below HBw4.out)).mono ?_
  rintro e w5 ⟨vB, rfl, ⟨aB, nB, cB, rfl, htB⟩, bw5⟩
  have HBw5 := hid (Below.on HBw4.out bw5)
  have hsw5 := HBw5.out.size
  have Kiw5 := hid (Kiw4.out.below bw5)
  have Ksw5 := hid (Ksw4.out.below bw5)
  have KNw5 := hid (KNw4.out.below bw5)
  have KTw5 := hid (KTw4.out.below bw5)
  have KWw5 := hid (KWw4.out.below bw5)
  have KAw5 := hid (KAw4.out.below bw5)
  have KQw5 := hid (KQw4.out.below bw5)
  clear bw5
  have KBw5 := hid htB
  clear htB
  go_wp2_with (with_reducible show wpList _ _ _ (⟨some 71, _, _, _, _, _⟩ :: _) _ _; refine wpList_load_blk rfl 23 _ rfl (w.heap.size) rfl _ 23 Kiw5.out _ Tryd.underlying23 rfl 32 size_digest hi.size ?_)
  refine (CG _ KWw5.out (Htab.out.below HBw5.out)).mono ?_
  rintro e w6 ⟨vC, rfl, ⟨aC, nC, cC, rfl, htC⟩, bw6⟩
  have HBw6 := hid (Below.on HBw5.out bw6)
  have hsw6 := HBw6.out.size
  have Kiw6 := hid (Kiw5.out.below bw6)
  have Ksw6 := hid (Ksw5.out.below bw6)
  have KNw6 := hid (KNw5.out.below bw6)
  have KTw6 := hid (KTw5.out.below bw6)
  have KWw6 := hid (KWw5.out.below bw6)
  have KAw6 := hid (KAw5.out.below bw6)
  have KQw6 := hid (KQw5.out.below bw6)
  have KBw6 := hid (KBw5.out.below bw6)
  clear bw6
  have KCw6 := hid htC
  clear htC
  go_wp2_with fail
  refine (CXR _ KTw6.out KWw6.out).mono ?_
  rintro e w7 ⟨vX, rfl, ⟨aX, nX, cX, rfl, htX⟩, bw7⟩
  have HBw7 := hid (Below.on HBw6.out bw7)
  have hsw7 := HBw7.out.size
  have Kiw7 := hid (Kiw6.out.below bw7)
  have Ksw7 := hid (Ksw6.out.below bw7)
  have KNw7 := hid (KNw6.out.below bw7)
  have KTw7 := hid (KTw6.out.below bw7)
  have KWw7 := hid (KWw6.out.below bw7)
  have KAw7 := hid (KAw6.out.below bw7)
  have KQw7 := hid (KQw6.out.below bw7)
  have KBw7 := hid (KBw6.out.below bw7)
  have KCw7 := hid (KCw6.out.below bw7)
  clear bw7
  have KXw7 := hid htX
  obtain rfl : nB = nX := KBw7.out.length.symm.trans htX.length
  clear htX
  go_wp2_with fail
  refine (refsameT_any aB aX nB cB cX B _ KBw7.out KXw7.out).mono ?_
  rintro e w8 ⟨rfl, bw8⟩
  have HBw8 := hid (Below.on HBw7.out bw8)
  have hsw8 := HBw8.out.size
  have Kiw8 := hid (Kiw7.out.below bw8)
  have Ksw8 := hid (Ksw7.out.below bw8)
  have KNw8 := hid (KNw7.out.below bw8)
  have KTw8 := hid (KTw7.out.below bw8)
  have KWw8 := hid (KWw7.out.below bw8)
  have KAw8 := hid (KAw7.out.below bw8)
  have KQw8 := hid (KQw7.out.below bw8)
  have KBw8 := hid (KBw7.out.below bw8)
  have KCw8 := hid (KCw7.out.below bw8)
  have KXw8 := hid (KXw7.out.below bw8)
  clear bw8
  go_wp2_with (with_reducible show wpList _ _ _ (⟨some 141, _, _, _, _, _⟩ :: _) _ _; refine wpList_load_blk rfl 23 _ rfl (w.heap.size) rfl _ 23 Kiw8.out _ Tryd.underlying23 rfl 32 size_digest hi.size ?_)
  refine (CGR _ KWw8.out).mono ?_
  rintro e w9 ⟨vY, X, rfl, hX, ⟨aY, nY, cY, rfl, htY⟩, bw9⟩
  have HBw9 := hid (Below.on HBw8.out bw9)
  have hsw9 := HBw9.out.size
  have Kiw9 := hid (Kiw8.out.below bw9)
  have Ksw9 := hid (Ksw8.out.below bw9)
  have KNw9 := hid (KNw8.out.below bw9)
  have KTw9 := hid (KTw8.out.below bw9)
  have KWw9 := hid (KWw8.out.below bw9)
  have KAw9 := hid (KAw8.out.below bw9)
  have KQw9 := hid (KQw8.out.below bw9)
  have KBw9 := hid (KBw8.out.below bw9)
  have KCw9 := hid (KCw8.out.below bw9)
  have KXw9 := hid (KXw8.out.below bw9)
  clear bw9
  have KYw9 := hid htY
  obtain rfl : nC = nY := KCw9.out.length.symm.trans htY.length
  clear htY
  go_wp2_with (
        refine wpList_store_blk rfl 23 _ _ rfl (w9.heap.size) (X.map (Value.int .u8)).toArray rfl rfl _ 23 (Blk.new rfl (byteCells 32 []) _) 32 size_digest zsize hX.size (ints_one _ _) ?_
        intro w10 hbw10 hkw10
        have hw10 := hbw10.below ((Below.refl w9.heap.size w9).alloc (Nat.le_refl _) _) (by simp only [World.size_alloc]; omega) (Nat.le_refl _)
        have HBw10 := hid (Below.on HBw9.out hw10)
        have hsw10 := HBw10.out.size
        have Kiw10 := hid (Kiw9.out.below hw10)
        have hliw10 := Kiw9.out.lt
        have Ksw10 := hid (Ksw9.out.below hw10)
        have hlsw10 := Ksw9.out.lt
        have KNw10 := hid (KNw9.out.below hw10)
        have KTw10 := hid (KTw9.out.below hw10)
        have KWw10 := hid (KWw9.out.below hw10)
        have KAw10 := hid (KAw9.out.below hw10)
        have KQw10 := hid (KQw9.out.below hw10)
        have KBw10 := hid (KBw9.out.below hw10)
        have KCw10 := hid (KCw9.out.below hw10)
        have KXw10 := hid (KXw9.out.below hw10)
        have KYw10 := hid (KYw9.out.below hw10)
        have Kxw10 := hid hkw10
        have hfw10 : w.heap.size ≤ w9.heap.size := HBw9.out.size
        clear hbw10 hkw10 hw10)
  refine (refsameT_any aC aY nC cC cY C _ KCw10.out KYw10.out).mono ?_
  rintro e w11 ⟨rfl, bw11⟩
  have HBw11 := hid (Below.on HBw10.out bw11)
  have hsw11 := HBw11.out.size
  have Kiw11 := hid (Kiw10.out.below bw11)
  have Ksw11 := hid (Ksw10.out.below bw11)
  have KNw11 := hid (KNw10.out.below bw11)
  have KTw11 := hid (KTw10.out.below bw11)
  have KWw11 := hid (KWw10.out.below bw11)
  have KAw11 := hid (KAw10.out.below bw11)
  have KQw11 := hid (KQw10.out.below bw11)
  have KBw11 := hid (KBw10.out.below bw11)
  have KCw11 := hid (KCw10.out.below bw11)
  have KXw11 := hid (KXw10.out.below bw11)
  have KYw11 := hid (KYw10.out.below bw11)
  have Kxw11 := hid (Kxw10.out.below bw11)
  clear bw11
  go_wp2_with fail
  refine (knows23 _ (Htab.out.below HBw11.out)).mono ?_
  rintro e w12 ⟨rfl, bw12⟩
  have HBw12 := hid (Below.on HBw11.out bw12)
  have hsw12 := HBw12.out.size
  have Kiw12 := hid (Kiw11.out.below bw12)
  have Ksw12 := hid (Ksw11.out.below bw12)
  have KNw12 := hid (KNw11.out.below bw12)
  have KTw12 := hid (KTw11.out.below bw12)
  have KWw12 := hid (KWw11.out.below bw12)
  have KAw12 := hid (KAw11.out.below bw12)
  have KQw12 := hid (KQw11.out.below bw12)
  have KBw12 := hid (KBw11.out.below bw12)
  have KCw12 := hid (KCw11.out.below bw12)
  have KXw12 := hid (KXw11.out.below bw12)
  have KYw12 := hid (KYw11.out.below bw12)
  have Kxw12 := hid (Kxw11.out.below bw12)
  clear bw12
  go_wp2_with fail
  go_returns
  exact ⟨by first | rfl | simp, HBw12.out⟩
set_option maxHeartbeats 4000000 in
theorem extrails_w_neyn (i c d t : List Int) (p : Bool) (na ta ya : Option Addr) (nn nc tn tc yn yc : Nat) (m n : Int) (ns ds : List (List Int)) (A B : List (List Int)) (w : World) (hi : Dg i) (hc : Dg c) (hd : Dg d) (hN : DigsAt w na nn nc ns) (hT : TextAt w ta tn tc t) (hW : DigsAt w ya yn yc ds) (tab : ShaTab w) (hb1 : nn ≤ 300) (hb2 : tn ≤ 1000) (hb3 : yn ≤ 40) (q1 : ¬ n < 1) (q2 : ¬ 200 < n) (q3 : ¬ m < 0) (q4 : ¬ n < m) (he : ¬ m = n) (hz : ¬ m = 0)
    (CT : ∀ W : World, DigsAt W na nn nc ns → ShaTab W → Calls Tryd.prog 10 #[.agg (i.map (Value.int .u8)).toArray, .agg (sideC p c d (.slice na nn nc)).toArray] W fun e w' => ∃ v, e = .returned v ∧ TextsV A v w' ∧ Below W.heap.size W w')
    (CW : ∀ W : World, Calls Tryd.prog 11 #[.agg (d.map (Value.int .u8)).toArray, .slice na nn nc] W fun e w' => e = .returned (.bool true) ∧ Below W.heap.size W w')
    (CR : ∀ W : World, DigsAt W na nn nc ns → Calls Tryd.prog 13 #[.agg (i.map (Value.int .u8)).toArray, .bool p, .agg (c.map (Value.int .u8)).toArray, .agg (d.map (Value.int .u8)).toArray, .slice na nn nc] W fun e w' => ∃ v, e = .returned v ∧ TextsV A v w' ∧ Below W.heap.size W w')
    (CX : ∀ W : World, TextAt W ta tn tc t → DigsAt W ya yn yc ds → ShaTab W → Calls Tryd.prog 14 #[.int .i64 n, .int .i64 m, .slice ta tn tc, .slice ya yn yc] W fun e w' => ∃ v, e = .returned v ∧ TextsV B v w' ∧ Below W.heap.size W w')
    (CG : ∀ W : World, DigsAt W ya yn yc ds → ShaTab W → Calls Tryd.prog 15 #[.agg (i.map (Value.int .u8)).toArray, .int .i64 m, .int .i64 n, .slice ya yn yc] W fun e w' => ∃ v, e = .returned v ∧ TextsV [] v w' ∧ Below W.heap.size W w')
    (CXR : ∀ W : World, TextAt W ta tn tc t → DigsAt W ya yn yc ds → Calls Tryd.prog 16 #[.int .i64 n, .int .i64 m, .slice ta tn tc, .slice ya yn yc] W fun e w' => ∃ v, e = .returned (.tuple #[v, .bool true]) ∧ TextsV B v w' ∧ Below W.heap.size W w')
    (CGR : ∀ W : World, DigsAt W ya yn yc ds → Calls Tryd.prog 17 #[.agg (i.map (Value.int .u8)).toArray, .int .i64 m, .int .i64 n, .bool false, .slice ya yn yc] W fun e w' => ∃ (v : Value) (X : List Int), e = .returned (.tuple #[v, .agg (X.map (Value.int .u8)).toArray, .bool false]) ∧ Dg X ∧ Below W.heap.size W w') :
    Calls Tryd.prog 3 #[.agg (i.map (Value.int .u8)).toArray, .agg (sideC p c d (.slice na nn nc)).toArray, .int .i64 m, .int .i64 n, .slice ta tn tc, .slice ya yn yc] w fun e' w' => e' = .returned (.bool true) ∧ Below w.heap.size w w' := by
  have b1 := (Below.refl w.heap.size w).alloc (Nat.le_refl _) (.cells (i.map (Value.int .u8)).toArray 23 (0, 0))
  have b2 := b1.alloc b1.size (.cells (sideC p c d (.slice na nn nc)).toArray 28 (0, 0))
  have Ki := hid ((Blk.new (w := w) (n := w.heap.size) rfl (i.map (Value.int .u8)).toArray 23).old (.cells (sideC p c d (.slice na nn nc)).toArray 28 (0, 0)))
  have Ks := hid (Blk.new (w := (w.alloc (.cells (i.map (Value.int .u8)).toArray 23 (0, 0)))) (n := w.heap.size + 1) (by simp only [World.size_alloc]) (sideC p c d (.slice na nn nc)).toArray 28)
  have Hb := hid b2
  have hbz := b2.size
  have Hbs := hid (show w.heap.size + 1 + 1 = ((w.alloc (.cells (i.map (Value.int .u8)).toArray 23 (0, 0))).alloc (.cells (sideC p c d (.slice na nn nc)).toArray 28 (0, 0))).heap.size by simp only [World.size_alloc])
  have Htab := hid tab
  clear b1 b2 tab 
  have KN := hid (hN.below Hb.out)
  have KT := hid (hT.below Hb.out)
  have KW := hid (hW.below Hb.out)
  clear hN hT hW
  have hca : ¬ (300 : Int) < (nn : Int) := by omega
  have hcb : ¬ (1000 : Int) < (tn : Int) := by omega
  have hcc : ¬ (40 : Int) < (yn : Int) := by omega
  have qe : (m == n) = false := by simp [he]
  have qz : (m == 0) = false := by simp [hz]
  clear he hz
  have cna : ((w.alloc (.cells (i.map (Value.int .u8)).toArray 23 (0, 0))).alloc (.cells (sideC p c d (.slice na nn nc)).toArray 28 (0, 0))).cell? ⟨w.heap.size + 1, 33 + 32, none⟩ = some (.slice na nn nc) := sideC_nodes' hc hd Ks.out
  go_enter Tryd.func3, Tryd.ntmps3
  go_wp2_with (first
     | (with_reducible show wpList _ _ _ (⟨some 37, _, _, _, _, _⟩ :: _) _ _; refine wpList_load_blk rfl 23 _ rfl (w.heap.size) rfl _ 23 Ki.out _ Tryd.underlying23 rfl 32 size_digest hi.size ?_)
     | (with_reducible show wpList _ _ _ (⟨some 38, _, _, _, _, _⟩ :: _) _ _; refine wpList_load_blk rfl 28 _ rfl (w.heap.size + 1) rfl _ 28 Ks.out _ Tryd.underlying28 rfl 66 size_side (sideC_size hc hd) ?_))
  clear cna
  refine (CT _ KN.out (Htab.out.below Hb.out)).mono ?_
  rintro e w1 ⟨vA, rfl, ⟨aA, nA, cA, rfl, htA⟩, bw1⟩
  have HBw1 := hid (Below.on Hb.out bw1)
  have hsw1 := HBw1.out.size
  have Kiw1 := hid (Ki.out.below bw1)
  have Ksw1 := hid (Ks.out.below bw1)
  have KNw1 := hid (KN.out.below bw1)
  have KTw1 := hid (KT.out.below bw1)
  have KWw1 := hid (KW.out.below bw1)
  clear bw1
  have KAw1 := hid htA
  clear htA
  have cna : w1.cell? ⟨w.heap.size + 1, 33 + 32, none⟩ = some (.slice na nn nc) := sideC_nodes' hc hd Ksw1.out
  go_wp2_with (with_reducible show wpList _ _ _ (⟨some 42, _, _, _, _, _⟩ :: _) _ _; refine wpList_load_mid rfl 23 _ rfl (w.heap.size + 1) 33 rfl _ _ (sideC_known hc Ksw1.out) Tryd.underlying23 rfl (by rw [List.length_map, hd.len]; exact size_digest) ?_)
  clear cna
  refine (CW _).mono ?_
  rintro e w2 ⟨rfl, bw2⟩
  have HBw2 := hid (Below.on HBw1.out bw2)
  have hsw2 := HBw2.out.size
  have Kiw2 := hid (Kiw1.out.below bw2)
  have Ksw2 := hid (Ksw1.out.below bw2)
  have KNw2 := hid (KNw1.out.below bw2)
  have KTw2 := hid (KTw1.out.below bw2)
  have KWw2 := hid (KWw1.out.below bw2)
  have KAw2 := hid (KAw1.out.below bw2)
  clear bw2
  have cna : w2.cell? ⟨w.heap.size + 1, 33 + 32, none⟩ = some (.slice na nn nc) := sideC_nodes' hc hd Ksw2.out
  have cp : w2.cell? ⟨w.heap.size + 1, 0, none⟩ = some (.bool p) := by rw [Ksw2.out.cell]; rfl
  go_wp2_with (first
     | (with_reducible show wpList _ _ _ (⟨some 52, _, _, _, _, _⟩ :: _) _ _; refine wpList_load_blk rfl 23 _ rfl (w.heap.size) rfl _ 23 Kiw2.out _ Tryd.underlying23 rfl 32 size_digest hi.size ?_)
     | (with_reducible show wpList _ _ _ (⟨some 56, _, _, _, _, _⟩ :: _) _ _; refine wpList_load_mid rfl 23 _ rfl (w.heap.size + 1) 1 rfl _ _ (sideC_com Ksw2.out) Tryd.underlying23 rfl (by rw [List.length_map, hc.len]; exact size_digest) ?_)
     | (with_reducible show wpList _ _ _ (⟨some 59, _, _, _, _, _⟩ :: _) _ _; refine wpList_load_mid rfl 23 _ rfl (w.heap.size + 1) 33 rfl _ _ (sideC_known hc Ksw2.out) Tryd.underlying23 rfl (by rw [List.length_map, hd.len]; exact size_digest) ?_))
  clear cna cp
  refine (CR _ KNw2.out).mono ?_
  rintro e w3 ⟨vQ, rfl, ⟨aQ, nQ, cQ, rfl, htQ⟩, bw3⟩
  have HBw3 := hid (Below.on HBw2.out bw3)
  have hsw3 := HBw3.out.size
  have Kiw3 := hid (Kiw2.out.below bw3)
  have Ksw3 := hid (Ksw2.out.below bw3)
  have KNw3 := hid (KNw2.out.below bw3)
  have KTw3 := hid (KTw2.out.below bw3)
  have KWw3 := hid (KWw2.out.below bw3)
  have KAw3 := hid (KAw2.out.below bw3)
  clear bw3
  have KQw3 := hid htQ
  obtain rfl : nA = nQ := KAw3.out.length.symm.trans htQ.length
  clear htQ
  go_wp2_with fail
  refine (refsameT_any aA aQ nA cA cQ A _ KAw3.out KQw3.out).mono ?_
  rintro e w4 ⟨rfl, bw4⟩
  have HBw4 := hid (Below.on HBw3.out bw4)
  have hsw4 := HBw4.out.size
  have Kiw4 := hid (Kiw3.out.below bw4)
  have Ksw4 := hid (Ksw3.out.below bw4)
  have KNw4 := hid (KNw3.out.below bw4)
  have KTw4 := hid (KTw3.out.below bw4)
  have KWw4 := hid (KWw3.out.below bw4)
  have KAw4 := hid (KAw3.out.below bw4)
  have KQw4 := hid (KQw3.out.below bw4)
  clear bw4
  go_wp2_with fail
  refine (CX _ KTw4.out KWw4.out (Htab.out.below HBw4.out)).mono ?_
  rintro e w5 ⟨vB, rfl, ⟨aB, nB, cB, rfl, htB⟩, bw5⟩
  have HBw5 := hid (Below.on HBw4.out bw5)
  have hsw5 := HBw5.out.size
  have Kiw5 := hid (Kiw4.out.below bw5)
  have Ksw5 := hid (Ksw4.out.below bw5)
  have KNw5 := hid (KNw4.out.below bw5)
  have KTw5 := hid (KTw4.out.below bw5)
  have KWw5 := hid (KWw4.out.below bw5)
  have KAw5 := hid (KAw4.out.below bw5)
  have KQw5 := hid (KQw4.out.below bw5)
  clear bw5
  have KBw5 := hid htB
  clear htB
  go_wp2_with (with_reducible show wpList _ _ _ (⟨some 71, _, _, _, _, _⟩ :: _) _ _; refine wpList_load_blk rfl 23 _ rfl (w.heap.size) rfl _ 23 Kiw5.out _ Tryd.underlying23 rfl 32 size_digest hi.size ?_)
  refine (CG _ KWw5.out (Htab.out.below HBw5.out)).mono ?_
  rintro e w6 ⟨vC, rfl, ⟨aC, nC, cC, rfl, htC⟩, bw6⟩
  have HBw6 := hid (Below.on HBw5.out bw6)
  have hsw6 := HBw6.out.size
  have Kiw6 := hid (Kiw5.out.below bw6)
  have Ksw6 := hid (Ksw5.out.below bw6)
  have KNw6 := hid (KNw5.out.below bw6)
  have KTw6 := hid (KTw5.out.below bw6)
  have KWw6 := hid (KWw5.out.below bw6)
  have KAw6 := hid (KAw5.out.below bw6)
  have KQw6 := hid (KQw5.out.below bw6)
  have KBw6 := hid (KBw5.out.below bw6)
  clear bw6
  have KCw6 := hid htC
  obtain rfl : nC = 0 := htC.length.symm
  clear htC
  go_wp2_with fail
  refine (CXR _ KTw6.out KWw6.out).mono ?_
  rintro e w7 ⟨vX, rfl, ⟨aX, nX, cX, rfl, htX⟩, bw7⟩
  have HBw7 := hid (Below.on HBw6.out bw7)
  have hsw7 := HBw7.out.size
  have Kiw7 := hid (Kiw6.out.below bw7)
  have Ksw7 := hid (Ksw6.out.below bw7)
  have KNw7 := hid (KNw6.out.below bw7)
  have KTw7 := hid (KTw6.out.below bw7)
  have KWw7 := hid (KWw6.out.below bw7)
  have KAw7 := hid (KAw6.out.below bw7)
  have KQw7 := hid (KQw6.out.below bw7)
  have KBw7 := hid (KBw6.out.below bw7)
  have KCw7 := hid (KCw6.out.below bw7)
  clear bw7
  have KXw7 := hid htX
  obtain rfl : nB = nX := KBw7.out.length.symm.trans htX.length
  clear htX
  go_wp2_with fail
  refine (refsameT_any aB aX nB cB cX B _ KBw7.out KXw7.out).mono ?_
  rintro e w8 ⟨rfl, bw8⟩
  have HBw8 := hid (Below.on HBw7.out bw8)
  have hsw8 := HBw8.out.size
  have Kiw8 := hid (Kiw7.out.below bw8)
  have Ksw8 := hid (Ksw7.out.below bw8)
  have KNw8 := hid (KNw7.out.below bw8)
  have KTw8 := hid (KTw7.out.below bw8)
  have KWw8 := hid (KWw7.out.below bw8)
  have KAw8 := hid (KAw7.out.below bw8)
  have KQw8 := hid (KQw7.out.below bw8)
  have KBw8 := hid (KBw7.out.below bw8)
  have KCw8 := hid (KCw7.out.below bw8)
  have KXw8 := hid (KXw7.out.below bw8)
  clear bw8
  go_wp2_with (with_reducible show wpList _ _ _ (⟨some 141, _, _, _, _, _⟩ :: _) _ _; refine wpList_load_blk rfl 23 _ rfl (w.heap.size) rfl _ 23 Kiw8.out _ Tryd.underlying23 rfl 32 size_digest hi.size ?_)
  refine (CGR _ KWw8.out).mono ?_
  rintro e w9 ⟨vY, X, rfl, hX, bw9⟩
  have HBw9 := hid (Below.on HBw8.out bw9)
  have hsw9 := HBw9.out.size
  have Kiw9 := hid (Kiw8.out.below bw9)
  have Ksw9 := hid (Ksw8.out.below bw9)
  have KNw9 := hid (KNw8.out.below bw9)
  have KTw9 := hid (KTw8.out.below bw9)
  have KWw9 := hid (KWw8.out.below bw9)
  have KAw9 := hid (KAw8.out.below bw9)
  have KQw9 := hid (KQw8.out.below bw9)
  have KBw9 := hid (KBw8.out.below bw9)
  have KCw9 := hid (KCw8.out.below bw9)
  have KXw9 := hid (KXw8.out.below bw9)
  clear bw9
  go_wp2_with (
        refine wpList_store_blk rfl 23 _ _ rfl (w9.heap.size) (X.map (Value.int .u8)).toArray rfl rfl _ 23 (Blk.new rfl (byteCells 32 []) _) 32 size_digest zsize hX.size (ints_one _ _) ?_
        intro w10 hbw10 hkw10
        have hw10 := hbw10.below ((Below.refl w9.heap.size w9).alloc (Nat.le_refl _) _) (by simp only [World.size_alloc]; omega) (Nat.le_refl _)
        have HBw10 := hid (Below.on HBw9.out hw10)
        have hsw10 := HBw10.out.size
        have Kiw10 := hid (Kiw9.out.below hw10)
        have hliw10 := Kiw9.out.lt
        have Ksw10 := hid (Ksw9.out.below hw10)
        have hlsw10 := Ksw9.out.lt
        have KNw10 := hid (KNw9.out.below hw10)
        have KTw10 := hid (KTw9.out.below hw10)
        have KWw10 := hid (KWw9.out.below hw10)
        have KAw10 := hid (KAw9.out.below hw10)
        have KQw10 := hid (KQw9.out.below hw10)
        have KBw10 := hid (KBw9.out.below hw10)
        have KCw10 := hid (KCw9.out.below hw10)
        have KXw10 := hid (KXw9.out.below hw10)
        have Kxw10 := hid hkw10
        have hfw10 : w.heap.size ≤ w9.heap.size := HBw9.out.size
        clear hbw10 hkw10 hw10)
  refine (knows23 _ (Htab.out.below HBw10.out)).mono ?_
  rintro e w11 ⟨rfl, bw11⟩
  have HBw11 := hid (Below.on HBw10.out bw11)
  have hsw11 := HBw11.out.size
  have Kiw11 := hid (Kiw10.out.below bw11)
  have Ksw11 := hid (Ksw10.out.below bw11)
  have KNw11 := hid (KNw10.out.below bw11)
  have KTw11 := hid (KTw10.out.below bw11)
  have KWw11 := hid (KWw10.out.below bw11)
  have KAw11 := hid (KAw10.out.below bw11)
  have KQw11 := hid (KQw10.out.below bw11)
  have KBw11 := hid (KBw10.out.below bw11)
  have KCw11 := hid (KCw10.out.below bw11)
  have KXw11 := hid (KXw10.out.below bw11)
  have Kxw11 := hid (Kxw10.out.below bw11)
  clear bw11
  go_wp2_with fail
  go_returns
  exact ⟨by first | rfl | simp, HBw11.out⟩
set_option maxHeartbeats 4000000 in
theorem extrails_w_nenz (i c d t : List Int) (p : Bool) (na ta ya : Option Addr) (nn nc tn tc yn yc : Nat) (m n : Int) (ns ds : List (List Int)) (A : List (List Int)) (w : World) (hi : Dg i) (hc : Dg c) (hd : Dg d) (hN : DigsAt w na nn nc ns) (hT : TextAt w ta tn tc t) (hW : DigsAt w ya yn yc ds) (tab : ShaTab w) (hb1 : nn ≤ 300) (hb2 : tn ≤ 1000) (hb3 : yn ≤ 40) (q1 : ¬ n < 1) (q2 : ¬ 200 < n) (q3 : ¬ m < 0) (q4 : ¬ n < m) (he : ¬ m = n) (hz : m = 0)
    (CT : ∀ W : World, DigsAt W na nn nc ns → ShaTab W → Calls Tryd.prog 10 #[.agg (i.map (Value.int .u8)).toArray, .agg (sideC p c d (.slice na nn nc)).toArray] W fun e w' => ∃ v, e = .returned v ∧ TextsV A v w' ∧ Below W.heap.size W w')
    (CW : ∀ W : World, Calls Tryd.prog 11 #[.agg (d.map (Value.int .u8)).toArray, .slice na nn nc] W fun e w' => e = .returned (.bool true) ∧ Below W.heap.size W w')
    (CR : ∀ W : World, DigsAt W na nn nc ns → Calls Tryd.prog 13 #[.agg (i.map (Value.int .u8)).toArray, .bool p, .agg (c.map (Value.int .u8)).toArray, .agg (d.map (Value.int .u8)).toArray, .slice na nn nc] W fun e w' => ∃ v, e = .returned v ∧ TextsV A v w' ∧ Below W.heap.size W w')
    (CX : ∀ W : World, TextAt W ta tn tc t → DigsAt W ya yn yc ds → ShaTab W → Calls Tryd.prog 14 #[.int .i64 n, .int .i64 m, .slice ta tn tc, .slice ya yn yc] W fun e w' => ∃ v, e = .returned v ∧ TextsV [] v w' ∧ Below W.heap.size W w')
    (CG : ∀ W : World, DigsAt W ya yn yc ds → ShaTab W → Calls Tryd.prog 15 #[.agg (i.map (Value.int .u8)).toArray, .int .i64 m, .int .i64 n, .slice ya yn yc] W fun e w' => ∃ v, e = .returned v ∧ TextsV [] v w' ∧ Below W.heap.size W w')
    (CXR : ∀ W : World, TextAt W ta tn tc t → DigsAt W ya yn yc ds → Calls Tryd.prog 16 #[.int .i64 n, .int .i64 m, .slice ta tn tc, .slice ya yn yc] W fun e w' => ∃ v, e = .returned (.tuple #[v, .bool false]) ∧ Below W.heap.size W w') :
    Calls Tryd.prog 3 #[.agg (i.map (Value.int .u8)).toArray, .agg (sideC p c d (.slice na nn nc)).toArray, .int .i64 m, .int .i64 n, .slice ta tn tc, .slice ya yn yc] w fun e' w' => e' = .returned (.bool true) ∧ Below w.heap.size w w' := by
  have b1 := (Below.refl w.heap.size w).alloc (Nat.le_refl _) (.cells (i.map (Value.int .u8)).toArray 23 (0, 0))
  have b2 := b1.alloc b1.size (.cells (sideC p c d (.slice na nn nc)).toArray 28 (0, 0))
  have Ki := hid ((Blk.new (w := w) (n := w.heap.size) rfl (i.map (Value.int .u8)).toArray 23).old (.cells (sideC p c d (.slice na nn nc)).toArray 28 (0, 0)))
  have Ks := hid (Blk.new (w := (w.alloc (.cells (i.map (Value.int .u8)).toArray 23 (0, 0)))) (n := w.heap.size + 1) (by simp only [World.size_alloc]) (sideC p c d (.slice na nn nc)).toArray 28)
  have Hb := hid b2
  have hbz := b2.size
  have Hbs := hid (show w.heap.size + 1 + 1 = ((w.alloc (.cells (i.map (Value.int .u8)).toArray 23 (0, 0))).alloc (.cells (sideC p c d (.slice na nn nc)).toArray 28 (0, 0))).heap.size by simp only [World.size_alloc])
  have Htab := hid tab
  clear b1 b2 tab 
  have KN := hid (hN.below Hb.out)
  have KT := hid (hT.below Hb.out)
  have KW := hid (hW.below Hb.out)
  clear hN hT hW
  have hca : ¬ (300 : Int) < (nn : Int) := by omega
  have hcb : ¬ (1000 : Int) < (tn : Int) := by omega
  have hcc : ¬ (40 : Int) < (yn : Int) := by omega
  have qe : (m == n) = false := by simp [he]
  have qz : (m == 0) = true := by simp [hz]
  clear he hz
  have cna : ((w.alloc (.cells (i.map (Value.int .u8)).toArray 23 (0, 0))).alloc (.cells (sideC p c d (.slice na nn nc)).toArray 28 (0, 0))).cell? ⟨w.heap.size + 1, 33 + 32, none⟩ = some (.slice na nn nc) := sideC_nodes' hc hd Ks.out
  go_enter Tryd.func3, Tryd.ntmps3
  go_wp2_with (first
     | (with_reducible show wpList _ _ _ (⟨some 37, _, _, _, _, _⟩ :: _) _ _; refine wpList_load_blk rfl 23 _ rfl (w.heap.size) rfl _ 23 Ki.out _ Tryd.underlying23 rfl 32 size_digest hi.size ?_)
     | (with_reducible show wpList _ _ _ (⟨some 38, _, _, _, _, _⟩ :: _) _ _; refine wpList_load_blk rfl 28 _ rfl (w.heap.size + 1) rfl _ 28 Ks.out _ Tryd.underlying28 rfl 66 size_side (sideC_size hc hd) ?_))
  clear cna
  refine (CT _ KN.out (Htab.out.below Hb.out)).mono ?_
  rintro e w1 ⟨vA, rfl, ⟨aA, nA, cA, rfl, htA⟩, bw1⟩
  have HBw1 := hid (Below.on Hb.out bw1)
  have hsw1 := HBw1.out.size
  have Kiw1 := hid (Ki.out.below bw1)
  have Ksw1 := hid (Ks.out.below bw1)
  have KNw1 := hid (KN.out.below bw1)
  have KTw1 := hid (KT.out.below bw1)
  have KWw1 := hid (KW.out.below bw1)
  clear bw1
  have KAw1 := hid htA
  clear htA
  have cna : w1.cell? ⟨w.heap.size + 1, 33 + 32, none⟩ = some (.slice na nn nc) := sideC_nodes' hc hd Ksw1.out
  go_wp2_with (with_reducible show wpList _ _ _ (⟨some 42, _, _, _, _, _⟩ :: _) _ _; refine wpList_load_mid rfl 23 _ rfl (w.heap.size + 1) 33 rfl _ _ (sideC_known hc Ksw1.out) Tryd.underlying23 rfl (by rw [List.length_map, hd.len]; exact size_digest) ?_)
  clear cna
  refine (CW _).mono ?_
  rintro e w2 ⟨rfl, bw2⟩
  have HBw2 := hid (Below.on HBw1.out bw2)
  have hsw2 := HBw2.out.size
  have Kiw2 := hid (Kiw1.out.below bw2)
  have Ksw2 := hid (Ksw1.out.below bw2)
  have KNw2 := hid (KNw1.out.below bw2)
  have KTw2 := hid (KTw1.out.below bw2)
  have KWw2 := hid (KWw1.out.below bw2)
  have KAw2 := hid (KAw1.out.below bw2)
  clear bw2
  have cna : w2.cell? ⟨w.heap.size + 1, 33 + 32, none⟩ = some (.slice na nn nc) := sideC_nodes' hc hd Ksw2.out
  have cp : w2.cell? ⟨w.heap.size + 1, 0, none⟩ = some (.bool p) := by rw [Ksw2.out.cell]; rfl
  go_wp2_with (first
     | (with_reducible show wpList _ _ _ (⟨some 52, _, _, _, _, _⟩ :: _) _ _; refine wpList_load_blk rfl 23 _ rfl (w.heap.size) rfl _ 23 Kiw2.out _ Tryd.underlying23 rfl 32 size_digest hi.size ?_)
     | (with_reducible show wpList _ _ _ (⟨some 56, _, _, _, _, _⟩ :: _) _ _; refine wpList_load_mid rfl 23 _ rfl (w.heap.size + 1) 1 rfl _ _ (sideC_com Ksw2.out) Tryd.underlying23 rfl (by rw [List.length_map, hc.len]; exact size_digest) ?_)
     | (with_reducible show wpList _ _ _ (⟨some 59, _, _, _, _, _⟩ :: _) _ _; refine wpList_load_mid rfl 23 _ rfl (w.heap.size + 1) 33 rfl _ _ (sideC_known hc Ksw2.out) Tryd.underlying23 rfl (by rw [List.length_map, hd.len]; exact size_digest) ?_))
  clear cna cp
  refine (CR _ KNw2.out).mono ?_
  rintro e w3 ⟨vQ, rfl, ⟨aQ, nQ, cQ, rfl, htQ⟩, bw3⟩
  have HBw3 := hid (Below.on HBw2.out bw3)
  have hsw3 := HBw3.out.size
  have Kiw3 := hid (Kiw2.out.below bw3)
  have Ksw3 := hid (Ksw2.out.below bw3)
  have KNw3 := hid (KNw2.out.below bw3)
  have KTw3 := hid (KTw2.out.below bw3)
  have KWw3 := hid (KWw2.out.below bw3)
  have KAw3 := hid (KAw2.out.below bw3)
  clear bw3
  have KQw3 := hid htQ
  obtain rfl : nA = nQ := KAw3.out.length.symm.trans htQ.length
  clear htQ
  go_wp2_with fail
  refine (refsameT_any aA aQ nA cA cQ A _ KAw3.out KQw3.out).mono ?_
  rintro e w4 ⟨rfl, bw4⟩
  have HBw4 := hid (Below.on HBw3.out bw4)
  have hsw4 := HBw4.out.size
  have Kiw4 := hid (Kiw3.out.below bw4)
  have Ksw4 := hid (Ksw3.out.below bw4)
  have KNw4 := hid (KNw3.out.below bw4)
  have KTw4 := hid (KTw3.out.below bw4)
  have KWw4 := hid (KWw3.out.below bw4)
  have KAw4 := hid (KAw3.out.below bw4)
  have KQw4 := hid (KQw3.out.below bw4)
  clear bw4
  go_wp2_with fail
  refine (CX _ KTw4.out KWw4.out (Htab.out.below HBw4.out)).mono ?_
  rintro e w5 ⟨vB, rfl, ⟨aB, nB, cB, rfl, htB⟩, bw5⟩
  have HBw5 := hid (Below.on HBw4.out bw5)
  have hsw5 := HBw5.out.size
  have Kiw5 := hid (Kiw4.out.below bw5)
  have Ksw5 := hid (Ksw4.out.below bw5)
  have KNw5 := hid (KNw4.out.below bw5)
  have KTw5 := hid (KTw4.out.below bw5)
  have KWw5 := hid (KWw4.out.below bw5)
  have KAw5 := hid (KAw4.out.below bw5)
  have KQw5 := hid (KQw4.out.below bw5)
  clear bw5
  have KBw5 := hid htB
  obtain rfl : nB = 0 := htB.length.symm
  clear htB
  go_wp2_with (with_reducible show wpList _ _ _ (⟨some 71, _, _, _, _, _⟩ :: _) _ _; refine wpList_load_blk rfl 23 _ rfl (w.heap.size) rfl _ 23 Kiw5.out _ Tryd.underlying23 rfl 32 size_digest hi.size ?_)
  refine (CG _ KWw5.out (Htab.out.below HBw5.out)).mono ?_
  rintro e w6 ⟨vC, rfl, ⟨aC, nC, cC, rfl, htC⟩, bw6⟩
  have HBw6 := hid (Below.on HBw5.out bw6)
  have hsw6 := HBw6.out.size
  have Kiw6 := hid (Kiw5.out.below bw6)
  have Ksw6 := hid (Ksw5.out.below bw6)
  have KNw6 := hid (KNw5.out.below bw6)
  have KTw6 := hid (KTw5.out.below bw6)
  have KWw6 := hid (KWw5.out.below bw6)
  have KAw6 := hid (KAw5.out.below bw6)
  have KQw6 := hid (KQw5.out.below bw6)
  have KBw6 := hid (KBw5.out.below bw6)
  clear bw6
  have KCw6 := hid htC
  obtain rfl : nC = 0 := htC.length.symm
  clear htC
  go_wp2_with fail
  refine (CXR _ KTw6.out KWw6.out).mono ?_
  rintro e w7 ⟨vX, rfl, bw7⟩
  have HBw7 := hid (Below.on HBw6.out bw7)
  have hsw7 := HBw7.out.size
  have Kiw7 := hid (Kiw6.out.below bw7)
  have Ksw7 := hid (Ksw6.out.below bw7)
  have KNw7 := hid (KNw6.out.below bw7)
  have KTw7 := hid (KTw6.out.below bw7)
  have KWw7 := hid (KWw6.out.below bw7)
  have KAw7 := hid (KAw6.out.below bw7)
  have KQw7 := hid (KQw6.out.below bw7)
  have KBw7 := hid (KBw6.out.below bw7)
  have KCw7 := hid (KCw6.out.below bw7)
  clear bw7
  go_wp2_with fail
  refine (knows23 _ (Htab.out.below HBw7.out)).mono ?_
  rintro e w8 ⟨rfl, bw8⟩
  have HBw8 := hid (Below.on HBw7.out bw8)
  have hsw8 := HBw8.out.size
  have Kiw8 := hid (Kiw7.out.below bw8)
  have Ksw8 := hid (Ksw7.out.below bw8)
  have KNw8 := hid (KNw7.out.below bw8)
  have KTw8 := hid (KTw7.out.below bw8)
  have KWw8 := hid (KWw7.out.below bw8)
  have KAw8 := hid (KAw7.out.below bw8)
  have KQw8 := hid (KQw7.out.below bw8)
  have KBw8 := hid (KBw7.out.below bw8)
  have KCw8 := hid (KCw7.out.below bw8)
  clear bw8
  go_wp2_with fail
  go_returns
  exact ⟨by first | rfl | simp, HBw8.out⟩
set_option maxHeartbeats 4000000 in
theorem extrails_w_neny (i c d t : List Int) (p : Bool) (na ta ya : Option Addr) (nn nc tn tc yn yc : Nat) (m n : Int) (ns ds : List (List Int)) (A C : List (List Int)) (w : World) (hi : Dg i) (hc : Dg c) (hd : Dg d) (hN : DigsAt w na nn nc ns) (hT : TextAt w ta tn tc t) (hW : DigsAt w ya yn yc ds) (tab : ShaTab w) (hb1 : nn ≤ 300) (hb2 : tn ≤ 1000) (hb3 : yn ≤ 40) (q1 : ¬ n < 1) (q2 : ¬ 200 < n) (q3 : ¬ m < 0) (q4 : ¬ n < m) (he : ¬ m = n) (hz : ¬ m = 0)
    (CT : ∀ W : World, DigsAt W na nn nc ns → ShaTab W → Calls Tryd.prog 10 #[.agg (i.map (Value.int .u8)).toArray, .agg (sideC p c d (.slice na nn nc)).toArray] W fun e w' => ∃ v, e = .returned v ∧ TextsV A v w' ∧ Below W.heap.size W w')
    (CW : ∀ W : World, Calls Tryd.prog 11 #[.agg (d.map (Value.int .u8)).toArray, .slice na nn nc] W fun e w' => e = .returned (.bool true) ∧ Below W.heap.size W w')
    (CR : ∀ W : World, DigsAt W na nn nc ns → Calls Tryd.prog 13 #[.agg (i.map (Value.int .u8)).toArray, .bool p, .agg (c.map (Value.int .u8)).toArray, .agg (d.map (Value.int .u8)).toArray, .slice na nn nc] W fun e w' => ∃ v, e = .returned v ∧ TextsV A v w' ∧ Below W.heap.size W w')
    (CX : ∀ W : World, TextAt W ta tn tc t → DigsAt W ya yn yc ds → ShaTab W → Calls Tryd.prog 14 #[.int .i64 n, .int .i64 m, .slice ta tn tc, .slice ya yn yc] W fun e w' => ∃ v, e = .returned v ∧ TextsV [] v w' ∧ Below W.heap.size W w')
    (CG : ∀ W : World, DigsAt W ya yn yc ds → ShaTab W → Calls Tryd.prog 15 #[.agg (i.map (Value.int .u8)).toArray, .int .i64 m, .int .i64 n, .slice ya yn yc] W fun e w' => ∃ v, e = .returned v ∧ TextsV C v w' ∧ Below W.heap.size W w')
    (CXR : ∀ W : World, TextAt W ta tn tc t → DigsAt W ya yn yc ds → Calls Tryd.prog 16 #[.int .i64 n, .int .i64 m, .slice ta tn tc, .slice ya yn yc] W fun e w' => ∃ v, e = .returned (.tuple #[v, .bool false]) ∧ Below W.heap.size W w')
    (CGR : ∀ W : World, DigsAt W ya yn yc ds → Calls Tryd.prog 17 #[.agg (i.map (Value.int .u8)).toArray, .int .i64 m, .int .i64 n, .bool false, .slice ya yn yc] W fun e w' => ∃ (v : Value) (X : List Int), e = .returned (.tuple #[v, .agg (X.map (Value.int .u8)).toArray, .bool true]) ∧ Dg X ∧ TextsV C v w' ∧ Below W.heap.size W w') :
    Calls Tryd.prog 3 #[.agg (i.map (Value.int .u8)).toArray, .agg (sideC p c d (.slice na nn nc)).toArray, .int .i64 m, .int .i64 n, .slice ta tn tc, .slice ya yn yc] w fun e' w' => e' = .returned (.bool true) ∧ Below w.heap.size w w' := by
  have b1 := (Below.refl w.heap.size w).alloc (Nat.le_refl _) (.cells (i.map (Value.int .u8)).toArray 23 (0, 0))
  have b2 := b1.alloc b1.size (.cells (sideC p c d (.slice na nn nc)).toArray 28 (0, 0))
  have Ki := hid ((Blk.new (w := w) (n := w.heap.size) rfl (i.map (Value.int .u8)).toArray 23).old (.cells (sideC p c d (.slice na nn nc)).toArray 28 (0, 0)))
  have Ks := hid (Blk.new (w := (w.alloc (.cells (i.map (Value.int .u8)).toArray 23 (0, 0)))) (n := w.heap.size + 1) (by simp only [World.size_alloc]) (sideC p c d (.slice na nn nc)).toArray 28)
  have Hb := hid b2
  have hbz := b2.size
  have Hbs := hid (show w.heap.size + 1 + 1 = ((w.alloc (.cells (i.map (Value.int .u8)).toArray 23 (0, 0))).alloc (.cells (sideC p c d (.slice na nn nc)).toArray 28 (0, 0))).heap.size by simp only [World.size_alloc])
  have Htab := hid tab
  clear b1 b2 tab 
  have KN := hid (hN.below Hb.out)
  have KT := hid (hT.below Hb.out)
  have KW := hid (hW.below Hb.out)
  clear hN hT hW
  have hca : ¬ (300 : Int) < (nn : Int) := by omega
  have hcb : ¬ (1000 : Int) < (tn : Int) := by omega
  have hcc : ¬ (40 : Int) < (yn : Int) := by omega
  have qe : (m == n) = false := by simp [he]
  have qz : (m == 0) = false := by simp [hz]
  clear he hz
  have cna : ((w.alloc (.cells (i.map (Value.int .u8)).toArray 23 (0, 0))).alloc (.cells (sideC p c d (.slice na nn nc)).toArray 28 (0, 0))).cell? ⟨w.heap.size + 1, 33 + 32, none⟩ = some (.slice na nn nc) := sideC_nodes' hc hd Ks.out
  go_enter Tryd.func3, Tryd.ntmps3
  go_wp2_with (first
     | (with_reducible show wpList _ _ _ (⟨some 37, _, _, _, _, _⟩ :: _) _ _; refine wpList_load_blk rfl 23 _ rfl (w.heap.size) rfl _ 23 Ki.out _ Tryd.underlying23 rfl 32 size_digest hi.size ?_)
     | (with_reducible show wpList _ _ _ (⟨some 38, _, _, _, _, _⟩ :: _) _ _; refine wpList_load_blk rfl 28 _ rfl (w.heap.size + 1) rfl _ 28 Ks.out _ Tryd.underlying28 rfl 66 size_side (sideC_size hc hd) ?_))
  clear cna
  refine (CT _ KN.out (Htab.out.below Hb.out)).mono ?_
  rintro e w1 ⟨vA, rfl, ⟨aA, nA, cA, rfl, htA⟩, bw1⟩
  have HBw1 := hid (Below.on Hb.out bw1)
  have hsw1 := HBw1.out.size
  have Kiw1 := hid (Ki.out.below bw1)
  have Ksw1 := hid (Ks.out.below bw1)
  have KNw1 := hid (KN.out.below bw1)
  have KTw1 := hid (KT.out.below bw1)
  have KWw1 := hid (KW.out.below bw1)
  clear bw1
  have KAw1 := hid htA
  clear htA
  have cna : w1.cell? ⟨w.heap.size + 1, 33 + 32, none⟩ = some (.slice na nn nc) := sideC_nodes' hc hd Ksw1.out
  go_wp2_with (with_reducible show wpList _ _ _ (⟨some 42, _, _, _, _, _⟩ :: _) _ _; refine wpList_load_mid rfl 23 _ rfl (w.heap.size + 1) 33 rfl _ _ (sideC_known hc Ksw1.out) Tryd.underlying23 rfl (by rw [List.length_map, hd.len]; exact size_digest) ?_)
  clear cna
  refine (CW _).mono ?_
  rintro e w2 ⟨rfl, bw2⟩
  have HBw2 := hid (Below.on HBw1.out bw2)
  have hsw2 := HBw2.out.size
  have Kiw2 := hid (Kiw1.out.below bw2)
  have Ksw2 := hid (Ksw1.out.below bw2)
  have KNw2 := hid (KNw1.out.below bw2)
  have KTw2 := hid (KTw1.out.below bw2)
  have KWw2 := hid (KWw1.out.below bw2)
  have KAw2 := hid (KAw1.out.below bw2)
  clear bw2
  have cna : w2.cell? ⟨w.heap.size + 1, 33 + 32, none⟩ = some (.slice na nn nc) := sideC_nodes' hc hd Ksw2.out
  have cp : w2.cell? ⟨w.heap.size + 1, 0, none⟩ = some (.bool p) := by rw [Ksw2.out.cell]; rfl
  go_wp2_with (first
     | (with_reducible show wpList _ _ _ (⟨some 52, _, _, _, _, _⟩ :: _) _ _; refine wpList_load_blk rfl 23 _ rfl (w.heap.size) rfl _ 23 Kiw2.out _ Tryd.underlying23 rfl 32 size_digest hi.size ?_)
     | (with_reducible show wpList _ _ _ (⟨some 56, _, _, _, _, _⟩ :: _) _ _; refine wpList_load_mid rfl 23 _ rfl (w.heap.size + 1) 1 rfl _ _ (sideC_com Ksw2.out) Tryd.underlying23 rfl (by rw [List.length_map, hc.len]; exact size_digest) ?_)
     | (with_reducible show wpList _ _ _ (⟨some 59, _, _, _, _, _⟩ :: _) _ _; refine wpList_load_mid rfl 23 _ rfl (w.heap.size + 1) 33 rfl _ _ (sideC_known hc Ksw2.out) Tryd.underlying23 rfl (by rw [List.length_map, hd.len]; exact size_digest) ?_))
  clear cna cp
  refine (CR _ KNw2.out).mono ?_
  rintro e w3 ⟨vQ, rfl, ⟨aQ, nQ, cQ, rfl, htQ⟩, bw3⟩
  have HBw3 := hid (Below.on HBw2.out bw3)
  have hsw3 := HBw3.out.size
  have Kiw3 := hid (Kiw2.out.below bw3)
  have Ksw3 := hid (Ksw2.out.below bw3)
  have KNw3 := hid (KNw2.out.below bw3)
  have KTw3 := hid (KTw2.out.below bw3)
  have KWw3 := hid (KWw2.out.below bw3)
  have KAw3 := hid (KAw2.out.below bw3)
  clear bw3
  have KQw3 := hid htQ
  obtain rfl : nA = nQ := KAw3.out.length.symm.trans htQ.length
  clear htQ
  go_wp2_with fail
  refine (refsameT_any aA aQ nA cA cQ A _ KAw3.out KQw3.out).mono ?_
  rintro e w4 ⟨rfl, bw4⟩
  have HBw4 := hid (Below.on HBw3.out bw4)
  have hsw4 := HBw4.out.size
  have Kiw4 := hid (Kiw3.out.below bw4)
  have Ksw4 := hid (Ksw3.out.below bw4)
  have KNw4 := hid (KNw3.out.below bw4)
  have KTw4 := hid (KTw3.out.below bw4)
  have KWw4 := hid (KWw3.out.below bw4)
  have KAw4 := hid (KAw3.out.below bw4)
  have KQw4 := hid (KQw3.out.below bw4)
  clear bw4
  go_wp2_with fail
  refine (CX _ KTw4.out KWw4.out (Htab.out.below HBw4.out)).mono ?_
  rintro e w5 ⟨vB, rfl, ⟨aB, nB, cB, rfl, htB⟩, bw5⟩
  have HBw5 := hid (Below.on HBw4.out bw5)
  have hsw5 := HBw5.out.size
  have Kiw5 := hid (Kiw4.out.below bw5)
  have Ksw5 := hid (Ksw4.out.below bw5)
  have KNw5 := hid (KNw4.out.below bw5)
  have KTw5 := hid (KTw4.out.below bw5)
  have KWw5 := hid (KWw4.out.below bw5)
  have KAw5 := hid (KAw4.out.below bw5)
  have KQw5 := hid (KQw4.out.below bw5)
  clear bw5
  have KBw5 := hid htB
  obtain rfl : nB = 0 := htB.length.symm
  clear htB
  go_wp2_with (with_reducible show wpList _ _ _ (⟨some 71, _, _, _, _, _⟩ :: _) _ _; refine wpList_load_blk rfl 23 _ rfl (w.heap.size) rfl _ 23 Kiw5.out _ Tryd.underlying23 rfl 32 size_digest hi.size ?_)
  refine (CG _ KWw5.out (Htab.out.below HBw5.out)).mono ?_
  rintro e w6 ⟨vC, rfl, ⟨aC, nC, cC, rfl, htC⟩, bw6⟩
  have HBw6 := hid (Below.on HBw5.out bw6)
  have hsw6 := HBw6.out.size
  have Kiw6 := hid (Kiw5.out.below bw6)
  have Ksw6 := hid (Ksw5.out.below bw6)
  have KNw6 := hid (KNw5.out.below bw6)
  have KTw6 := hid (KTw5.out.below bw6)
  have KWw6 := hid (KWw5.out.below bw6)
  have KAw6 := hid (KAw5.out.below bw6)
  have KQw6 := hid (KQw5.out.below bw6)
  have KBw6 := hid (KBw5.out.below bw6)
  clear bw6
  have KCw6 := hid htC
  clear htC
  go_wp2_with fail
  refine (CXR _ KTw6.out KWw6.out).mono ?_
  rintro e w7 ⟨vX, rfl, bw7⟩
  have HBw7 := hid (Below.on HBw6.out bw7)
  have hsw7 := HBw7.out.size
  have Kiw7 := hid (Kiw6.out.below bw7)
  have Ksw7 := hid (Ksw6.out.below bw7)
  have KNw7 := hid (KNw6.out.below bw7)
  have KTw7 := hid (KTw6.out.below bw7)
  have KWw7 := hid (KWw6.out.below bw7)
  have KAw7 := hid (KAw6.out.below bw7)
  have KQw7 := hid (KQw6.out.below bw7)
  have KBw7 := hid (KBw6.out.below bw7)
  have KCw7 := hid (KCw6.out.below bw7)
  clear bw7
  go_wp2_with (with_reducible show wpList _ _ _ (⟨some 141, _, _, _, _, _⟩ :: _) _ _; refine wpList_load_blk rfl 23 _ rfl (w.heap.size) rfl _ 23 Kiw7.out _ Tryd.underlying23 rfl 32 size_digest hi.size ?_)
  refine (CGR _ KWw7.out).mono ?_
  rintro e w8 ⟨vY, X, rfl, hX, ⟨aY, nY, cY, rfl, htY⟩, bw8⟩
  have HBw8 := hid (Below.on HBw7.out bw8)
  have hsw8 := HBw8.out.size
  have Kiw8 := hid (Kiw7.out.below bw8)
  have Ksw8 := hid (Ksw7.out.below bw8)
  have KNw8 := hid (KNw7.out.below bw8)
  have KTw8 := hid (KTw7.out.below bw8)
  have KWw8 := hid (KWw7.out.below bw8)
  have KAw8 := hid (KAw7.out.below bw8)
  have KQw8 := hid (KQw7.out.below bw8)
  have KBw8 := hid (KBw7.out.below bw8)
  have KCw8 := hid (KCw7.out.below bw8)
  clear bw8
  have KYw8 := hid htY
  obtain rfl : nC = nY := KCw8.out.length.symm.trans htY.length
  clear htY
  go_wp2_with (
        refine wpList_store_blk rfl 23 _ _ rfl (w8.heap.size) (X.map (Value.int .u8)).toArray rfl rfl _ 23 (Blk.new rfl (byteCells 32 []) _) 32 size_digest zsize hX.size (ints_one _ _) ?_
        intro w9 hbw9 hkw9
        have hw9 := hbw9.below ((Below.refl w8.heap.size w8).alloc (Nat.le_refl _) _) (by simp only [World.size_alloc]; omega) (Nat.le_refl _)
        have HBw9 := hid (Below.on HBw8.out hw9)
        have hsw9 := HBw9.out.size
        have Kiw9 := hid (Kiw8.out.below hw9)
        have hliw9 := Kiw8.out.lt
        have Ksw9 := hid (Ksw8.out.below hw9)
        have hlsw9 := Ksw8.out.lt
        have KNw9 := hid (KNw8.out.below hw9)
        have KTw9 := hid (KTw8.out.below hw9)
        have KWw9 := hid (KWw8.out.below hw9)
        have KAw9 := hid (KAw8.out.below hw9)
        have KQw9 := hid (KQw8.out.below hw9)
        have KBw9 := hid (KBw8.out.below hw9)
        have KCw9 := hid (KCw8.out.below hw9)
        have KYw9 := hid (KYw8.out.below hw9)
        have Kxw9 := hid hkw9
        have hfw9 : w.heap.size ≤ w8.heap.size := HBw8.out.size
        clear hbw9 hkw9 hw9)
  refine (refsameT_any aC aY nC cC cY C _ KCw9.out KYw9.out).mono ?_
  rintro e w10 ⟨rfl, bw10⟩
  have HBw10 := hid (Below.on HBw9.out bw10)
  have hsw10 := HBw10.out.size
  have Kiw10 := hid (Kiw9.out.below bw10)
  have Ksw10 := hid (Ksw9.out.below bw10)
  have KNw10 := hid (KNw9.out.below bw10)
  have KTw10 := hid (KTw9.out.below bw10)
  have KWw10 := hid (KWw9.out.below bw10)
  have KAw10 := hid (KAw9.out.below bw10)
  have KQw10 := hid (KQw9.out.below bw10)
  have KBw10 := hid (KBw9.out.below bw10)
  have KCw10 := hid (KCw9.out.below bw10)
  have KYw10 := hid (KYw9.out.below bw10)
  have Kxw10 := hid (Kxw9.out.below bw10)
  clear bw10
  go_wp2_with fail
  refine (knows23 _ (Htab.out.below HBw10.out)).mono ?_
  rintro e w11 ⟨rfl, bw11⟩
  have HBw11 := hid (Below.on HBw10.out bw11)
  have hsw11 := HBw11.out.size
  have Kiw11 := hid (Kiw10.out.below bw11)
  have Ksw11 := hid (Ksw10.out.below bw11)
  have KNw11 := hid (KNw10.out.below bw11)
  have KTw11 := hid (KTw10.out.below bw11)
  have KWw11 := hid (KWw10.out.below bw11)
  have KAw11 := hid (KAw10.out.below bw11)
  have KQw11 := hid (KQw10.out.below bw11)
  have KBw11 := hid (KBw10.out.below bw11)
  have KCw11 := hid (KCw10.out.below bw11)
  have KYw11 := hid (KYw10.out.below bw11)
  have Kxw11 := hid (Kxw10.out.below bw11)
  clear bw11
  go_wp2_with fail
  go_returns
  exact ⟨by first | rfl | simp, HBw11.out⟩
set_option maxHeartbeats 4000000 in
theorem extrails_w_nenn (i c d t : List Int) (p : Bool) (na ta ya : Option Addr) (nn nc tn tc yn yc : Nat) (m n : Int) (ns ds : List (List Int)) (A : List (List Int)) (w : World) (hi : Dg i) (hc : Dg c) (hd : Dg d) (hN : DigsAt w na nn nc ns) (hT : TextAt w ta tn tc t) (hW : DigsAt w ya yn yc ds) (tab : ShaTab w) (hb1 : nn ≤ 300) (hb2 : tn ≤ 1000) (hb3 : yn ≤ 40) (q1 : ¬ n < 1) (q2 : ¬ 200 < n) (q3 : ¬ m < 0) (q4 : ¬ n < m) (he : ¬ m = n) (hz : ¬ m = 0)
    (CT : ∀ W : World, DigsAt W na nn nc ns → ShaTab W → Calls Tryd.prog 10 #[.agg (i.map (Value.int .u8)).toArray, .agg (sideC p c d (.slice na nn nc)).toArray] W fun e w' => ∃ v, e = .returned v ∧ TextsV A v w' ∧ Below W.heap.size W w')
    (CW : ∀ W : World, Calls Tryd.prog 11 #[.agg (d.map (Value.int .u8)).toArray, .slice na nn nc] W fun e w' => e = .returned (.bool true) ∧ Below W.heap.size W w')
    (CR : ∀ W : World, DigsAt W na nn nc ns → Calls Tryd.prog 13 #[.agg (i.map (Value.int .u8)).toArray, .bool p, .agg (c.map (Value.int .u8)).toArray, .agg (d.map (Value.int .u8)).toArray, .slice na nn nc] W fun e w' => ∃ v, e = .returned v ∧ TextsV A v w' ∧ Below W.heap.size W w')
    (CX : ∀ W : World, TextAt W ta tn tc t → DigsAt W ya yn yc ds → ShaTab W → Calls Tryd.prog 14 #[.int .i64 n, .int .i64 m, .slice ta tn tc, .slice ya yn yc] W fun e w' => ∃ v, e = .returned v ∧ TextsV [] v w' ∧ Below W.heap.size W w')
    (CG : ∀ W : World, DigsAt W ya yn yc ds → ShaTab W → Calls Tryd.prog 15 #[.agg (i.map (Value.int .u8)).toArray, .int .i64 m, .int .i64 n, .slice ya yn yc] W fun e w' => ∃ v, e = .returned v ∧ TextsV [] v w' ∧ Below W.heap.size W w')
    (CXR : ∀ W : World, TextAt W ta tn tc t → DigsAt W ya yn yc ds → Calls Tryd.prog 16 #[.int .i64 n, .int .i64 m, .slice ta tn tc, .slice ya yn yc] W fun e w' => ∃ v, e = .returned (.tuple #[v, .bool false]) ∧ Below W.heap.size W w')
    (CGR : ∀ W : World, DigsAt W ya yn yc ds → Calls Tryd.prog 17 #[.agg (i.map (Value.int .u8)).toArray, .int .i64 m, .int .i64 n, .bool false, .slice ya yn yc] W fun e w' => ∃ (v : Value) (X : List Int), e = .returned (.tuple #[v, .agg (X.map (Value.int .u8)).toArray, .bool false]) ∧ Dg X ∧ Below W.heap.size W w') :
    Calls Tryd.prog 3 #[.agg (i.map (Value.int .u8)).toArray, .agg (sideC p c d (.slice na nn nc)).toArray, .int .i64 m, .int .i64 n, .slice ta tn tc, .slice ya yn yc] w fun e' w' => e' = .returned (.bool true) ∧ Below w.heap.size w w' := by
  have b1 := (Below.refl w.heap.size w).alloc (Nat.le_refl _) (.cells (i.map (Value.int .u8)).toArray 23 (0, 0))
  have b2 := b1.alloc b1.size (.cells (sideC p c d (.slice na nn nc)).toArray 28 (0, 0))
  have Ki := hid ((Blk.new (w := w) (n := w.heap.size) rfl (i.map (Value.int .u8)).toArray 23).old (.cells (sideC p c d (.slice na nn nc)).toArray 28 (0, 0)))
  have Ks := hid (Blk.new (w := (w.alloc (.cells (i.map (Value.int .u8)).toArray 23 (0, 0)))) (n := w.heap.size + 1) (by simp only [World.size_alloc]) (sideC p c d (.slice na nn nc)).toArray 28)
  have Hb := hid b2
  have hbz := b2.size
  have Hbs := hid (show w.heap.size + 1 + 1 = ((w.alloc (.cells (i.map (Value.int .u8)).toArray 23 (0, 0))).alloc (.cells (sideC p c d (.slice na nn nc)).toArray 28 (0, 0))).heap.size by simp only [World.size_alloc])
  have Htab := hid tab
  clear b1 b2 tab 
  have KN := hid (hN.below Hb.out)
  have KT := hid (hT.below Hb.out)
  have KW := hid (hW.below Hb.out)
  clear hN hT hW
  have hca : ¬ (300 : Int) < (nn : Int) := by omega
  have hcb : ¬ (1000 : Int) < (tn : Int) := by omega
  have hcc : ¬ (40 : Int) < (yn : Int) := by omega
  have qe : (m == n) = false := by simp [he]
  have qz : (m == 0) = false := by simp [hz]
  clear he hz
  have cna : ((w.alloc (.cells (i.map (Value.int .u8)).toArray 23 (0, 0))).alloc (.cells (sideC p c d (.slice na nn nc)).toArray 28 (0, 0))).cell? ⟨w.heap.size + 1, 33 + 32, none⟩ = some (.slice na nn nc) := sideC_nodes' hc hd Ks.out
  go_enter Tryd.func3, Tryd.ntmps3
  go_wp2_with (first
     | (with_reducible show wpList _ _ _ (⟨some 37, _, _, _, _, _⟩ :: _) _ _; refine wpList_load_blk rfl 23 _ rfl (w.heap.size) rfl _ 23 Ki.out _ Tryd.underlying23 rfl 32 size_digest hi.size ?_)
     | (with_reducible show wpList _ _ _ (⟨some 38, _, _, _, _, _⟩ :: _) _ _; refine wpList_load_blk rfl 28 _ rfl (w.heap.size + 1) rfl _ 28 Ks.out _ Tryd.underlying28 rfl 66 size_side (sideC_size hc hd) ?_))
  clear cna
  refine (CT _ KN.out (Htab.out.below Hb.out)).mono ?_
  rintro e w1 ⟨vA, rfl, ⟨aA, nA, cA, rfl, htA⟩, bw1⟩
  have HBw1 := hid (Below.on Hb.out bw1)
  have hsw1 := HBw1.out.size
  have Kiw1 := hid (Ki.out.below bw1)
  have Ksw1 := hid (Ks.out.below bw1)
  have KNw1 := hid (KN.out.below bw1)
  have KTw1 := hid (KT.out.below bw1)
  have KWw1 := hid (KW.out.below bw1)
  clear bw1
  have KAw1 := hid htA
  clear htA
  have cna : w1.cell? ⟨w.heap.size + 1, 33 + 32, none⟩ = some (.slice na nn nc) := sideC_nodes' hc hd Ksw1.out
  go_wp2_with (with_reducible show wpList _ _ _ (⟨some 42, _, _, _, _, _⟩ :: _) _ _; refine wpList_load_mid rfl 23 _ rfl (w.heap.size + 1) 33 rfl _ _ (sideC_known hc Ksw1.out) Tryd.underlying23 rfl (by rw [List.length_map, hd.len]; exact size_digest) ?_)
  clear cna
  refine (CW _).mono ?_
  rintro e w2 ⟨rfl, bw2⟩
  have HBw2 := hid (Below.on HBw1.out bw2)
  have hsw2 := HBw2.out.size
  have Kiw2 := hid (Kiw1.out.below bw2)
  have Ksw2 := hid (Ksw1.out.below bw2)
  have KNw2 := hid (KNw1.out.below bw2)
  have KTw2 := hid (KTw1.out.below bw2)
  have KWw2 := hid (KWw1.out.below bw2)
  have KAw2 := hid (KAw1.out.below bw2)
  clear bw2
  have cna : w2.cell? ⟨w.heap.size + 1, 33 + 32, none⟩ = some (.slice na nn nc) := sideC_nodes' hc hd Ksw2.out
  have cp : w2.cell? ⟨w.heap.size + 1, 0, none⟩ = some (.bool p) := by rw [Ksw2.out.cell]; rfl
  go_wp2_with (first
     | (with_reducible show wpList _ _ _ (⟨some 52, _, _, _, _, _⟩ :: _) _ _; refine wpList_load_blk rfl 23 _ rfl (w.heap.size) rfl _ 23 Kiw2.out _ Tryd.underlying23 rfl 32 size_digest hi.size ?_)
     | (with_reducible show wpList _ _ _ (⟨some 56, _, _, _, _, _⟩ :: _) _ _; refine wpList_load_mid rfl 23 _ rfl (w.heap.size + 1) 1 rfl _ _ (sideC_com Ksw2.out) Tryd.underlying23 rfl (by rw [List.length_map, hc.len]; exact size_digest) ?_)
     | (with_reducible show wpList _ _ _ (⟨some 59, _, _, _, _, _⟩ :: _) _ _; refine wpList_load_mid rfl 23 _ rfl (w.heap.size + 1) 33 rfl _ _ (sideC_known hc Ksw2.out) Tryd.underlying23 rfl (by rw [List.length_map, hd.len]; exact size_digest) ?_))
  clear cna cp
  refine (CR _ KNw2.out).mono ?_
  rintro e w3 ⟨vQ, rfl, ⟨aQ, nQ, cQ, rfl, htQ⟩, bw3⟩
  have HBw3 := hid (Below.on HBw2.out bw3)
  have hsw3 := HBw3.out.size
  have Kiw3 := hid (Kiw2.out.below bw3)
  have Ksw3 := hid (Ksw2.out.below bw3)
  have KNw3 := hid (KNw2.out.below bw3)
  have KTw3 := hid (KTw2.out.below bw3)
  have KWw3 := hid (KWw2.out.below bw3)
  have KAw3 := hid (KAw2.out.below bw3)
  clear bw3
  have KQw3 := hid htQ
  obtain rfl : nA = nQ := KAw3.out.length.symm.trans htQ.length
  clear htQ
  go_wp2_with fail
  refine (refsameT_any aA aQ nA cA cQ A _ KAw3.out KQw3.out).mono ?_
  rintro e w4 ⟨rfl, bw4⟩
  have HBw4 := hid (Below.on HBw3.out bw4)
  have hsw4 := HBw4.out.size
  have Kiw4 := hid (Kiw3.out.below bw4)
  have Ksw4 := hid (Ksw3.out.below bw4)
  have KNw4 := hid (KNw3.out.below bw4)
  have KTw4 := hid (KTw3.out.below bw4)
  have KWw4 := hid (KWw3.out.below bw4)
  have KAw4 := hid (KAw3.out.below bw4)
  have KQw4 := hid (KQw3.out.below bw4)
  clear bw4
  go_wp2_with fail
  refine (CX _ KTw4.out KWw4.out (Htab.out.below HBw4.out)).mono ?_
  rintro e w5 ⟨vB, rfl, ⟨aB, nB, cB, rfl, htB⟩, bw5⟩
  have HBw5 := hid (Below.on HBw4.out bw5)
  have hsw5 := HBw5.out.size
  have Kiw5 := hid (Kiw4.out.below bw5)
  have Ksw5 := hid (Ksw4.out.below bw5)
  have KNw5 := hid (KNw4.out.below bw5)
  have KTw5 := hid (KTw4.out.below bw5)
  have KWw5 := hid (KWw4.out.below bw5)
  have KAw5 := hid (KAw4.out.below bw5)
  have KQw5 := hid (KQw4.out.below bw5)
  clear bw5
  have KBw5 := hid htB
  obtain rfl : nB = 0 := htB.length.symm
  clear htB
  go_wp2_with (with_reducible show wpList _ _ _ (⟨some 71, _, _, _, _, _⟩ :: _) _ _; refine wpList_load_blk rfl 23 _ rfl (w.heap.size) rfl _ 23 Kiw5.out _ Tryd.underlying23 rfl 32 size_digest hi.size ?_)
  refine (CG _ KWw5.out (Htab.out.below HBw5.out)).mono ?_
  rintro e w6 ⟨vC, rfl, ⟨aC, nC, cC, rfl, htC⟩, bw6⟩
  have HBw6 := hid (Below.on HBw5.out bw6)
  have hsw6 := HBw6.out.size
  have Kiw6 := hid (Kiw5.out.below bw6)
  have Ksw6 := hid (Ksw5.out.below bw6)
  have KNw6 := hid (KNw5.out.below bw6)
  have KTw6 := hid (KTw5.out.below bw6)
  have KWw6 := hid (KWw5.out.below bw6)
  have KAw6 := hid (KAw5.out.below bw6)
  have KQw6 := hid (KQw5.out.below bw6)
  have KBw6 := hid (KBw5.out.below bw6)
  clear bw6
  have KCw6 := hid htC
  obtain rfl : nC = 0 := htC.length.symm
  clear htC
  go_wp2_with fail
  refine (CXR _ KTw6.out KWw6.out).mono ?_
  rintro e w7 ⟨vX, rfl, bw7⟩
  have HBw7 := hid (Below.on HBw6.out bw7)
  have hsw7 := HBw7.out.size
  have Kiw7 := hid (Kiw6.out.below bw7)
  have Ksw7 := hid (Ksw6.out.below bw7)
  have KNw7 := hid (KNw6.out.below bw7)
  have KTw7 := hid (KTw6.out.below bw7)
  have KWw7 := hid (KWw6.out.below bw7)
  have KAw7 := hid (KAw6.out.below bw7)
  have KQw7 := hid (KQw6.out.below bw7)
  have KBw7 := hid (KBw6.out.below bw7)
  have KCw7 := hid (KCw6.out.below bw7)
  clear bw7
  go_wp2_with (with_reducible show wpList _ _ _ (⟨some 141, _, _, _, _, _⟩ :: _) _ _; refine wpList_load_blk rfl 23 _ rfl (w.heap.size) rfl _ 23 Kiw7.out _ Tryd.underlying23 rfl 32 size_digest hi.size ?_)
  refine (CGR _ KWw7.out).mono ?_
  rintro e w8 ⟨vY, X, rfl, hX, bw8⟩
  have HBw8 := hid (Below.on HBw7.out bw8)
  have hsw8 := HBw8.out.size
  have Kiw8 := hid (Kiw7.out.below bw8)
  have Ksw8 := hid (Ksw7.out.below bw8)
  have KNw8 := hid (KNw7.out.below bw8)
  have KTw8 := hid (KTw7.out.below bw8)
  have KWw8 := hid (KWw7.out.below bw8)
  have KAw8 := hid (KAw7.out.below bw8)
  have KQw8 := hid (KQw7.out.below bw8)
  have KBw8 := hid (KBw7.out.below bw8)
  have KCw8 := hid (KCw7.out.below bw8)
  clear bw8
  go_wp2_with (
        refine wpList_store_blk rfl 23 _ _ rfl (w8.heap.size) (X.map (Value.int .u8)).toArray rfl rfl _ 23 (Blk.new rfl (byteCells 32 []) _) 32 size_digest zsize hX.size (ints_one _ _) ?_
        intro w9 hbw9 hkw9
        have hw9 := hbw9.below ((Below.refl w8.heap.size w8).alloc (Nat.le_refl _) _) (by simp only [World.size_alloc]; omega) (Nat.le_refl _)
        have HBw9 := hid (Below.on HBw8.out hw9)
        have hsw9 := HBw9.out.size
        have Kiw9 := hid (Kiw8.out.below hw9)
        have hliw9 := Kiw8.out.lt
        have Ksw9 := hid (Ksw8.out.below hw9)
        have hlsw9 := Ksw8.out.lt
        have KNw9 := hid (KNw8.out.below hw9)
        have KTw9 := hid (KTw8.out.below hw9)
        have KWw9 := hid (KWw8.out.below hw9)
        have KAw9 := hid (KAw8.out.below hw9)
        have KQw9 := hid (KQw8.out.below hw9)
        have KBw9 := hid (KBw8.out.below hw9)
        have KCw9 := hid (KCw8.out.below hw9)
        have Kxw9 := hid hkw9
        have hfw9 : w.heap.size ≤ w8.heap.size := HBw8.out.size
        clear hbw9 hkw9 hw9)
  refine (knows23 _ (Htab.out.below HBw9.out)).mono ?_
  rintro e w10 ⟨rfl, bw10⟩
  have HBw10 := hid (Below.on HBw9.out bw10)
  have hsw10 := HBw10.out.size
  have Kiw10 := hid (Kiw9.out.below bw10)
  have Ksw10 := hid (Ksw9.out.below bw10)
  have KNw10 := hid (KNw9.out.below bw10)
  have KTw10 := hid (KTw9.out.below bw10)
  have KWw10 := hid (KWw9.out.below bw10)
  have KAw10 := hid (KAw9.out.below bw10)
  have KQw10 := hid (KQw9.out.below bw10)
  have KBw10 := hid (KBw9.out.below bw10)
  have KCw10 := hid (KCw9.out.below bw10)
  have Kxw10 := hid (Kxw9.out.below bw10)
  clear bw10
  go_wp2_with fail
  go_returns
  exact ⟨by first | rfl | simp, HBw10.out⟩
end Go.Proofs.YtkakoiaahgchmaaDoor
namespace Go.Proofs.YtkakoiaahgchmaaDoor
set_option maxRecDepth 100000
open Go.ChangeShapes Go.WideShapes Go.ChangeAt Go.RowKit
set_option maxHeartbeats 4000000 in
theorem extrails_u_lt (i c d t : List Int) (p : Bool) (na ta ya : Option Addr) (nn nc tn tc yn yc : Nat) (m n : Int) (ns ds : List (List Int))  (w : World) (hi : Dg i) (hc : Dg c) (hd : Dg d) (hN : DigsAt w na nn nc ns) (hT : TextAt w ta tn tc t) (hW : DigsAt w ya yn yc ds) (tab : ShaTab w) (hb1 : nn ≤ 300) (hb2 : tn ≤ 1000) (hb3 : yn ≤ 40) (q1 : n < 1)
    (CT : ∀ W : World, DigsAt W na nn nc ns → ShaTab W → Calls Tryd.prog 10 #[.agg (i.map (Value.int .u8)).toArray, .agg (sideC p c d (.slice na nn nc)).toArray] W fun e w' => ∃ v, e = .returned v ∧ TextsV [] v w' ∧ Below W.heap.size W w')
    (CW : ∀ W : World, Calls Tryd.prog 11 #[.agg (d.map (Value.int .u8)).toArray, .slice na nn nc] W fun e w' => e = .returned (.bool false) ∧ Below W.heap.size W w')
    (CX : ∀ W : World, TextAt W ta tn tc t → DigsAt W ya yn yc ds → ShaTab W → Calls Tryd.prog 14 #[.int .i64 n, .int .i64 m, .slice ta tn tc, .slice ya yn yc] W fun e w' => ∃ v, e = .returned v ∧ TextsV [] v w' ∧ Below W.heap.size W w')
    (CG : ∀ W : World, DigsAt W ya yn yc ds → ShaTab W → Calls Tryd.prog 15 #[.agg (i.map (Value.int .u8)).toArray, .int .i64 m, .int .i64 n, .slice ya yn yc] W fun e w' => ∃ v, e = .returned v ∧ TextsV [] v w' ∧ Below W.heap.size W w') :
    Calls Tryd.prog 3 #[.agg (i.map (Value.int .u8)).toArray, .agg (sideC p c d (.slice na nn nc)).toArray, .int .i64 m, .int .i64 n, .slice ta tn tc, .slice ya yn yc] w fun e' w' => e' = .returned (.bool true) ∧ Below w.heap.size w w' := by
  have b1 := (Below.refl w.heap.size w).alloc (Nat.le_refl _) (.cells (i.map (Value.int .u8)).toArray 23 (0, 0))
  have b2 := b1.alloc b1.size (.cells (sideC p c d (.slice na nn nc)).toArray 28 (0, 0))
  have Ki := hid ((Blk.new (w := w) (n := w.heap.size) rfl (i.map (Value.int .u8)).toArray 23).old (.cells (sideC p c d (.slice na nn nc)).toArray 28 (0, 0)))
  have Ks := hid (Blk.new (w := (w.alloc (.cells (i.map (Value.int .u8)).toArray 23 (0, 0)))) (n := w.heap.size + 1) (by simp only [World.size_alloc]) (sideC p c d (.slice na nn nc)).toArray 28)
  have Hb := hid b2
  have hbz := b2.size
  have Hbs := hid (show w.heap.size + 1 + 1 = ((w.alloc (.cells (i.map (Value.int .u8)).toArray 23 (0, 0))).alloc (.cells (sideC p c d (.slice na nn nc)).toArray 28 (0, 0))).heap.size by simp only [World.size_alloc])
  have Htab := hid tab
  clear b1 b2 tab 
  have KN := hid (hN.below Hb.out)
  have KT := hid (hT.below Hb.out)
  have KW := hid (hW.below Hb.out)
  clear hN hT hW
  have hca : ¬ (300 : Int) < (nn : Int) := by omega
  have hcb : ¬ (1000 : Int) < (tn : Int) := by omega
  have hcc : ¬ (40 : Int) < (yn : Int) := by omega
  have cna : ((w.alloc (.cells (i.map (Value.int .u8)).toArray 23 (0, 0))).alloc (.cells (sideC p c d (.slice na nn nc)).toArray 28 (0, 0))).cell? ⟨w.heap.size + 1, 33 + 32, none⟩ = some (.slice na nn nc) := sideC_nodes' hc hd Ks.out
  go_enter Tryd.func3, Tryd.ntmps3
  go_wp2_with (first
     | (with_reducible show wpList _ _ _ (⟨some 37, _, _, _, _, _⟩ :: _) _ _; refine wpList_load_blk rfl 23 _ rfl (w.heap.size) rfl _ 23 Ki.out _ Tryd.underlying23 rfl 32 size_digest hi.size ?_)
     | (with_reducible show wpList _ _ _ (⟨some 38, _, _, _, _, _⟩ :: _) _ _; refine wpList_load_blk rfl 28 _ rfl (w.heap.size + 1) rfl _ 28 Ks.out _ Tryd.underlying28 rfl 66 size_side (sideC_size hc hd) ?_))
  clear cna
  refine (CT _ KN.out (Htab.out.below Hb.out)).mono ?_
  rintro e w1 ⟨vA, rfl, ⟨aA, nA, cA, rfl, htA⟩, bw1⟩
  have HBw1 := hid (Below.on Hb.out bw1)
  have hsw1 := HBw1.out.size
  have Kiw1 := hid (Ki.out.below bw1)
  have Ksw1 := hid (Ks.out.below bw1)
  have KNw1 := hid (KN.out.below bw1)
  have KTw1 := hid (KT.out.below bw1)
  have KWw1 := hid (KW.out.below bw1)
  clear bw1
  have KAw1 := hid htA
  obtain rfl : nA = 0 := htA.length.symm
  clear htA
  have cna : w1.cell? ⟨w.heap.size + 1, 33 + 32, none⟩ = some (.slice na nn nc) := sideC_nodes' hc hd Ksw1.out
  go_wp2_with (with_reducible show wpList _ _ _ (⟨some 42, _, _, _, _, _⟩ :: _) _ _; refine wpList_load_mid rfl 23 _ rfl (w.heap.size + 1) 33 rfl _ _ (sideC_known hc Ksw1.out) Tryd.underlying23 rfl (by rw [List.length_map, hd.len]; exact size_digest) ?_)
  clear cna
  refine (CW _).mono ?_
  rintro e w2 ⟨rfl, bw2⟩
  have HBw2 := hid (Below.on HBw1.out bw2)
  have hsw2 := HBw2.out.size
  have Kiw2 := hid (Kiw1.out.below bw2)
  have Ksw2 := hid (Ksw1.out.below bw2)
  have KNw2 := hid (KNw1.out.below bw2)
  have KTw2 := hid (KTw1.out.below bw2)
  have KWw2 := hid (KWw1.out.below bw2)
  have KAw2 := hid (KAw1.out.below bw2)
  clear bw2
  go_wp2_with fail
  refine (CX _ KTw2.out KWw2.out (Htab.out.below HBw2.out)).mono ?_
  rintro e w3 ⟨vB, rfl, ⟨aB, nB, cB, rfl, htB⟩, bw3⟩
  have HBw3 := hid (Below.on HBw2.out bw3)
  have hsw3 := HBw3.out.size
  have Kiw3 := hid (Kiw2.out.below bw3)
  have Ksw3 := hid (Ksw2.out.below bw3)
  have KNw3 := hid (KNw2.out.below bw3)
  have KTw3 := hid (KTw2.out.below bw3)
  have KWw3 := hid (KWw2.out.below bw3)
  have KAw3 := hid (KAw2.out.below bw3)
  clear bw3
  have KBw3 := hid htB
  obtain rfl : nB = 0 := htB.length.symm
  clear htB
  go_wp2_with (with_reducible show wpList _ _ _ (⟨some 71, _, _, _, _, _⟩ :: _) _ _; refine wpList_load_blk rfl 23 _ rfl (w.heap.size) rfl _ 23 Kiw3.out _ Tryd.underlying23 rfl 32 size_digest hi.size ?_)
  refine (CG _ KWw3.out (Htab.out.below HBw3.out)).mono ?_
  rintro e w4 ⟨vC, rfl, ⟨aC, nC, cC, rfl, htC⟩, bw4⟩
  have HBw4 := hid (Below.on HBw3.out bw4)
  have hsw4 := HBw4.out.size
  have Kiw4 := hid (Kiw3.out.below bw4)
  have Ksw4 := hid (Ksw3.out.below bw4)
  have KNw4 := hid (KNw3.out.below bw4)
  have KTw4 := hid (KTw3.out.below bw4)
  have KWw4 := hid (KWw3.out.below bw4)
  have KAw4 := hid (KAw3.out.below bw4)
  have KBw4 := hid (KBw3.out.below bw4)
  clear bw4
  have KCw4 := hid htC
  obtain rfl : nC = 0 := htC.length.symm
  clear htC
  go_wp2_with fail
  refine (knows23 _ (Htab.out.below HBw4.out)).mono ?_
  rintro e w5 ⟨rfl, bw5⟩
  have HBw5 := hid (Below.on HBw4.out bw5)
  have hsw5 := HBw5.out.size
  have Kiw5 := hid (Kiw4.out.below bw5)
  have Ksw5 := hid (Ksw4.out.below bw5)
  have KNw5 := hid (KNw4.out.below bw5)
  have KTw5 := hid (KTw4.out.below bw5)
  have KWw5 := hid (KWw4.out.below bw5)
  have KAw5 := hid (KAw4.out.below bw5)
  have KBw5 := hid (KBw4.out.below bw5)
  have KCw5 := hid (KCw4.out.below bw5)
  clear bw5
  go_wp2_with fail
  go_returns
  exact ⟨by first | rfl | simp, HBw5.out⟩
set_option maxHeartbeats 4000000 in
theorem extrails_u_gt (i c d t : List Int) (p : Bool) (na ta ya : Option Addr) (nn nc tn tc yn yc : Nat) (m n : Int) (ns ds : List (List Int))  (w : World) (hi : Dg i) (hc : Dg c) (hd : Dg d) (hN : DigsAt w na nn nc ns) (hT : TextAt w ta tn tc t) (hW : DigsAt w ya yn yc ds) (tab : ShaTab w) (hb1 : nn ≤ 300) (hb2 : tn ≤ 1000) (hb3 : yn ≤ 40) (q1 : ¬ n < 1) (q2 : 200 < n)
    (CT : ∀ W : World, DigsAt W na nn nc ns → ShaTab W → Calls Tryd.prog 10 #[.agg (i.map (Value.int .u8)).toArray, .agg (sideC p c d (.slice na nn nc)).toArray] W fun e w' => ∃ v, e = .returned v ∧ TextsV [] v w' ∧ Below W.heap.size W w')
    (CW : ∀ W : World, Calls Tryd.prog 11 #[.agg (d.map (Value.int .u8)).toArray, .slice na nn nc] W fun e w' => e = .returned (.bool false) ∧ Below W.heap.size W w')
    (CX : ∀ W : World, TextAt W ta tn tc t → DigsAt W ya yn yc ds → ShaTab W → Calls Tryd.prog 14 #[.int .i64 n, .int .i64 m, .slice ta tn tc, .slice ya yn yc] W fun e w' => ∃ v, e = .returned v ∧ TextsV [] v w' ∧ Below W.heap.size W w')
    (CG : ∀ W : World, DigsAt W ya yn yc ds → ShaTab W → Calls Tryd.prog 15 #[.agg (i.map (Value.int .u8)).toArray, .int .i64 m, .int .i64 n, .slice ya yn yc] W fun e w' => ∃ v, e = .returned v ∧ TextsV [] v w' ∧ Below W.heap.size W w') :
    Calls Tryd.prog 3 #[.agg (i.map (Value.int .u8)).toArray, .agg (sideC p c d (.slice na nn nc)).toArray, .int .i64 m, .int .i64 n, .slice ta tn tc, .slice ya yn yc] w fun e' w' => e' = .returned (.bool true) ∧ Below w.heap.size w w' := by
  have b1 := (Below.refl w.heap.size w).alloc (Nat.le_refl _) (.cells (i.map (Value.int .u8)).toArray 23 (0, 0))
  have b2 := b1.alloc b1.size (.cells (sideC p c d (.slice na nn nc)).toArray 28 (0, 0))
  have Ki := hid ((Blk.new (w := w) (n := w.heap.size) rfl (i.map (Value.int .u8)).toArray 23).old (.cells (sideC p c d (.slice na nn nc)).toArray 28 (0, 0)))
  have Ks := hid (Blk.new (w := (w.alloc (.cells (i.map (Value.int .u8)).toArray 23 (0, 0)))) (n := w.heap.size + 1) (by simp only [World.size_alloc]) (sideC p c d (.slice na nn nc)).toArray 28)
  have Hb := hid b2
  have hbz := b2.size
  have Hbs := hid (show w.heap.size + 1 + 1 = ((w.alloc (.cells (i.map (Value.int .u8)).toArray 23 (0, 0))).alloc (.cells (sideC p c d (.slice na nn nc)).toArray 28 (0, 0))).heap.size by simp only [World.size_alloc])
  have Htab := hid tab
  clear b1 b2 tab 
  have KN := hid (hN.below Hb.out)
  have KT := hid (hT.below Hb.out)
  have KW := hid (hW.below Hb.out)
  clear hN hT hW
  have hca : ¬ (300 : Int) < (nn : Int) := by omega
  have hcb : ¬ (1000 : Int) < (tn : Int) := by omega
  have hcc : ¬ (40 : Int) < (yn : Int) := by omega
  have cna : ((w.alloc (.cells (i.map (Value.int .u8)).toArray 23 (0, 0))).alloc (.cells (sideC p c d (.slice na nn nc)).toArray 28 (0, 0))).cell? ⟨w.heap.size + 1, 33 + 32, none⟩ = some (.slice na nn nc) := sideC_nodes' hc hd Ks.out
  go_enter Tryd.func3, Tryd.ntmps3
  go_wp2_with (first
     | (with_reducible show wpList _ _ _ (⟨some 37, _, _, _, _, _⟩ :: _) _ _; refine wpList_load_blk rfl 23 _ rfl (w.heap.size) rfl _ 23 Ki.out _ Tryd.underlying23 rfl 32 size_digest hi.size ?_)
     | (with_reducible show wpList _ _ _ (⟨some 38, _, _, _, _, _⟩ :: _) _ _; refine wpList_load_blk rfl 28 _ rfl (w.heap.size + 1) rfl _ 28 Ks.out _ Tryd.underlying28 rfl 66 size_side (sideC_size hc hd) ?_))
  clear cna
  refine (CT _ KN.out (Htab.out.below Hb.out)).mono ?_
  rintro e w1 ⟨vA, rfl, ⟨aA, nA, cA, rfl, htA⟩, bw1⟩
  have HBw1 := hid (Below.on Hb.out bw1)
  have hsw1 := HBw1.out.size
  have Kiw1 := hid (Ki.out.below bw1)
  have Ksw1 := hid (Ks.out.below bw1)
  have KNw1 := hid (KN.out.below bw1)
  have KTw1 := hid (KT.out.below bw1)
  have KWw1 := hid (KW.out.below bw1)
  clear bw1
  have KAw1 := hid htA
  obtain rfl : nA = 0 := htA.length.symm
  clear htA
  have cna : w1.cell? ⟨w.heap.size + 1, 33 + 32, none⟩ = some (.slice na nn nc) := sideC_nodes' hc hd Ksw1.out
  go_wp2_with (with_reducible show wpList _ _ _ (⟨some 42, _, _, _, _, _⟩ :: _) _ _; refine wpList_load_mid rfl 23 _ rfl (w.heap.size + 1) 33 rfl _ _ (sideC_known hc Ksw1.out) Tryd.underlying23 rfl (by rw [List.length_map, hd.len]; exact size_digest) ?_)
  clear cna
  refine (CW _).mono ?_
  rintro e w2 ⟨rfl, bw2⟩
  have HBw2 := hid (Below.on HBw1.out bw2)
  have hsw2 := HBw2.out.size
  have Kiw2 := hid (Kiw1.out.below bw2)
  have Ksw2 := hid (Ksw1.out.below bw2)
  have KNw2 := hid (KNw1.out.below bw2)
  have KTw2 := hid (KTw1.out.below bw2)
  have KWw2 := hid (KWw1.out.below bw2)
  have KAw2 := hid (KAw1.out.below bw2)
  clear bw2
  go_wp2_with fail
  refine (CX _ KTw2.out KWw2.out (Htab.out.below HBw2.out)).mono ?_
  rintro e w3 ⟨vB, rfl, ⟨aB, nB, cB, rfl, htB⟩, bw3⟩
  have HBw3 := hid (Below.on HBw2.out bw3)
  have hsw3 := HBw3.out.size
  have Kiw3 := hid (Kiw2.out.below bw3)
  have Ksw3 := hid (Ksw2.out.below bw3)
  have KNw3 := hid (KNw2.out.below bw3)
  have KTw3 := hid (KTw2.out.below bw3)
  have KWw3 := hid (KWw2.out.below bw3)
  have KAw3 := hid (KAw2.out.below bw3)
  clear bw3
  have KBw3 := hid htB
  obtain rfl : nB = 0 := htB.length.symm
  clear htB
  go_wp2_with (with_reducible show wpList _ _ _ (⟨some 71, _, _, _, _, _⟩ :: _) _ _; refine wpList_load_blk rfl 23 _ rfl (w.heap.size) rfl _ 23 Kiw3.out _ Tryd.underlying23 rfl 32 size_digest hi.size ?_)
  refine (CG _ KWw3.out (Htab.out.below HBw3.out)).mono ?_
  rintro e w4 ⟨vC, rfl, ⟨aC, nC, cC, rfl, htC⟩, bw4⟩
  have HBw4 := hid (Below.on HBw3.out bw4)
  have hsw4 := HBw4.out.size
  have Kiw4 := hid (Kiw3.out.below bw4)
  have Ksw4 := hid (Ksw3.out.below bw4)
  have KNw4 := hid (KNw3.out.below bw4)
  have KTw4 := hid (KTw3.out.below bw4)
  have KWw4 := hid (KWw3.out.below bw4)
  have KAw4 := hid (KAw3.out.below bw4)
  have KBw4 := hid (KBw3.out.below bw4)
  clear bw4
  have KCw4 := hid htC
  obtain rfl : nC = 0 := htC.length.symm
  clear htC
  go_wp2_with fail
  refine (knows23 _ (Htab.out.below HBw4.out)).mono ?_
  rintro e w5 ⟨rfl, bw5⟩
  have HBw5 := hid (Below.on HBw4.out bw5)
  have hsw5 := HBw5.out.size
  have Kiw5 := hid (Kiw4.out.below bw5)
  have Ksw5 := hid (Ksw4.out.below bw5)
  have KNw5 := hid (KNw4.out.below bw5)
  have KTw5 := hid (KTw4.out.below bw5)
  have KWw5 := hid (KWw4.out.below bw5)
  have KAw5 := hid (KAw4.out.below bw5)
  have KBw5 := hid (KBw4.out.below bw5)
  have KCw5 := hid (KCw4.out.below bw5)
  clear bw5
  go_wp2_with fail
  go_returns
  exact ⟨by first | rfl | simp, HBw5.out⟩
set_option maxHeartbeats 4000000 in
theorem extrails_u_neg (i c d t : List Int) (p : Bool) (na ta ya : Option Addr) (nn nc tn tc yn yc : Nat) (m n : Int) (ns ds : List (List Int))  (w : World) (hi : Dg i) (hc : Dg c) (hd : Dg d) (hN : DigsAt w na nn nc ns) (hT : TextAt w ta tn tc t) (hW : DigsAt w ya yn yc ds) (tab : ShaTab w) (hb1 : nn ≤ 300) (hb2 : tn ≤ 1000) (hb3 : yn ≤ 40) (q1 : ¬ n < 1) (q2 : ¬ 200 < n) (q3 : m < 0)
    (CT : ∀ W : World, DigsAt W na nn nc ns → ShaTab W → Calls Tryd.prog 10 #[.agg (i.map (Value.int .u8)).toArray, .agg (sideC p c d (.slice na nn nc)).toArray] W fun e w' => ∃ v, e = .returned v ∧ TextsV [] v w' ∧ Below W.heap.size W w')
    (CW : ∀ W : World, Calls Tryd.prog 11 #[.agg (d.map (Value.int .u8)).toArray, .slice na nn nc] W fun e w' => e = .returned (.bool false) ∧ Below W.heap.size W w')
    (CX : ∀ W : World, TextAt W ta tn tc t → DigsAt W ya yn yc ds → ShaTab W → Calls Tryd.prog 14 #[.int .i64 n, .int .i64 m, .slice ta tn tc, .slice ya yn yc] W fun e w' => ∃ v, e = .returned v ∧ TextsV [] v w' ∧ Below W.heap.size W w')
    (CG : ∀ W : World, DigsAt W ya yn yc ds → ShaTab W → Calls Tryd.prog 15 #[.agg (i.map (Value.int .u8)).toArray, .int .i64 m, .int .i64 n, .slice ya yn yc] W fun e w' => ∃ v, e = .returned v ∧ TextsV [] v w' ∧ Below W.heap.size W w') :
    Calls Tryd.prog 3 #[.agg (i.map (Value.int .u8)).toArray, .agg (sideC p c d (.slice na nn nc)).toArray, .int .i64 m, .int .i64 n, .slice ta tn tc, .slice ya yn yc] w fun e' w' => e' = .returned (.bool true) ∧ Below w.heap.size w w' := by
  have b1 := (Below.refl w.heap.size w).alloc (Nat.le_refl _) (.cells (i.map (Value.int .u8)).toArray 23 (0, 0))
  have b2 := b1.alloc b1.size (.cells (sideC p c d (.slice na nn nc)).toArray 28 (0, 0))
  have Ki := hid ((Blk.new (w := w) (n := w.heap.size) rfl (i.map (Value.int .u8)).toArray 23).old (.cells (sideC p c d (.slice na nn nc)).toArray 28 (0, 0)))
  have Ks := hid (Blk.new (w := (w.alloc (.cells (i.map (Value.int .u8)).toArray 23 (0, 0)))) (n := w.heap.size + 1) (by simp only [World.size_alloc]) (sideC p c d (.slice na nn nc)).toArray 28)
  have Hb := hid b2
  have hbz := b2.size
  have Hbs := hid (show w.heap.size + 1 + 1 = ((w.alloc (.cells (i.map (Value.int .u8)).toArray 23 (0, 0))).alloc (.cells (sideC p c d (.slice na nn nc)).toArray 28 (0, 0))).heap.size by simp only [World.size_alloc])
  have Htab := hid tab
  clear b1 b2 tab 
  have KN := hid (hN.below Hb.out)
  have KT := hid (hT.below Hb.out)
  have KW := hid (hW.below Hb.out)
  clear hN hT hW
  have hca : ¬ (300 : Int) < (nn : Int) := by omega
  have hcb : ¬ (1000 : Int) < (tn : Int) := by omega
  have hcc : ¬ (40 : Int) < (yn : Int) := by omega
  have cna : ((w.alloc (.cells (i.map (Value.int .u8)).toArray 23 (0, 0))).alloc (.cells (sideC p c d (.slice na nn nc)).toArray 28 (0, 0))).cell? ⟨w.heap.size + 1, 33 + 32, none⟩ = some (.slice na nn nc) := sideC_nodes' hc hd Ks.out
  go_enter Tryd.func3, Tryd.ntmps3
  go_wp2_with (first
     | (with_reducible show wpList _ _ _ (⟨some 37, _, _, _, _, _⟩ :: _) _ _; refine wpList_load_blk rfl 23 _ rfl (w.heap.size) rfl _ 23 Ki.out _ Tryd.underlying23 rfl 32 size_digest hi.size ?_)
     | (with_reducible show wpList _ _ _ (⟨some 38, _, _, _, _, _⟩ :: _) _ _; refine wpList_load_blk rfl 28 _ rfl (w.heap.size + 1) rfl _ 28 Ks.out _ Tryd.underlying28 rfl 66 size_side (sideC_size hc hd) ?_))
  clear cna
  refine (CT _ KN.out (Htab.out.below Hb.out)).mono ?_
  rintro e w1 ⟨vA, rfl, ⟨aA, nA, cA, rfl, htA⟩, bw1⟩
  have HBw1 := hid (Below.on Hb.out bw1)
  have hsw1 := HBw1.out.size
  have Kiw1 := hid (Ki.out.below bw1)
  have Ksw1 := hid (Ks.out.below bw1)
  have KNw1 := hid (KN.out.below bw1)
  have KTw1 := hid (KT.out.below bw1)
  have KWw1 := hid (KW.out.below bw1)
  clear bw1
  have KAw1 := hid htA
  obtain rfl : nA = 0 := htA.length.symm
  clear htA
  have cna : w1.cell? ⟨w.heap.size + 1, 33 + 32, none⟩ = some (.slice na nn nc) := sideC_nodes' hc hd Ksw1.out
  go_wp2_with (with_reducible show wpList _ _ _ (⟨some 42, _, _, _, _, _⟩ :: _) _ _; refine wpList_load_mid rfl 23 _ rfl (w.heap.size + 1) 33 rfl _ _ (sideC_known hc Ksw1.out) Tryd.underlying23 rfl (by rw [List.length_map, hd.len]; exact size_digest) ?_)
  clear cna
  refine (CW _).mono ?_
  rintro e w2 ⟨rfl, bw2⟩
  have HBw2 := hid (Below.on HBw1.out bw2)
  have hsw2 := HBw2.out.size
  have Kiw2 := hid (Kiw1.out.below bw2)
  have Ksw2 := hid (Ksw1.out.below bw2)
  have KNw2 := hid (KNw1.out.below bw2)
  have KTw2 := hid (KTw1.out.below bw2)
  have KWw2 := hid (KWw1.out.below bw2)
  have KAw2 := hid (KAw1.out.below bw2)
  clear bw2
  go_wp2_with fail
  refine (CX _ KTw2.out KWw2.out (Htab.out.below HBw2.out)).mono ?_
  rintro e w3 ⟨vB, rfl, ⟨aB, nB, cB, rfl, htB⟩, bw3⟩
  have HBw3 := hid (Below.on HBw2.out bw3)
  have hsw3 := HBw3.out.size
  have Kiw3 := hid (Kiw2.out.below bw3)
  have Ksw3 := hid (Ksw2.out.below bw3)
  have KNw3 := hid (KNw2.out.below bw3)
  have KTw3 := hid (KTw2.out.below bw3)
  have KWw3 := hid (KWw2.out.below bw3)
  have KAw3 := hid (KAw2.out.below bw3)
  clear bw3
  have KBw3 := hid htB
  obtain rfl : nB = 0 := htB.length.symm
  clear htB
  go_wp2_with (with_reducible show wpList _ _ _ (⟨some 71, _, _, _, _, _⟩ :: _) _ _; refine wpList_load_blk rfl 23 _ rfl (w.heap.size) rfl _ 23 Kiw3.out _ Tryd.underlying23 rfl 32 size_digest hi.size ?_)
  refine (CG _ KWw3.out (Htab.out.below HBw3.out)).mono ?_
  rintro e w4 ⟨vC, rfl, ⟨aC, nC, cC, rfl, htC⟩, bw4⟩
  have HBw4 := hid (Below.on HBw3.out bw4)
  have hsw4 := HBw4.out.size
  have Kiw4 := hid (Kiw3.out.below bw4)
  have Ksw4 := hid (Ksw3.out.below bw4)
  have KNw4 := hid (KNw3.out.below bw4)
  have KTw4 := hid (KTw3.out.below bw4)
  have KWw4 := hid (KWw3.out.below bw4)
  have KAw4 := hid (KAw3.out.below bw4)
  have KBw4 := hid (KBw3.out.below bw4)
  clear bw4
  have KCw4 := hid htC
  obtain rfl : nC = 0 := htC.length.symm
  clear htC
  go_wp2_with fail
  refine (knows23 _ (Htab.out.below HBw4.out)).mono ?_
  rintro e w5 ⟨rfl, bw5⟩
  have HBw5 := hid (Below.on HBw4.out bw5)
  have hsw5 := HBw5.out.size
  have Kiw5 := hid (Kiw4.out.below bw5)
  have Ksw5 := hid (Ksw4.out.below bw5)
  have KNw5 := hid (KNw4.out.below bw5)
  have KTw5 := hid (KTw4.out.below bw5)
  have KWw5 := hid (KWw4.out.below bw5)
  have KAw5 := hid (KAw4.out.below bw5)
  have KBw5 := hid (KBw4.out.below bw5)
  have KCw5 := hid (KCw4.out.below bw5)
  clear bw5
  go_wp2_with fail
  go_returns
  exact ⟨by first | rfl | simp, HBw5.out⟩
set_option maxHeartbeats 4000000 in
theorem extrails_u_far (i c d t : List Int) (p : Bool) (na ta ya : Option Addr) (nn nc tn tc yn yc : Nat) (m n : Int) (ns ds : List (List Int))  (w : World) (hi : Dg i) (hc : Dg c) (hd : Dg d) (hN : DigsAt w na nn nc ns) (hT : TextAt w ta tn tc t) (hW : DigsAt w ya yn yc ds) (tab : ShaTab w) (hb1 : nn ≤ 300) (hb2 : tn ≤ 1000) (hb3 : yn ≤ 40) (q1 : ¬ n < 1) (q2 : ¬ 200 < n) (q3 : ¬ m < 0) (q4 : n < m)
    (CT : ∀ W : World, DigsAt W na nn nc ns → ShaTab W → Calls Tryd.prog 10 #[.agg (i.map (Value.int .u8)).toArray, .agg (sideC p c d (.slice na nn nc)).toArray] W fun e w' => ∃ v, e = .returned v ∧ TextsV [] v w' ∧ Below W.heap.size W w')
    (CW : ∀ W : World, Calls Tryd.prog 11 #[.agg (d.map (Value.int .u8)).toArray, .slice na nn nc] W fun e w' => e = .returned (.bool false) ∧ Below W.heap.size W w')
    (CX : ∀ W : World, TextAt W ta tn tc t → DigsAt W ya yn yc ds → ShaTab W → Calls Tryd.prog 14 #[.int .i64 n, .int .i64 m, .slice ta tn tc, .slice ya yn yc] W fun e w' => ∃ v, e = .returned v ∧ TextsV [] v w' ∧ Below W.heap.size W w')
    (CG : ∀ W : World, DigsAt W ya yn yc ds → ShaTab W → Calls Tryd.prog 15 #[.agg (i.map (Value.int .u8)).toArray, .int .i64 m, .int .i64 n, .slice ya yn yc] W fun e w' => ∃ v, e = .returned v ∧ TextsV [] v w' ∧ Below W.heap.size W w') :
    Calls Tryd.prog 3 #[.agg (i.map (Value.int .u8)).toArray, .agg (sideC p c d (.slice na nn nc)).toArray, .int .i64 m, .int .i64 n, .slice ta tn tc, .slice ya yn yc] w fun e' w' => e' = .returned (.bool true) ∧ Below w.heap.size w w' := by
  have b1 := (Below.refl w.heap.size w).alloc (Nat.le_refl _) (.cells (i.map (Value.int .u8)).toArray 23 (0, 0))
  have b2 := b1.alloc b1.size (.cells (sideC p c d (.slice na nn nc)).toArray 28 (0, 0))
  have Ki := hid ((Blk.new (w := w) (n := w.heap.size) rfl (i.map (Value.int .u8)).toArray 23).old (.cells (sideC p c d (.slice na nn nc)).toArray 28 (0, 0)))
  have Ks := hid (Blk.new (w := (w.alloc (.cells (i.map (Value.int .u8)).toArray 23 (0, 0)))) (n := w.heap.size + 1) (by simp only [World.size_alloc]) (sideC p c d (.slice na nn nc)).toArray 28)
  have Hb := hid b2
  have hbz := b2.size
  have Hbs := hid (show w.heap.size + 1 + 1 = ((w.alloc (.cells (i.map (Value.int .u8)).toArray 23 (0, 0))).alloc (.cells (sideC p c d (.slice na nn nc)).toArray 28 (0, 0))).heap.size by simp only [World.size_alloc])
  have Htab := hid tab
  clear b1 b2 tab 
  have KN := hid (hN.below Hb.out)
  have KT := hid (hT.below Hb.out)
  have KW := hid (hW.below Hb.out)
  clear hN hT hW
  have hca : ¬ (300 : Int) < (nn : Int) := by omega
  have hcb : ¬ (1000 : Int) < (tn : Int) := by omega
  have hcc : ¬ (40 : Int) < (yn : Int) := by omega
  have cna : ((w.alloc (.cells (i.map (Value.int .u8)).toArray 23 (0, 0))).alloc (.cells (sideC p c d (.slice na nn nc)).toArray 28 (0, 0))).cell? ⟨w.heap.size + 1, 33 + 32, none⟩ = some (.slice na nn nc) := sideC_nodes' hc hd Ks.out
  go_enter Tryd.func3, Tryd.ntmps3
  go_wp2_with (first
     | (with_reducible show wpList _ _ _ (⟨some 37, _, _, _, _, _⟩ :: _) _ _; refine wpList_load_blk rfl 23 _ rfl (w.heap.size) rfl _ 23 Ki.out _ Tryd.underlying23 rfl 32 size_digest hi.size ?_)
     | (with_reducible show wpList _ _ _ (⟨some 38, _, _, _, _, _⟩ :: _) _ _; refine wpList_load_blk rfl 28 _ rfl (w.heap.size + 1) rfl _ 28 Ks.out _ Tryd.underlying28 rfl 66 size_side (sideC_size hc hd) ?_))
  clear cna
  refine (CT _ KN.out (Htab.out.below Hb.out)).mono ?_
  rintro e w1 ⟨vA, rfl, ⟨aA, nA, cA, rfl, htA⟩, bw1⟩
  have HBw1 := hid (Below.on Hb.out bw1)
  have hsw1 := HBw1.out.size
  have Kiw1 := hid (Ki.out.below bw1)
  have Ksw1 := hid (Ks.out.below bw1)
  have KNw1 := hid (KN.out.below bw1)
  have KTw1 := hid (KT.out.below bw1)
  have KWw1 := hid (KW.out.below bw1)
  clear bw1
  have KAw1 := hid htA
  obtain rfl : nA = 0 := htA.length.symm
  clear htA
  have cna : w1.cell? ⟨w.heap.size + 1, 33 + 32, none⟩ = some (.slice na nn nc) := sideC_nodes' hc hd Ksw1.out
  go_wp2_with (with_reducible show wpList _ _ _ (⟨some 42, _, _, _, _, _⟩ :: _) _ _; refine wpList_load_mid rfl 23 _ rfl (w.heap.size + 1) 33 rfl _ _ (sideC_known hc Ksw1.out) Tryd.underlying23 rfl (by rw [List.length_map, hd.len]; exact size_digest) ?_)
  clear cna
  refine (CW _).mono ?_
  rintro e w2 ⟨rfl, bw2⟩
  have HBw2 := hid (Below.on HBw1.out bw2)
  have hsw2 := HBw2.out.size
  have Kiw2 := hid (Kiw1.out.below bw2)
  have Ksw2 := hid (Ksw1.out.below bw2)
  have KNw2 := hid (KNw1.out.below bw2)
  have KTw2 := hid (KTw1.out.below bw2)
  have KWw2 := hid (KWw1.out.below bw2)
  have KAw2 := hid (KAw1.out.below bw2)
  clear bw2
  go_wp2_with fail
  refine (CX _ KTw2.out KWw2.out (Htab.out.below HBw2.out)).mono ?_
  rintro e w3 ⟨vB, rfl, ⟨aB, nB, cB, rfl, htB⟩, bw3⟩
  have HBw3 := hid (Below.on HBw2.out bw3)
  have hsw3 := HBw3.out.size
  have Kiw3 := hid (Kiw2.out.below bw3)
  have Ksw3 := hid (Ksw2.out.below bw3)
  have KNw3 := hid (KNw2.out.below bw3)
  have KTw3 := hid (KTw2.out.below bw3)
  have KWw3 := hid (KWw2.out.below bw3)
  have KAw3 := hid (KAw2.out.below bw3)
  clear bw3
  have KBw3 := hid htB
  obtain rfl : nB = 0 := htB.length.symm
  clear htB
  go_wp2_with (with_reducible show wpList _ _ _ (⟨some 71, _, _, _, _, _⟩ :: _) _ _; refine wpList_load_blk rfl 23 _ rfl (w.heap.size) rfl _ 23 Kiw3.out _ Tryd.underlying23 rfl 32 size_digest hi.size ?_)
  refine (CG _ KWw3.out (Htab.out.below HBw3.out)).mono ?_
  rintro e w4 ⟨vC, rfl, ⟨aC, nC, cC, rfl, htC⟩, bw4⟩
  have HBw4 := hid (Below.on HBw3.out bw4)
  have hsw4 := HBw4.out.size
  have Kiw4 := hid (Kiw3.out.below bw4)
  have Ksw4 := hid (Ksw3.out.below bw4)
  have KNw4 := hid (KNw3.out.below bw4)
  have KTw4 := hid (KTw3.out.below bw4)
  have KWw4 := hid (KWw3.out.below bw4)
  have KAw4 := hid (KAw3.out.below bw4)
  have KBw4 := hid (KBw3.out.below bw4)
  clear bw4
  have KCw4 := hid htC
  obtain rfl : nC = 0 := htC.length.symm
  clear htC
  go_wp2_with fail
  refine (knows23 _ (Htab.out.below HBw4.out)).mono ?_
  rintro e w5 ⟨rfl, bw5⟩
  have HBw5 := hid (Below.on HBw4.out bw5)
  have hsw5 := HBw5.out.size
  have Kiw5 := hid (Kiw4.out.below bw5)
  have Ksw5 := hid (Ksw4.out.below bw5)
  have KNw5 := hid (KNw4.out.below bw5)
  have KTw5 := hid (KTw4.out.below bw5)
  have KWw5 := hid (KWw4.out.below bw5)
  have KAw5 := hid (KAw4.out.below bw5)
  have KBw5 := hid (KBw4.out.below bw5)
  have KCw5 := hid (KCw4.out.below bw5)
  clear bw5
  go_wp2_with fail
  go_returns
  exact ⟨by first | rfl | simp, HBw5.out⟩
set_option maxHeartbeats 4000000 in
theorem extrails_u_eqy (i c d t : List Int) (p : Bool) (na ta ya : Option Addr) (nn nc tn tc yn yc : Nat) (m n : Int) (ns ds : List (List Int)) (C : List (List Int)) (w : World) (hi : Dg i) (hc : Dg c) (hd : Dg d) (hN : DigsAt w na nn nc ns) (hT : TextAt w ta tn tc t) (hW : DigsAt w ya yn yc ds) (tab : ShaTab w) (hb1 : nn ≤ 300) (hb2 : tn ≤ 1000) (hb3 : yn ≤ 40) (q1 : ¬ n < 1) (q2 : ¬ 200 < n) (q3 : ¬ m < 0) (q4 : ¬ n < m) (he : m = n)
    (CT : ∀ W : World, DigsAt W na nn nc ns → ShaTab W → Calls Tryd.prog 10 #[.agg (i.map (Value.int .u8)).toArray, .agg (sideC p c d (.slice na nn nc)).toArray] W fun e w' => ∃ v, e = .returned v ∧ TextsV [] v w' ∧ Below W.heap.size W w')
    (CW : ∀ W : World, Calls Tryd.prog 11 #[.agg (d.map (Value.int .u8)).toArray, .slice na nn nc] W fun e w' => e = .returned (.bool false) ∧ Below W.heap.size W w')
    (CX : ∀ W : World, TextAt W ta tn tc t → DigsAt W ya yn yc ds → ShaTab W → Calls Tryd.prog 14 #[.int .i64 n, .int .i64 m, .slice ta tn tc, .slice ya yn yc] W fun e w' => ∃ v, e = .returned v ∧ TextsV [] v w' ∧ Below W.heap.size W w')
    (CG : ∀ W : World, DigsAt W ya yn yc ds → ShaTab W → Calls Tryd.prog 15 #[.agg (i.map (Value.int .u8)).toArray, .int .i64 m, .int .i64 n, .slice ya yn yc] W fun e w' => ∃ v, e = .returned v ∧ TextsV C v w' ∧ Below W.heap.size W w')
    (CGR : ∀ W : World, DigsAt W ya yn yc ds → Calls Tryd.prog 17 #[.agg (i.map (Value.int .u8)).toArray, .int .i64 m, .int .i64 n, .bool false, .slice ya yn yc] W fun e w' => ∃ (v : Value) (X : List Int), e = .returned (.tuple #[v, .agg (X.map (Value.int .u8)).toArray, .bool true]) ∧ Dg X ∧ TextsV C v w' ∧ Below W.heap.size W w') :
    Calls Tryd.prog 3 #[.agg (i.map (Value.int .u8)).toArray, .agg (sideC p c d (.slice na nn nc)).toArray, .int .i64 m, .int .i64 n, .slice ta tn tc, .slice ya yn yc] w fun e' w' => e' = .returned (.bool true) ∧ Below w.heap.size w w' := by
  have b1 := (Below.refl w.heap.size w).alloc (Nat.le_refl _) (.cells (i.map (Value.int .u8)).toArray 23 (0, 0))
  have b2 := b1.alloc b1.size (.cells (sideC p c d (.slice na nn nc)).toArray 28 (0, 0))
  have Ki := hid ((Blk.new (w := w) (n := w.heap.size) rfl (i.map (Value.int .u8)).toArray 23).old (.cells (sideC p c d (.slice na nn nc)).toArray 28 (0, 0)))
  have Ks := hid (Blk.new (w := (w.alloc (.cells (i.map (Value.int .u8)).toArray 23 (0, 0)))) (n := w.heap.size + 1) (by simp only [World.size_alloc]) (sideC p c d (.slice na nn nc)).toArray 28)
  have Hb := hid b2
  have hbz := b2.size
  have Hbs := hid (show w.heap.size + 1 + 1 = ((w.alloc (.cells (i.map (Value.int .u8)).toArray 23 (0, 0))).alloc (.cells (sideC p c d (.slice na nn nc)).toArray 28 (0, 0))).heap.size by simp only [World.size_alloc])
  have Htab := hid tab
  clear b1 b2 tab 
  have KN := hid (hN.below Hb.out)
  have KT := hid (hT.below Hb.out)
  have KW := hid (hW.below Hb.out)
  clear hN hT hW
  have hca : ¬ (300 : Int) < (nn : Int) := by omega
  have hcb : ¬ (1000 : Int) < (tn : Int) := by omega
  have hcc : ¬ (40 : Int) < (yn : Int) := by omega
  have qe : (m == n) = true := by simp [he]
  have qz : (m == 0) = false := by simp; omega
  clear he
  have cna : ((w.alloc (.cells (i.map (Value.int .u8)).toArray 23 (0, 0))).alloc (.cells (sideC p c d (.slice na nn nc)).toArray 28 (0, 0))).cell? ⟨w.heap.size + 1, 33 + 32, none⟩ = some (.slice na nn nc) := sideC_nodes' hc hd Ks.out
  go_enter Tryd.func3, Tryd.ntmps3
  go_wp2_with (first
     | (with_reducible show wpList _ _ _ (⟨some 37, _, _, _, _, _⟩ :: _) _ _; refine wpList_load_blk rfl 23 _ rfl (w.heap.size) rfl _ 23 Ki.out _ Tryd.underlying23 rfl 32 size_digest hi.size ?_)
     | (with_reducible show wpList _ _ _ (⟨some 38, _, _, _, _, _⟩ :: _) _ _; refine wpList_load_blk rfl 28 _ rfl (w.heap.size + 1) rfl _ 28 Ks.out _ Tryd.underlying28 rfl 66 size_side (sideC_size hc hd) ?_))
  clear cna
  refine (CT _ KN.out (Htab.out.below Hb.out)).mono ?_
  rintro e w1 ⟨vA, rfl, ⟨aA, nA, cA, rfl, htA⟩, bw1⟩
  have HBw1 := hid (Below.on Hb.out bw1)
  have hsw1 := HBw1.out.size
  have Kiw1 := hid (Ki.out.below bw1)
  have Ksw1 := hid (Ks.out.below bw1)
  have KNw1 := hid (KN.out.below bw1)
  have KTw1 := hid (KT.out.below bw1)
  have KWw1 := hid (KW.out.below bw1)
  clear bw1
  have KAw1 := hid htA
  obtain rfl : nA = 0 := htA.length.symm
  clear htA
  have cna : w1.cell? ⟨w.heap.size + 1, 33 + 32, none⟩ = some (.slice na nn nc) := sideC_nodes' hc hd Ksw1.out
  go_wp2_with (with_reducible show wpList _ _ _ (⟨some 42, _, _, _, _, _⟩ :: _) _ _; refine wpList_load_mid rfl 23 _ rfl (w.heap.size + 1) 33 rfl _ _ (sideC_known hc Ksw1.out) Tryd.underlying23 rfl (by rw [List.length_map, hd.len]; exact size_digest) ?_)
  clear cna
  refine (CW _).mono ?_
  rintro e w2 ⟨rfl, bw2⟩
  have HBw2 := hid (Below.on HBw1.out bw2)
  have hsw2 := HBw2.out.size
  have Kiw2 := hid (Kiw1.out.below bw2)
  have Ksw2 := hid (Ksw1.out.below bw2)
  have KNw2 := hid (KNw1.out.below bw2)
  have KTw2 := hid (KTw1.out.below bw2)
  have KWw2 := hid (KWw1.out.below bw2)
  have KAw2 := hid (KAw1.out.below bw2)
  clear bw2
  go_wp2_with fail
  refine (CX _ KTw2.out KWw2.out (Htab.out.below HBw2.out)).mono ?_
  rintro e w3 ⟨vB, rfl, ⟨aB, nB, cB, rfl, htB⟩, bw3⟩
  have HBw3 := hid (Below.on HBw2.out bw3)
  have hsw3 := HBw3.out.size
  have Kiw3 := hid (Kiw2.out.below bw3)
  have Ksw3 := hid (Ksw2.out.below bw3)
  have KNw3 := hid (KNw2.out.below bw3)
  have KTw3 := hid (KTw2.out.below bw3)
  have KWw3 := hid (KWw2.out.below bw3)
  have KAw3 := hid (KAw2.out.below bw3)
  clear bw3
  have KBw3 := hid htB
  obtain rfl : nB = 0 := htB.length.symm
  clear htB
  go_wp2_with (with_reducible show wpList _ _ _ (⟨some 71, _, _, _, _, _⟩ :: _) _ _; refine wpList_load_blk rfl 23 _ rfl (w.heap.size) rfl _ 23 Kiw3.out _ Tryd.underlying23 rfl 32 size_digest hi.size ?_)
  refine (CG _ KWw3.out (Htab.out.below HBw3.out)).mono ?_
  rintro e w4 ⟨vC, rfl, ⟨aC, nC, cC, rfl, htC⟩, bw4⟩
  have HBw4 := hid (Below.on HBw3.out bw4)
  have hsw4 := HBw4.out.size
  have Kiw4 := hid (Kiw3.out.below bw4)
  have Ksw4 := hid (Ksw3.out.below bw4)
  have KNw4 := hid (KNw3.out.below bw4)
  have KTw4 := hid (KTw3.out.below bw4)
  have KWw4 := hid (KWw3.out.below bw4)
  have KAw4 := hid (KAw3.out.below bw4)
  have KBw4 := hid (KBw3.out.below bw4)
  clear bw4
  have KCw4 := hid htC
  clear htC
  go_wp2_with (with_reducible show wpList _ _ _ (⟨some 141, _, _, _, _, _⟩ :: _) _ _; refine wpList_load_blk rfl 23 _ rfl (w.heap.size) rfl _ 23 Kiw4.out _ Tryd.underlying23 rfl 32 size_digest hi.size ?_)
  refine (CGR _ KWw4.out).mono ?_
  rintro e w5 ⟨vY, X, rfl, hX, ⟨aY, nY, cY, rfl, htY⟩, bw5⟩
  have HBw5 := hid (Below.on HBw4.out bw5)
  have hsw5 := HBw5.out.size
  have Kiw5 := hid (Kiw4.out.below bw5)
  have Ksw5 := hid (Ksw4.out.below bw5)
  have KNw5 := hid (KNw4.out.below bw5)
  have KTw5 := hid (KTw4.out.below bw5)
  have KWw5 := hid (KWw4.out.below bw5)
  have KAw5 := hid (KAw4.out.below bw5)
  have KBw5 := hid (KBw4.out.below bw5)
  have KCw5 := hid (KCw4.out.below bw5)
  clear bw5
  have KYw5 := hid htY
  obtain rfl : nC = nY := KCw5.out.length.symm.trans htY.length
  clear htY
  go_wp2_with (
        refine wpList_store_blk rfl 23 _ _ rfl (w5.heap.size) (X.map (Value.int .u8)).toArray rfl rfl _ 23 (Blk.new rfl (byteCells 32 []) _) 32 size_digest zsize hX.size (ints_one _ _) ?_
        intro w6 hbw6 hkw6
        have hw6 := hbw6.below ((Below.refl w5.heap.size w5).alloc (Nat.le_refl _) _) (by simp only [World.size_alloc]; omega) (Nat.le_refl _)
        have HBw6 := hid (Below.on HBw5.out hw6)
        have hsw6 := HBw6.out.size
        have Kiw6 := hid (Kiw5.out.below hw6)
        have hliw6 := Kiw5.out.lt
        have Ksw6 := hid (Ksw5.out.below hw6)
        have hlsw6 := Ksw5.out.lt
        have KNw6 := hid (KNw5.out.below hw6)
        have KTw6 := hid (KTw5.out.below hw6)
        have KWw6 := hid (KWw5.out.below hw6)
        have KAw6 := hid (KAw5.out.below hw6)
        have KBw6 := hid (KBw5.out.below hw6)
        have KCw6 := hid (KCw5.out.below hw6)
        have KYw6 := hid (KYw5.out.below hw6)
        have Kxw6 := hid hkw6
        have hfw6 : w.heap.size ≤ w5.heap.size := HBw5.out.size
        clear hbw6 hkw6 hw6)
  refine (refsameT_any aC aY nC cC cY C _ KCw6.out KYw6.out).mono ?_
  rintro e w7 ⟨rfl, bw7⟩
  have HBw7 := hid (Below.on HBw6.out bw7)
  have hsw7 := HBw7.out.size
  have Kiw7 := hid (Kiw6.out.below bw7)
  have Ksw7 := hid (Ksw6.out.below bw7)
  have KNw7 := hid (KNw6.out.below bw7)
  have KTw7 := hid (KTw6.out.below bw7)
  have KWw7 := hid (KWw6.out.below bw7)
  have KAw7 := hid (KAw6.out.below bw7)
  have KBw7 := hid (KBw6.out.below bw7)
  have KCw7 := hid (KCw6.out.below bw7)
  have KYw7 := hid (KYw6.out.below bw7)
  have Kxw7 := hid (Kxw6.out.below bw7)
  clear bw7
  go_wp2_with fail
  refine (knows23 _ (Htab.out.below HBw7.out)).mono ?_
  rintro e w8 ⟨rfl, bw8⟩
  have HBw8 := hid (Below.on HBw7.out bw8)
  have hsw8 := HBw8.out.size
  have Kiw8 := hid (Kiw7.out.below bw8)
  have Ksw8 := hid (Ksw7.out.below bw8)
  have KNw8 := hid (KNw7.out.below bw8)
  have KTw8 := hid (KTw7.out.below bw8)
  have KWw8 := hid (KWw7.out.below bw8)
  have KAw8 := hid (KAw7.out.below bw8)
  have KBw8 := hid (KBw7.out.below bw8)
  have KCw8 := hid (KCw7.out.below bw8)
  have KYw8 := hid (KYw7.out.below bw8)
  have Kxw8 := hid (Kxw7.out.below bw8)
  clear bw8
  go_wp2_with fail
  go_returns
  exact ⟨by first | rfl | simp, HBw8.out⟩
set_option maxHeartbeats 4000000 in
theorem extrails_u_eqn (i c d t : List Int) (p : Bool) (na ta ya : Option Addr) (nn nc tn tc yn yc : Nat) (m n : Int) (ns ds : List (List Int))  (w : World) (hi : Dg i) (hc : Dg c) (hd : Dg d) (hN : DigsAt w na nn nc ns) (hT : TextAt w ta tn tc t) (hW : DigsAt w ya yn yc ds) (tab : ShaTab w) (hb1 : nn ≤ 300) (hb2 : tn ≤ 1000) (hb3 : yn ≤ 40) (q1 : ¬ n < 1) (q2 : ¬ 200 < n) (q3 : ¬ m < 0) (q4 : ¬ n < m) (he : m = n)
    (CT : ∀ W : World, DigsAt W na nn nc ns → ShaTab W → Calls Tryd.prog 10 #[.agg (i.map (Value.int .u8)).toArray, .agg (sideC p c d (.slice na nn nc)).toArray] W fun e w' => ∃ v, e = .returned v ∧ TextsV [] v w' ∧ Below W.heap.size W w')
    (CW : ∀ W : World, Calls Tryd.prog 11 #[.agg (d.map (Value.int .u8)).toArray, .slice na nn nc] W fun e w' => e = .returned (.bool false) ∧ Below W.heap.size W w')
    (CX : ∀ W : World, TextAt W ta tn tc t → DigsAt W ya yn yc ds → ShaTab W → Calls Tryd.prog 14 #[.int .i64 n, .int .i64 m, .slice ta tn tc, .slice ya yn yc] W fun e w' => ∃ v, e = .returned v ∧ TextsV [] v w' ∧ Below W.heap.size W w')
    (CG : ∀ W : World, DigsAt W ya yn yc ds → ShaTab W → Calls Tryd.prog 15 #[.agg (i.map (Value.int .u8)).toArray, .int .i64 m, .int .i64 n, .slice ya yn yc] W fun e w' => ∃ v, e = .returned v ∧ TextsV [] v w' ∧ Below W.heap.size W w')
    (CGR : ∀ W : World, DigsAt W ya yn yc ds → Calls Tryd.prog 17 #[.agg (i.map (Value.int .u8)).toArray, .int .i64 m, .int .i64 n, .bool false, .slice ya yn yc] W fun e w' => ∃ (v : Value) (X : List Int), e = .returned (.tuple #[v, .agg (X.map (Value.int .u8)).toArray, .bool false]) ∧ Dg X ∧ Below W.heap.size W w') :
    Calls Tryd.prog 3 #[.agg (i.map (Value.int .u8)).toArray, .agg (sideC p c d (.slice na nn nc)).toArray, .int .i64 m, .int .i64 n, .slice ta tn tc, .slice ya yn yc] w fun e' w' => e' = .returned (.bool true) ∧ Below w.heap.size w w' := by
  have b1 := (Below.refl w.heap.size w).alloc (Nat.le_refl _) (.cells (i.map (Value.int .u8)).toArray 23 (0, 0))
  have b2 := b1.alloc b1.size (.cells (sideC p c d (.slice na nn nc)).toArray 28 (0, 0))
  have Ki := hid ((Blk.new (w := w) (n := w.heap.size) rfl (i.map (Value.int .u8)).toArray 23).old (.cells (sideC p c d (.slice na nn nc)).toArray 28 (0, 0)))
  have Ks := hid (Blk.new (w := (w.alloc (.cells (i.map (Value.int .u8)).toArray 23 (0, 0)))) (n := w.heap.size + 1) (by simp only [World.size_alloc]) (sideC p c d (.slice na nn nc)).toArray 28)
  have Hb := hid b2
  have hbz := b2.size
  have Hbs := hid (show w.heap.size + 1 + 1 = ((w.alloc (.cells (i.map (Value.int .u8)).toArray 23 (0, 0))).alloc (.cells (sideC p c d (.slice na nn nc)).toArray 28 (0, 0))).heap.size by simp only [World.size_alloc])
  have Htab := hid tab
  clear b1 b2 tab 
  have KN := hid (hN.below Hb.out)
  have KT := hid (hT.below Hb.out)
  have KW := hid (hW.below Hb.out)
  clear hN hT hW
  have hca : ¬ (300 : Int) < (nn : Int) := by omega
  have hcb : ¬ (1000 : Int) < (tn : Int) := by omega
  have hcc : ¬ (40 : Int) < (yn : Int) := by omega
  have qe : (m == n) = true := by simp [he]
  have qz : (m == 0) = false := by simp; omega
  clear he
  have cna : ((w.alloc (.cells (i.map (Value.int .u8)).toArray 23 (0, 0))).alloc (.cells (sideC p c d (.slice na nn nc)).toArray 28 (0, 0))).cell? ⟨w.heap.size + 1, 33 + 32, none⟩ = some (.slice na nn nc) := sideC_nodes' hc hd Ks.out
  go_enter Tryd.func3, Tryd.ntmps3
  go_wp2_with (first
     | (with_reducible show wpList _ _ _ (⟨some 37, _, _, _, _, _⟩ :: _) _ _; refine wpList_load_blk rfl 23 _ rfl (w.heap.size) rfl _ 23 Ki.out _ Tryd.underlying23 rfl 32 size_digest hi.size ?_)
     | (with_reducible show wpList _ _ _ (⟨some 38, _, _, _, _, _⟩ :: _) _ _; refine wpList_load_blk rfl 28 _ rfl (w.heap.size + 1) rfl _ 28 Ks.out _ Tryd.underlying28 rfl 66 size_side (sideC_size hc hd) ?_))
  clear cna
  refine (CT _ KN.out (Htab.out.below Hb.out)).mono ?_
  rintro e w1 ⟨vA, rfl, ⟨aA, nA, cA, rfl, htA⟩, bw1⟩
  have HBw1 := hid (Below.on Hb.out bw1)
  have hsw1 := HBw1.out.size
  have Kiw1 := hid (Ki.out.below bw1)
  have Ksw1 := hid (Ks.out.below bw1)
  have KNw1 := hid (KN.out.below bw1)
  have KTw1 := hid (KT.out.below bw1)
  have KWw1 := hid (KW.out.below bw1)
  clear bw1
  have KAw1 := hid htA
  obtain rfl : nA = 0 := htA.length.symm
  clear htA
  have cna : w1.cell? ⟨w.heap.size + 1, 33 + 32, none⟩ = some (.slice na nn nc) := sideC_nodes' hc hd Ksw1.out
  go_wp2_with (with_reducible show wpList _ _ _ (⟨some 42, _, _, _, _, _⟩ :: _) _ _; refine wpList_load_mid rfl 23 _ rfl (w.heap.size + 1) 33 rfl _ _ (sideC_known hc Ksw1.out) Tryd.underlying23 rfl (by rw [List.length_map, hd.len]; exact size_digest) ?_)
  clear cna
  refine (CW _).mono ?_
  rintro e w2 ⟨rfl, bw2⟩
  have HBw2 := hid (Below.on HBw1.out bw2)
  have hsw2 := HBw2.out.size
  have Kiw2 := hid (Kiw1.out.below bw2)
  have Ksw2 := hid (Ksw1.out.below bw2)
  have KNw2 := hid (KNw1.out.below bw2)
  have KTw2 := hid (KTw1.out.below bw2)
  have KWw2 := hid (KWw1.out.below bw2)
  have KAw2 := hid (KAw1.out.below bw2)
  clear bw2
  go_wp2_with fail
  refine (CX _ KTw2.out KWw2.out (Htab.out.below HBw2.out)).mono ?_
  rintro e w3 ⟨vB, rfl, ⟨aB, nB, cB, rfl, htB⟩, bw3⟩
  have HBw3 := hid (Below.on HBw2.out bw3)
  have hsw3 := HBw3.out.size
  have Kiw3 := hid (Kiw2.out.below bw3)
  have Ksw3 := hid (Ksw2.out.below bw3)
  have KNw3 := hid (KNw2.out.below bw3)
  have KTw3 := hid (KTw2.out.below bw3)
  have KWw3 := hid (KWw2.out.below bw3)
  have KAw3 := hid (KAw2.out.below bw3)
  clear bw3
  have KBw3 := hid htB
  obtain rfl : nB = 0 := htB.length.symm
  clear htB
  go_wp2_with (with_reducible show wpList _ _ _ (⟨some 71, _, _, _, _, _⟩ :: _) _ _; refine wpList_load_blk rfl 23 _ rfl (w.heap.size) rfl _ 23 Kiw3.out _ Tryd.underlying23 rfl 32 size_digest hi.size ?_)
  refine (CG _ KWw3.out (Htab.out.below HBw3.out)).mono ?_
  rintro e w4 ⟨vC, rfl, ⟨aC, nC, cC, rfl, htC⟩, bw4⟩
  have HBw4 := hid (Below.on HBw3.out bw4)
  have hsw4 := HBw4.out.size
  have Kiw4 := hid (Kiw3.out.below bw4)
  have Ksw4 := hid (Ksw3.out.below bw4)
  have KNw4 := hid (KNw3.out.below bw4)
  have KTw4 := hid (KTw3.out.below bw4)
  have KWw4 := hid (KWw3.out.below bw4)
  have KAw4 := hid (KAw3.out.below bw4)
  have KBw4 := hid (KBw3.out.below bw4)
  clear bw4
  have KCw4 := hid htC
  obtain rfl : nC = 0 := htC.length.symm
  clear htC
  go_wp2_with (with_reducible show wpList _ _ _ (⟨some 141, _, _, _, _, _⟩ :: _) _ _; refine wpList_load_blk rfl 23 _ rfl (w.heap.size) rfl _ 23 Kiw4.out _ Tryd.underlying23 rfl 32 size_digest hi.size ?_)
  refine (CGR _ KWw4.out).mono ?_
  rintro e w5 ⟨vY, X, rfl, hX, bw5⟩
  have HBw5 := hid (Below.on HBw4.out bw5)
  have hsw5 := HBw5.out.size
  have Kiw5 := hid (Kiw4.out.below bw5)
  have Ksw5 := hid (Ksw4.out.below bw5)
  have KNw5 := hid (KNw4.out.below bw5)
  have KTw5 := hid (KTw4.out.below bw5)
  have KWw5 := hid (KWw4.out.below bw5)
  have KAw5 := hid (KAw4.out.below bw5)
  have KBw5 := hid (KBw4.out.below bw5)
  have KCw5 := hid (KCw4.out.below bw5)
  clear bw5
  go_wp2_with (
        refine wpList_store_blk rfl 23 _ _ rfl (w5.heap.size) (X.map (Value.int .u8)).toArray rfl rfl _ 23 (Blk.new rfl (byteCells 32 []) _) 32 size_digest zsize hX.size (ints_one _ _) ?_
        intro w6 hbw6 hkw6
        have hw6 := hbw6.below ((Below.refl w5.heap.size w5).alloc (Nat.le_refl _) _) (by simp only [World.size_alloc]; omega) (Nat.le_refl _)
        have HBw6 := hid (Below.on HBw5.out hw6)
        have hsw6 := HBw6.out.size
        have Kiw6 := hid (Kiw5.out.below hw6)
        have hliw6 := Kiw5.out.lt
        have Ksw6 := hid (Ksw5.out.below hw6)
        have hlsw6 := Ksw5.out.lt
        have KNw6 := hid (KNw5.out.below hw6)
        have KTw6 := hid (KTw5.out.below hw6)
        have KWw6 := hid (KWw5.out.below hw6)
        have KAw6 := hid (KAw5.out.below hw6)
        have KBw6 := hid (KBw5.out.below hw6)
        have KCw6 := hid (KCw5.out.below hw6)
        have Kxw6 := hid hkw6
        have hfw6 : w.heap.size ≤ w5.heap.size := HBw5.out.size
        clear hbw6 hkw6 hw6)
  refine (knows23 _ (Htab.out.below HBw6.out)).mono ?_
  rintro e w7 ⟨rfl, bw7⟩
  have HBw7 := hid (Below.on HBw6.out bw7)
  have hsw7 := HBw7.out.size
  have Kiw7 := hid (Kiw6.out.below bw7)
  have Ksw7 := hid (Ksw6.out.below bw7)
  have KNw7 := hid (KNw6.out.below bw7)
  have KTw7 := hid (KTw6.out.below bw7)
  have KWw7 := hid (KWw6.out.below bw7)
  have KAw7 := hid (KAw6.out.below bw7)
  have KBw7 := hid (KBw6.out.below bw7)
  have KCw7 := hid (KCw6.out.below bw7)
  have Kxw7 := hid (Kxw6.out.below bw7)
  clear bw7
  go_wp2_with fail
  go_returns
  exact ⟨by first | rfl | simp, HBw7.out⟩
end Go.Proofs.YtkakoiaahgchmaaDoor
