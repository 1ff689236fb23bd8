/-
  Put together, as far as wanted: ExAJD ExAK.
-/
import Derived.Test.YtkakoiaahgchmaaDoorPT6
namespace Go.Proofs.YtkakoiaahgchmaaDoor
set_option maxRecDepth 100000
open Go.ChangeShapes Go.WideShapes Go.ChangeAt Go.RowKit
set_option maxHeartbeats 4000000 in
theorem extrails_u_neyz (i c d t : List Int) (p : Bool) (na ta ya : Option Addr) (nn nc tn tc yn yc : Nat) (m n : Int) (ns ds : List (List Int)) (B : List (List Int)) (w : World) (hi : Dg i) (hc : Dg c) (hd : Dg d) (hN : DigsAt w na nn nc ns) (hT : TextAt w ta tn tc t) (hW : DigsAt w ya yn yc ds) (tab : ShaTab w) (hb1 : nn ≤ 300) (hb2 : tn ≤ 1000) (hb3 : yn ≤ 40) (q1 : ¬ n < 1) (q2 : ¬ 200 < n) (q3 : ¬ m < 0) (q4 : ¬ n < m) (he : ¬ m = n) (hz : m = 0)
    (CT : ∀ W : World, DigsAt W na nn nc ns → ShaTab W → Calls Tryd.prog 10 #[.agg (i.map (Value.int .u8)).toArray, .agg (sideC p c d (.slice na nn nc)).toArray] W fun e w' => ∃ v, e = .returned v ∧ TextsV [] v w' ∧ Below W.heap.size W w')
    (CW : ∀ W : World, Calls Tryd.prog 11 #[.agg (d.map (Value.int .u8)).toArray, .slice na nn nc] W fun e w' => e = .returned (.bool false) ∧ Below W.heap.size W w')
    (CX : ∀ W : World, TextAt W ta tn tc t → DigsAt W ya yn yc ds → ShaTab W → Calls Tryd.prog 14 #[.int .i64 n, .int .i64 m, .slice ta tn tc, .slice ya yn yc] W fun e w' => ∃ v, e = .returned v ∧ TextsV B v w' ∧ Below W.heap.size W w')
    (CG : ∀ W : World, DigsAt W ya yn yc ds → ShaTab W → Calls Tryd.prog 15 #[.agg (i.map (Value.int .u8)).toArray, .int .i64 m, .int .i64 n, .slice ya yn yc] W fun e w' => ∃ v, e = .returned v ∧ TextsV [] v w' ∧ Below W.heap.size W w')
    (CXR : ∀ W : World, TextAt W ta tn tc t → DigsAt W ya yn yc ds → Calls Tryd.prog 16 #[.int .i64 n, .int .i64 m, .slice ta tn tc, .slice ya yn yc] W fun e w' => ∃ v, e = .returned (.tuple #[v, .bool true]) ∧ TextsV B v w' ∧ Below W.heap.size W w') :
    Calls Tryd.prog 3 #[.agg (i.map (Value.int .u8)).toArray, .agg (sideC p c d (.slice na nn nc)).toArray, .int .i64 m, .int .i64 n, .slice ta tn tc, .slice ya yn yc] w fun e' w' => e' = .returned (.bool true) ∧ Below w.heap.size w w' := by
  have b1 := (Below.refl w.heap.size w).alloc (Nat.le_refl _) (.cells (i.map (Value.int .u8)).toArray 23 (0, 0))
  have b2 := b1.alloc b1.size (.cells (sideC p c d (.slice na nn nc)).toArray 28 (0, 0))
  have Ki := hid ((Blk.new (w := w) (n := w.heap.size) rfl (i.map (Value.int .u8)).toArray 23).old (.cells (sideC p c d (.slice na nn nc)).toArray 28 (0, 0)))
  have Ks := hid (Blk.new (w := (w.alloc (.cells (i.map (Value.int .u8)).toArray 23 (0, 0)))) (n := w.heap.size + 1) (by simp only [World.size_alloc]) (sideC p c d (.slice na nn nc)).toArray 28)
  have Hb := hid b2
  have hbz := b2.size
  have Hbs := hid (show w.heap.size + 1 + 1 = ((w.alloc (.cells (i.map (Value.int .u8)).toArray 23 (0, 0))).alloc (.cells (sideC p c d (.slice na nn nc)).toArray 28 (0, 0))).heap.size by simp only [World.size_alloc])
  have Htab := hid tab
  clear b1 b2 tab 
  have KN := hid (hN.below Hb.out)
  have KT := hid (hT.below Hb.out)
  have KW := hid (hW.below Hb.out)
  clear hN hT hW
  have hca : ¬ (300 : Int) < (nn : Int) := by omega
  have hcb : ¬ (1000 : Int) < (tn : Int) := by omega
  have hcc : ¬ (40 : Int) < (yn : Int) := by omega
  have qe : (m == n) = false := by simp [he]
  have qz : (m == 0) = true := by simp [hz]
  clear he hz
  have cna : ((w.alloc (.cells (i.map (Value.int .u8)).toArray 23 (0, 0))).alloc (.cells (sideC p c d (.slice na nn nc)).toArray 28 (0, 0))).cell? ⟨w.heap.size + 1, 33 + 32, none⟩ = some (.slice na nn nc) := sideC_nodes' hc hd Ks.out
  go_enter Tryd.func3, Tryd.ntmps3
  go_wp2_with (first
     | (with_reducible show wpList _ _ _ (⟨some 37, _, _, _, _, _⟩ :: _) _ _; refine wpList_load_blk rfl 23 _ rfl (w.heap.size) rfl _ 23 Ki.out _ Tryd.underlying23 rfl 32 size_digest hi.size ?_)
     | (with_reducible show wpList _ _ _ (⟨some 38, _, _, _, _, _⟩ :: _) _ _; refine wpList_load_blk rfl 28 _ rfl (w.heap.size + 1) rfl _ 28 Ks.out _ Tryd.underlying28 rfl 66 size_side (sideC_size hc hd) ?_))
  clear cna
  refine (CT _ KN.out (Htab.out.below Hb.out)).mono ?_
  rintro e w1 ⟨vA, rfl, ⟨aA, nA, cA, rfl, htA⟩, bw1⟩
  have HBw1 := hid (Below.on Hb.out bw1)
  have hsw1 := HBw1.out.size
  have Kiw1 := hid (Ki.out.below bw1)
  have Ksw1 := hid (Ks.out.below bw1)
  have KNw1 := hid (KN.out.below bw1)
  have KTw1 := hid (KT.out.below bw1)
  have KWw1 := hid (KW.out.below bw1)
  clear bw1
  have KAw1 := hid htA
  obtain rfl : nA = 0 := htA.length.symm
  clear htA
  have cna : w1.cell? ⟨w.heap.size + 1, 33 + 32, none⟩ = some (.slice na nn nc) := sideC_nodes' hc hd Ksw1.out
  go_wp2_with (with_reducible show wpList _ _ _ (⟨some 42, _, _, _, _, _⟩ :: _) _ _; refine wpList_load_mid rfl 23 _ rfl (w.heap.size + 1) 33 rfl _ _ (sideC_known hc Ksw1.out) Tryd.underlying23 rfl (by rw [List.length_map, hd.len]; exact size_digest) ?_)
  clear cna
  refine (CW _).mono ?_
  rintro e w2 ⟨rfl, bw2⟩
  have HBw2 := hid (Below.on HBw1.out bw2)
  have hsw2 := HBw2.out.size
  have Kiw2 := hid (Kiw1.out.below bw2)
  have Ksw2 := hid (Ksw1.out.below bw2)
  have KNw2 := hid (KNw1.out.below bw2)
  have KTw2 := hid (KTw1.out.below bw2)
  have KWw2 := hid (KWw1.out.below bw2)
  have KAw2 := hid (KAw1.out.below bw2)
  clear bw2
  go_wp2_with fail
  refine (CX _ KTw2.out KWw2.out (Htab.out.below HBw2.out)).mono ?_
  rintro e w3 ⟨vB, rfl, ⟨aB, nB, cB, rfl, htB⟩, bw3⟩
  have HBw3 := hid (Below.on HBw2.out bw3)
  have hsw3 := HBw3.out.size
  have Kiw3 := hid (Kiw2.out.below bw3)
  have Ksw3 := hid (Ksw2.out.below bw3)
  have KNw3 := hid (KNw2.out.below bw3)
  have KTw3 := hid (KTw2.out.below bw3)
  have KWw3 := hid (KWw2.out.below bw3)
  have KAw3 := hid (KAw2.out.below bw3)
  clear bw3
  have KBw3 := hid htB
  clear htB
  go_wp2_with (with_reducible show wpList _ _ _ (⟨some 71, _, _, _, _, _⟩ :: _) _ _; refine wpList_load_blk rfl 23 _ rfl (w.heap.size) rfl _ 23 Kiw3.out _ Tryd.underlying23 rfl 32 size_digest hi.size ?_)
  refine (CG _ KWw3.out (Htab.out.below HBw3.out)).mono ?_
  rintro e w4 ⟨vC, rfl, ⟨aC, nC, cC, rfl, htC⟩, bw4⟩
  have HBw4 := hid (Below.on HBw3.out bw4)
  have hsw4 := HBw4.out.size
  have Kiw4 := hid (Kiw3.out.below bw4)
  have Ksw4 := hid (Ksw3.out.below bw4)
  have KNw4 := hid (KNw3.out.below bw4)
  have KTw4 := hid (KTw3.out.below bw4)
  have KWw4 := hid (KWw3.out.below bw4)
  have KAw4 := hid (KAw3.out.below bw4)
  have KBw4 := hid (KBw3.out.below bw4)
  clear bw4
  have KCw4 := hid htC
  obtain rfl : nC = 0 := htC.length.symm
  clear htC
  go_wp2_with fail
  refine (CXR _ KTw4.out KWw4.out).mono ?_
  rintro e w5 ⟨vX, rfl, ⟨aX, nX, cX, rfl, htX⟩, bw5⟩
  have HBw5 := hid (Below.on HBw4.out bw5)
  have hsw5 := HBw5.out.size
  have Kiw5 := hid (Kiw4.out.below bw5)
  have Ksw5 := hid (Ksw4.out.below bw5)
  have KNw5 := hid (KNw4.out.below bw5)
  have KTw5 := hid (KTw4.out.below bw5)
  have KWw5 := hid (KWw4.out.below bw5)
  have KAw5 := hid (KAw4.out.below bw5)
  have KBw5 := hid (KBw4.out.below bw5)
  have KCw5 := hid (KCw4.out.below bw5)
  clear bw5
  have KXw5 := hid htX
  obtain rfl : nB = nX := KBw5.out.length.symm.trans htX.length
  clear htX
  go_wp2_with fail
  refine (refsameT_any aB aX nB cB cX B _ KBw5.out KXw5.out).mono ?_
  rintro e w6 ⟨rfl, bw6⟩
  have HBw6 := hid (Below.on HBw5.out bw6)
  have hsw6 := HBw6.out.size
  have Kiw6 := hid (Kiw5.out.below bw6)
  have Ksw6 := hid (Ksw5.out.below bw6)
  have KNw6 := hid (KNw5.out.below bw6)
  have KTw6 := hid (KTw5.out.below bw6)
  have KWw6 := hid (KWw5.out.below bw6)
  have KAw6 := hid (KAw5.out.below bw6)
  have KBw6 := hid (KBw5.out.below bw6)
  have KCw6 := hid (KCw5.out.below bw6)
  have KXw6 := hid (KXw5.out.below bw6)
  clear bw6
  go_wp2_with fail
  refine (knows23 _ (Htab.out.below HBw6.out)).mono ?_
  rintro e w7 ⟨rfl, bw7⟩
  have HBw7 := hid (Below.on HBw6.out bw7)
  have hsw7 := HBw7.out.size
  have Kiw7 := hid (Kiw6.out.below bw7)
  have Ksw7 := hid (Ksw6.out.below bw7)
  have KNw7 := hid (KNw6.out.below bw7)
  have KTw7 := hid (KTw6.out.below bw7)
  have KWw7 := hid (KWw6.out.below bw7)
  have KAw7 := hid (KAw6.out.below bw7)
  have KBw7 := hid (KBw6.out.below bw7)
  have KCw7 := hid (KCw6.out.below bw7)
  have KXw7 := hid (KXw6.out.below bw7)
  clear bw7
  go_wp2_with fail
  go_returns
  exact ⟨by first | rfl | simp, HBw7.out⟩
set_option maxHeartbeats 4000000 in
theorem extrails_u_neyy (i c d t : List Int) (p : Bool) (na ta ya : Option Addr) (nn nc tn tc yn yc : Nat) (m n : Int) (ns ds : List (List Int)) (B C : List (List Int)) (w : World) (hi : Dg i) (hc : Dg c) (hd : Dg d) (hN : DigsAt w na nn nc ns) (hT : TextAt w ta tn tc t) (hW : DigsAt w ya yn yc ds) (tab : ShaTab w) (hb1 : nn ≤ 300) (hb2 : tn ≤ 1000) (hb3 : yn ≤ 40) (q1 : ¬ n < 1) (q2 : ¬ 200 < n) (q3 : ¬ m < 0) (q4 : ¬ n < m) (he : ¬ m = n) (hz : ¬ m = 0)
    (CT : ∀ W : World, DigsAt W na nn nc ns → ShaTab W → Calls Tryd.prog 10 #[.agg (i.map (Value.int .u8)).toArray, .agg (sideC p c d (.slice na nn nc)).toArray] W fun e w' => ∃ v, e = .returned v ∧ TextsV [] v w' ∧ Below W.heap.size W w')
    (CW : ∀ W : World, Calls Tryd.prog 11 #[.agg (d.map (Value.int .u8)).toArray, .slice na nn nc] W fun e w' => e = .returned (.bool false) ∧ Below W.heap.size W w')
    (CX : ∀ W : World, TextAt W ta tn tc t → DigsAt W ya yn yc ds → ShaTab W → Calls Tryd.prog 14 #[.int .i64 n, .int .i64 m, .slice ta tn tc, .slice ya yn yc] W fun e w' => ∃ v, e = .returned v ∧ TextsV B v w' ∧ Below W.heap.size W w')
    (CG : ∀ W : World, DigsAt W ya yn yc ds → ShaTab W → Calls Tryd.prog 15 #[.agg (i.map (Value.int .u8)).toArray, .int .i64 m, .int .i64 n, .slice ya yn yc] W fun e w' => ∃ v, e = .returned v ∧ TextsV C v w' ∧ Below W.heap.size W w')
    (CXR : ∀ W : World, TextAt W ta tn tc t → DigsAt W ya yn yc ds → Calls Tryd.prog 16 #[.int .i64 n, .int .i64 m, .slice ta tn tc, .slice ya yn yc] W fun e w' => ∃ v, e = .returned (.tuple #[v, .bool true]) ∧ TextsV B v w' ∧ Below W.heap.size W w')
    (CGR : ∀ W : World, DigsAt W ya yn yc ds → Calls Tryd.prog 17 #[.agg (i.map (Value.int .u8)).toArray, .int .i64 m, .int .i64 n, .bool false, .slice ya yn yc] W fun e w' => ∃ (v : Value) (X : List Int), e = .returned (.tuple #[v, .agg (X.map (Value.int .u8)).toArray, .bool true]) ∧ Dg X ∧ TextsV C v w' ∧ Below W.heap.size W w') :
    Calls Tryd.prog 3 #[.agg (i.map (Value.int .u8)).toArray, .agg (sideC p c d (.slice na nn nc)).toArray, .int .i64 m, .int .i64 n, .slice ta tn tc, .slice ya yn yc] w fun e' w' => e' = .returned (.bool true) ∧ Below w.heap.size w w' := by
  have b1 := (Below.refl w.heap.size w).alloc (Nat.le_refl _) (.cells (i.map (Value.int .u8)).toArray 23 (0, 0))
  have b2 := b1.alloc b1.size (.cells (sideC p c d (.slice na nn nc)).toArray 28 (0, 0))
  have Ki := hid ((Blk.new (w := w) (n := w.heap.size) rfl (i.map (Value.int .u8)).toArray 23).old (.cells (sideC p c d (.slice na nn nc)).toArray 28 (0, 0)))
  have Ks := hid (Blk.new (w := (w.alloc (.cells (i.map (Value.int .u8)).toArray 23 (0, 0)))) (n := w.heap.size + 1) (by simp only [World.size_alloc]) (sideC p c d (.slice na nn nc)).toArray 28)
  have Hb := hid b2
  have hbz := b2.size
  have Hbs := hid (show w.heap.size + 1 + 1 = ((w.alloc (.cells (i.map (Value.int .u8)).toArray 23 (0, 0))).alloc (.cells (sideC p c d (.slice na nn nc)).toArray 28 (0, 0))).heap.size by simp only [World.size_alloc])
  have Htab := hid tab
  clear b1 b2 tab 
  have KN := hid (hN.below Hb.out)
  have KT := hid (hT.below Hb.out)
  have KW := hid (hW.below Hb.out)
  clear hN hT hW
  have hca : ¬ (300 : Int) < (nn : Int) := by omega
  have hcb : ¬ (1000 : Int) < (tn : Int) := by omega
  have hcc : ¬ (40 : Int) < (yn : Int) := by omega
  have qe : (m == n) = false := by simp [he]
  have qz : (m == 0) = false := by simp [hz]
  clear he hz
  have cna : ((w.alloc (.cells (i.map (Value.int .u8)).toArray 23 (0, 0))).alloc (.cells (sideC p c d (.slice na nn nc)).toArray 28 (0, 0))).cell? ⟨w.heap.size + 1, 33 + 32, none⟩ = some (.slice na nn nc) := sideC_nodes' hc hd Ks.out
  go_enter Tryd.func3, Tryd.ntmps3
  go_wp2_with (first
     | (with_reducible show wpList _ _ _ (⟨some 37, _, _, _, _, _⟩ :: _) _ _; refine wpList_load_blk rfl 23 _ rfl (w.heap.size) rfl _ 23 Ki.out _ Tryd.underlying23 rfl 32 size_digest hi.size ?_)
     | (with_reducible show wpList _ _ _ (⟨some 38, _, _, _, _, _⟩ :: _) _ _; refine wpList_load_blk rfl 28 _ rfl (w.heap.size + 1) rfl _ 28 Ks.out _ Tryd.underlying28 rfl 66 size_side (sideC_size hc hd) ?_))
  clear cna
  refine (CT _ KN.out (Htab.out.below Hb.out)).mono ?_
  rintro e w1 ⟨vA, rfl, ⟨aA, nA, cA, rfl, htA⟩, bw1⟩
  have HBw1 := hid (Below.on Hb.out bw1)
  have hsw1 := HBw1.out.size
  have Kiw1 := hid (Ki.out.below bw1)
  have Ksw1 := hid (Ks.out.below bw1)
  have KNw1 := hid (KN.out.below bw1)
  have KTw1 := hid (KT.out.below bw1)
  have KWw1 := hid (KW.out.below bw1)
  clear bw1
  have KAw1 := hid htA
  obtain rfl : nA = 0 := htA.length.symm
  clear htA
  have cna : w1.cell? ⟨w.heap.size + 1, 33 + 32, none⟩ = some (.slice na nn nc) := sideC_nodes' hc hd Ksw1.out
  go_wp2_with (with_reducible show wpList _ _ _ (⟨some 42, _, _, _, _, _⟩ :: _) _ _; refine wpList_load_mid rfl 23 _ rfl (w.heap.size + 1) 33 rfl _ _ (sideC_known hc Ksw1.out) Tryd.underlying23 rfl (by rw [List.length_map, hd.len]; exact size_digest) ?_)
  clear cna
  refine (CW _).mono ?_
  rintro e w2 ⟨rfl, bw2⟩
  have HBw2 := hid (Below.on HBw1.out bw2)
  have hsw2 := HBw2.out.size
  have Kiw2 := hid (Kiw1.out.below bw2)
  have Ksw2 := hid (Ksw1.out.below bw2)
  have KNw2 := hid (KNw1.out.below bw2)
  have KTw2 := hid (KTw1.out.below bw2)
  have KWw2 := hid (KWw1.out.below bw2)
  have KAw2 := hid (KAw1.out.below bw2)
  clear bw2
  go_wp2_with fail
  refine (CX _ KTw2.out KWw2.out (Htab.out.below HBw2.out)).mono ?_
  rintro e w3 ⟨vB, rfl, ⟨aB, nB, cB, rfl, htB⟩, bw3⟩
  have HBw3 := hid (Below.on HBw2.out bw3)
  have hsw3 := HBw3.out.size
  have Kiw3 := hid (Kiw2.out.below bw3)
  have Ksw3 := hid (Ksw2.out.below bw3)
  have KNw3 := hid (KNw2.out.below bw3)
  have KTw3 := hid (KTw2.out.below bw3)
  have KWw3 := hid (KWw2.out.below bw3)
  have KAw3 := hid (KAw2.out.below bw3)
  clear bw3
  have KBw3 := hid htB
  clear htB
  go_wp2_with (with_reducible show wpList _ _ _ (⟨some 71, _, _, _, _, _⟩ :: _) _ _; refine wpList_load_blk rfl 23 _ rfl (w.heap.size) rfl _ 23 Kiw3.out _ Tryd.underlying23 rfl 32 size_digest hi.size ?_)
  refine (CG _ KWw3.out (Htab.out.below HBw3.out)).mono ?_
  rintro e w4 ⟨vC, rfl, ⟨aC, nC, cC, rfl, htC⟩, bw4⟩
  have HBw4 := hid (Below.on HBw3.out bw4)
  have hsw4 := HBw4.out.size
  have Kiw4 := hid (Kiw3.out.below bw4)
  have Ksw4 := hid (Ksw3.out.below bw4)
  have KNw4 := hid (KNw3.out.below bw4)
  have KTw4 := hid (KTw3.out.below bw4)
  have KWw4 := hid (KWw3.out.below bw4)
  have KAw4 := hid (KAw3.out.below bw4)
  have KBw4 := hid (KBw3.out.below bw4)
  clear bw4
  have KCw4 := hid htC
  clear htC
  go_wp2_with fail
  refine (CXR _ KTw4.out KWw4.out).mono ?_
  rintro e w5 ⟨vX, rfl, ⟨aX, nX, cX, rfl, htX⟩, bw5⟩
  have HBw5 := hid (Below.on HBw4.out bw5)
  have hsw5 := HBw5.out.size
  have Kiw5 := hid (Kiw4.out.below bw5)
  have Ksw5 := hid (Ksw4.out.below bw5)
  have KNw5 := hid (KNw4.out.below bw5)
  have KTw5 := hid (KTw4.out.below bw5)
  have KWw5 := hid (KWw4.out.below bw5)
  have KAw5 := hid (KAw4.out.below bw5)
  have KBw5 := hid (KBw4.out.below bw5)
  have KCw5 := hid (KCw4.out.below bw5)
  clear bw5
  have KXw5 := hid htX
  obtain rfl : nB = nX := KBw5.out.length.symm.trans htX.length
  clear htX
  go_wp2_with fail
  refine (refsameT_any aB aX nB cB cX B _ KBw5.out KXw5.out).mono ?_
  rintro e w6 ⟨rfl, bw6⟩
  have HBw6 := hid (Below.on HBw5.out bw6)
  have hsw6 := HBw6.out.size
  have Kiw6 := hid (Kiw5.out.below bw6)
  have Ksw6 := hid (Ksw5.out.below bw6)
  have KNw6 := hid (KNw5.out.below bw6)
  have KTw6 := hid (KTw5.out.below bw6)
  have KWw6 := hid (KWw5.out.below bw6)
  have KAw6 := hid (KAw5.out.below bw6)
  have KBw6 := hid (KBw5.out.below bw6)
  have KCw6 := hid (KCw5.out.below bw6)
  have KXw6 := hid (KXw5.out.below bw6)
  clear bw6
  go_wp2_with (with_reducible show wpList _ _ _ (⟨some 141, _, _, _, _, _⟩ :: _) _ _; refine wpList_load_blk rfl 23 _ rfl (w.heap.size) rfl _ 23 Kiw6.out _ Tryd.underlying23 rfl 32 size_digest hi.size ?_)
  refine (CGR _ KWw6.out).mono ?_
  rintro e w7 ⟨vY, X, rfl, hX, ⟨aY, nY, cY, rfl, htY⟩, bw7⟩
  have HBw7 := hid (Below.on HBw6.out bw7)
  have hsw7 := HBw7.out.size
  have Kiw7 := hid (Kiw6.out.below bw7)
  have Ksw7 := hid (Ksw6.out.below bw7)
  have KNw7 := hid (KNw6.out.below bw7)
  have KTw7 := hid (KTw6.out.below bw7)
  have KWw7 := hid (KWw6.out.below bw7)
  have KAw7 := hid (KAw6.out.below bw7)
  have KBw7 := hid (KBw6.out.below bw7)
  have KCw7 := hid (KCw6.out.below bw7)
  have KXw7 := hid (KXw6.out.below bw7)
  clear bw7
  have KYw7 := hid htY
  obtain rfl : nC = nY := KCw7.out.length.symm.trans htY.length
  clear htY
  go_wp2_with (
        refine wpList_store_blk rfl 23 _ _ rfl (w7.heap.size) (X.map (Value.int .u8)).toArray rfl rfl _ 23 (Blk.new rfl (byteCells 32 []) _) 32 size_digest zsize hX.size (ints_one _ _) ?_
        intro w8 hbw8 hkw8
        have hw8 := hbw8.below ((Below.refl w7.heap.size w7).alloc (Nat.le_refl _) _) (by simp only [World.size_alloc]; omega) (Nat.le_refl _)
        have HBw8 := hid (Below.on HBw7.out hw8)
        have hsw8 := HBw8.out.size
        have Kiw8 := hid (Kiw7.out.below hw8)
        have hliw8 := Kiw7.out.lt
        have Ksw8 := hid (Ksw7.out.below hw8)
        have hlsw8 := Ksw7.out.lt
        have KNw8 := hid (KNw7.out.below hw8)
        have KTw8 := hid (KTw7.out.below hw8)
        have KWw8 := hid (KWw7.out.below hw8)
        have KAw8 := hid (KAw7.out.below hw8)
        have KBw8 := hid (KBw7.out.below hw8)
        have KCw8 := hid (KCw7.out.below hw8)
        have KXw8 := hid (KXw7.out.below hw8)
        have KYw8 := hid (KYw7.out.below hw8)
        have Kxw8 := hid hkw8
        have hfw8 : w.heap.size ≤ w7.heap.size := HBw7.out.size
        clear hbw8 hkw8 hw8)
  refine (refsameT_any aC aY nC cC cY C _ KCw8.out KYw8.out).mono ?_
  rintro e w9 ⟨rfl, bw9⟩
  have HBw9 := hid (Below.on HBw8.out bw9)
  have hsw9 := HBw9.out.size
  have Kiw9 := hid (Kiw8.out.below bw9)
  have Ksw9 := hid (Ksw8.out.below bw9)
  have KNw9 := hid (KNw8.out.below bw9)
  have KTw9 := hid (KTw8.out.below bw9)
  have KWw9 := hid (KWw8.out.below bw9)
  have KAw9 := hid (KAw8.out.below bw9)
  have KBw9 := hid (KBw8.out.below bw9)
  have KCw9 := hid (KCw8.out.below bw9)
  have KXw9 := hid (KXw8.out.below bw9)
  have KYw9 := hid (KYw8.out.below bw9)
  have Kxw9 := hid (Kxw8.out.below bw9)
  clear bw9
  go_wp2_with fail
  refine (knows23 _ (Htab.out.below HBw9.out)).mono ?_
  rintro e w10 ⟨rfl, bw10⟩
  have HBw10 := hid (Below.on HBw9.out bw10)
  have hsw10 := HBw10.out.size
  have Kiw10 := hid (Kiw9.out.below bw10)
  have Ksw10 := hid (Ksw9.out.below bw10)
  have KNw10 := hid (KNw9.out.below bw10)
  have KTw10 := hid (KTw9.out.below bw10)
  have KWw10 := hid (KWw9.out.below bw10)
  have KAw10 := hid (KAw9.out.below bw10)
  have KBw10 := hid (KBw9.out.below bw10)
  have KCw10 := hid (KCw9.out.below bw10)
  have KXw10 := hid (KXw9.out.below bw10)
  have KYw10 := hid (KYw9.out.below bw10)
  have Kxw10 := hid (Kxw9.out.below bw10)
  clear bw10
  go_wp2_with fail
  go_returns
  exact ⟨by first | rfl | simp, HBw10.out⟩
set_option maxHeartbeats 4000000 in
theorem extrails_u_neyn (i c d t : List Int) (p : Bool) (na ta ya : Option Addr) (nn nc tn tc yn yc : Nat) (m n : Int) (ns ds : List (List Int)) (B : List (List Int)) (w : World) (hi : Dg i) (hc : Dg c) (hd : Dg d) (hN : DigsAt w na nn nc ns) (hT : TextAt w ta tn tc t) (hW : DigsAt w ya yn yc ds) (tab : ShaTab w) (hb1 : nn ≤ 300) (hb2 : tn ≤ 1000) (hb3 : yn ≤ 40) (q1 : ¬ n < 1) (q2 : ¬ 200 < n) (q3 : ¬ m < 0) (q4 : ¬ n < m) (he : ¬ m = n) (hz : ¬ m = 0)
    (CT : ∀ W : World, DigsAt W na nn nc ns → ShaTab W → Calls Tryd.prog 10 #[.agg (i.map (Value.int .u8)).toArray, .agg (sideC p c d (.slice na nn nc)).toArray] W fun e w' => ∃ v, e = .returned v ∧ TextsV [] v w' ∧ Below W.heap.size W w')
    (CW : ∀ W : World, Calls Tryd.prog 11 #[.agg (d.map (Value.int .u8)).toArray, .slice na nn nc] W fun e w' => e = .returned (.bool false) ∧ Below W.heap.size W w')
    (CX : ∀ W : World, TextAt W ta tn tc t → DigsAt W ya yn yc ds → ShaTab W → Calls Tryd.prog 14 #[.int .i64 n, .int .i64 m, .slice ta tn tc, .slice ya yn yc] W fun e w' => ∃ v, e = .returned v ∧ TextsV B v w' ∧ Below W.heap.size W w')
    (CG : ∀ W : World, DigsAt W ya yn yc ds → ShaTab W → Calls Tryd.prog 15 #[.agg (i.map (Value.int .u8)).toArray, .int .i64 m, .int .i64 n, .slice ya yn yc] W fun e w' => ∃ v, e = .returned v ∧ TextsV [] v w' ∧ Below W.heap.size W w')
    (CXR : ∀ W : World, TextAt W ta tn tc t → DigsAt W ya yn yc ds → Calls Tryd.prog 16 #[.int .i64 n, .int .i64 m, .slice ta tn tc, .slice ya yn yc] W fun e w' => ∃ v, e = .returned (.tuple #[v, .bool true]) ∧ TextsV B v w' ∧ Below W.heap.size W w')
    (CGR : ∀ W : World, DigsAt W ya yn yc ds → Calls Tryd.prog 17 #[.agg (i.map (Value.int .u8)).toArray, .int .i64 m, .int .i64 n, .bool false, .slice ya yn yc] W fun e w' => ∃ (v : Value) (X : List Int), e = .returned (.tuple #[v, .agg (X.map (Value.int .u8)).toArray, .bool false]) ∧ Dg X ∧ Below W.heap.size W w') :
    Calls Tryd.prog 3 #[.agg (i.map (Value.int .u8)).toArray, .agg (sideC p c d (.slice na nn nc)).toArray, .int .i64 m, .int .i64 n, .slice ta tn tc, .slice ya yn yc] w fun e' w' => e' = .returned (.bool true) ∧ Below w.heap.size w w' := by
  have b1 := (Below.refl w.heap.size w).alloc (Nat.le_refl _) (.cells (i.map (Value.int .u8)).toArray 23 (0, 0))
  have b2 := b1.alloc b1.size (.cells (sideC p c d (.slice na nn nc)).toArray 28 (0, 0))
  have Ki := hid ((Blk.new (w := w) (n := w.heap.size) rfl (i.map (Value.int .u8)).toArray 23).old (.cells (sideC p c d (.slice na nn nc)).toArray 28 (0, 0)))
  have Ks := hid (Blk.new (w := (w.alloc (.cells (i.map (Value.int .u8)).toArray 23 (0, 0)))) (n := w.heap.size + 1) (by simp only [World.size_alloc]) (sideC p c d (.slice na nn nc)).toArray 28)
  have Hb := hid b2
  have hbz := b2.size
  have Hbs := hid (show w.heap.size + 1 + 1 = ((w.alloc (.cells (i.map (Value.int .u8)).toArray 23 (0, 0))).alloc (.cells (sideC p c d (.slice na nn nc)).toArray 28 (0, 0))).heap.size by simp only [World.size_alloc])
  have Htab := hid tab
  clear b1 b2 tab 
  have KN := hid (hN.below Hb.out)
  have KT := hid (hT.below Hb.out)
  have KW := hid (hW.below Hb.out)
  clear hN hT hW
  have hca : ¬ (300 : Int) < (nn : Int) := by omega
  have hcb : ¬ (1000 : Int) < (tn : Int) := by omega
  have hcc : ¬ (40 : Int) < (yn : Int) := by omega
  have qe : (m == n) = false := by simp [he]
  have qz : (m == 0) = false := by simp [hz]
  clear he hz
  have cna : ((w.alloc (.cells (i.map (Value.int .u8)).toArray 23 (0, 0))).alloc (.cells (sideC p c d (.slice na nn nc)).toArray 28 (0, 0))).cell? ⟨w.heap.size + 1, 33 + 32, none⟩ = some (.slice na nn nc) := sideC_nodes' hc hd Ks.out
  go_enter Tryd.func3, Tryd.ntmps3
  go_wp2_with (first
     | (with_reducible show wpList _ _ _ (⟨some 37, _, _, _, _, _⟩ :: _) _ _; refine wpList_load_blk rfl 23 _ rfl (w.heap.size) rfl _ 23 Ki.out _ Tryd.underlying23 rfl 32 size_digest hi.size ?_)
     | (with_reducible show wpList _ _ _ (⟨some 38, _, _, _, _, _⟩ :: _) _ _; refine wpList_load_blk rfl 28 _ rfl (w.heap.size + 1) rfl _ 28 Ks.out _ Tryd.underlying28 rfl 66 size_side (sideC_size hc hd) ?_))
  clear cna
  refine (CT _ KN.out (Htab.out.below Hb.out)).mono ?_
  rintro e w1 ⟨vA, rfl, ⟨aA, nA, cA, rfl, htA⟩, bw1⟩
  have HBw1 := hid (Below.on Hb.out bw1)
  have hsw1 := HBw1.out.size
  have Kiw1 := hid (Ki.out.below bw1)
  have Ksw1 := hid (Ks.out.below bw1)
  have KNw1 := hid (KN.out.below bw1)
  have KTw1 := hid (KT.out.below bw1)
  have KWw1 := hid (KW.out.below bw1)
  clear bw1
  have KAw1 := hid htA
  obtain rfl : nA = 0 := htA.length.symm
  clear htA
  have cna : w1.cell? ⟨w.heap.size + 1, 33 + 32, none⟩ = some (.slice na nn nc) := sideC_nodes' hc hd Ksw1.out
  go_wp2_with (with_reducible show wpList _ _ _ (⟨some 42, _, _, _, _, _⟩ :: _) _ _; refine wpList_load_mid rfl 23 _ rfl (w.heap.size + 1) 33 rfl _ _ (sideC_known hc Ksw1.out) Tryd.underlying23 rfl (by rw [List.length_map, hd.len]; exact size_digest) ?_)
  clear cna
  refine (CW _).mono ?_
  rintro e w2 ⟨rfl, bw2⟩
  have HBw2 := hid (Below.on HBw1.out bw2)
  have hsw2 := HBw2.out.size
  have Kiw2 := hid (Kiw1.out.below bw2)
  have Ksw2 := hid (Ksw1.out.below bw2)
  have KNw2 := hid (KNw1.out.below bw2)
  have KTw2 := hid (KTw1.out.below bw2)
  have KWw2 := hid (KWw1.out.below bw2)
  have KAw2 := hid (KAw1.out.below bw2)
  clear bw2
  go_wp2_with fail
  refine (CX _ KTw2.out KWw2.out (Htab.out.below HBw2.out)).mono ?_
  rintro e w3 ⟨vB, rfl, ⟨aB, nB, cB, rfl, htB⟩, bw3⟩
  have HBw3 := hid (Below.on HBw2.out bw3)
  have hsw3 := HBw3.out.size
  have Kiw3 := hid (Kiw2.out.below bw3)
  have Ksw3 := hid (Ksw2.out.below bw3)
  have KNw3 := hid (KNw2.out.below bw3)
  have KTw3 := hid (KTw2.out.below bw3)
  have KWw3 := hid (KWw2.out.below bw3)
  have KAw3 := hid (KAw2.out.below bw3)
  clear bw3
  have KBw3 := hid htB
  clear htB
  go_wp2_with (with_reducible show wpList _ _ _ (⟨some 71, _, _, _, _, _⟩ :: _) _ _; refine wpList_load_blk rfl 23 _ rfl (w.heap.size) rfl _ 23 Kiw3.out _ Tryd.underlying23 rfl 32 size_digest hi.size ?_)
  refine (CG _ KWw3.out (Htab.out.below HBw3.out)).mono ?_
  rintro e w4 ⟨vC, rfl, ⟨aC, nC, cC, rfl, htC⟩, bw4⟩
  have HBw4 := hid (Below.on HBw3.out bw4)
  have hsw4 := HBw4.out.size
  have Kiw4 := hid (Kiw3.out.below bw4)
  have Ksw4 := hid (Ksw3.out.below bw4)
  have KNw4 := hid (KNw3.out.below bw4)
  have KTw4 := hid (KTw3.out.below bw4)
  have KWw4 := hid (KWw3.out.below bw4)
  have KAw4 := hid (KAw3.out.below bw4)
  have KBw4 := hid (KBw3.out.below bw4)
  clear bw4
  have KCw4 := hid htC
  obtain rfl : nC = 0 := htC.length.symm
  clear htC
  go_wp2_with fail
  refine (CXR _ KTw4.out KWw4.out).mono ?_
  rintro e w5 ⟨vX, rfl, ⟨aX, nX, cX, rfl, htX⟩, bw5⟩
  have HBw5 := hid (Below.on HBw4.out bw5)
  have hsw5 := HBw5.out.size
  have Kiw5 := hid (Kiw4.out.below bw5)
  have Ksw5 := hid (Ksw4.out.below bw5)
  have KNw5 := hid (KNw4.out.below bw5)
  have KTw5 := hid (KTw4.out.below bw5)
  have KWw5 := hid (KWw4.out.below bw5)
  have KAw5 := hid (KAw4.out.below bw5)
  have KBw5 := hid (KBw4.out.below bw5)
  have KCw5 := hid (KCw4.out.below bw5)
  clear bw5
  have KXw5 := hid htX
  obtain rfl : nB = nX := KBw5.out.length.symm.trans htX.length
  clear htX
  go_wp2_with fail
  refine (refsameT_any aB aX nB cB cX B _ KBw5.out KXw5.out).mono ?_
  rintro e w6 ⟨rfl, bw6⟩
  have HBw6 := hid (Below.on HBw5.out bw6)
  have hsw6 := HBw6.out.size
  have Kiw6 := hid (Kiw5.out.below bw6)
  have Ksw6 := hid (Ksw5.out.below bw6)
  have KNw6 := hid (KNw5.out.below bw6)
  have KTw6 := hid (KTw5.out.below bw6)
  have KWw6 := hid (KWw5.out.below bw6)
  have KAw6 := hid (KAw5.out.below bw6)
  have KBw6 := hid (KBw5.out.below bw6)
  have KCw6 := hid (KCw5.out.below bw6)
  have KXw6 := hid (KXw5.out.below bw6)
  clear bw6
  go_wp2_with (with_reducible show wpList _ _ _ (⟨some 141, _, _, _, _, _⟩ :: _) _ _; refine wpList_load_blk rfl 23 _ rfl (w.heap.size) rfl _ 23 Kiw6.out _ Tryd.underlying23 rfl 32 size_digest hi.size ?_)
  refine (CGR _ KWw6.out).mono ?_
  rintro e w7 ⟨vY, X, rfl, hX, bw7⟩
  have HBw7 := hid (Below.on HBw6.out bw7)
  have hsw7 := HBw7.out.size
  have Kiw7 := hid (Kiw6.out.below bw7)
  have Ksw7 := hid (Ksw6.out.below bw7)
  have KNw7 := hid (KNw6.out.below bw7)
  have KTw7 := hid (KTw6.out.below bw7)
  have KWw7 := hid (KWw6.out.below bw7)
  have KAw7 := hid (KAw6.out.below bw7)
  have KBw7 := hid (KBw6.out.below bw7)
  have KCw7 := hid (KCw6.out.below bw7)
  have KXw7 := hid (KXw6.out.below bw7)
  clear bw7
  go_wp2_with (
        refine wpList_store_blk rfl 23 _ _ rfl (w7.heap.size) (X.map (Value.int .u8)).toArray rfl rfl _ 23 (Blk.new rfl (byteCells 32 []) _) 32 size_digest zsize hX.size (ints_one _ _) ?_
        intro w8 hbw8 hkw8
        have hw8 := hbw8.below ((Below.refl w7.heap.size w7).alloc (Nat.le_refl _) _) (by simp only [World.size_alloc]; omega) (Nat.le_refl _)
        have HBw8 := hid (Below.on HBw7.out hw8)
        have hsw8 := HBw8.out.size
        have Kiw8 := hid (Kiw7.out.below hw8)
        have hliw8 := Kiw7.out.lt
        have Ksw8 := hid (Ksw7.out.below hw8)
        have hlsw8 := Ksw7.out.lt
        have KNw8 := hid (KNw7.out.below hw8)
        have KTw8 := hid (KTw7.out.below hw8)
        have KWw8 := hid (KWw7.out.below hw8)
        have KAw8 := hid (KAw7.out.below hw8)
        have KBw8 := hid (KBw7.out.below hw8)
        have KCw8 := hid (KCw7.out.below hw8)
        have KXw8 := hid (KXw7.out.below hw8)
        have Kxw8 := hid hkw8
        have hfw8 : w.heap.size ≤ w7.heap.size := HBw7.out.size
        clear hbw8 hkw8 hw8)
  refine (knows23 _ (Htab.out.below HBw8.out)).mono ?_
  rintro e w9 ⟨rfl, bw9⟩
  have HBw9 := hid (Below.on HBw8.out bw9)
  have hsw9 := HBw9.out.size
  have Kiw9 := hid (Kiw8.out.below bw9)
  have Ksw9 := hid (Ksw8.out.below bw9)
  have KNw9 := hid (KNw8.out.below bw9)
  have KTw9 := hid (KTw8.out.below bw9)
  have KWw9 := hid (KWw8.out.below bw9)
  have KAw9 := hid (KAw8.out.below bw9)
  have KBw9 := hid (KBw8.out.below bw9)
  have KCw9 := hid (KCw8.out.below bw9)
  have KXw9 := hid (KXw8.out.below bw9)
  have Kxw9 := hid (Kxw8.out.below bw9)
  clear bw9
  go_wp2_with fail
  go_returns
  exact ⟨by first | rfl | simp, HBw9.out⟩
set_option maxHeartbeats 4000000 in
theorem extrails_u_nenz (i c d t : List Int) (p : Bool) (na ta ya : Option Addr) (nn nc tn tc yn yc : Nat) (m n : Int) (ns ds : List (List Int))  (w : World) (hi : Dg i) (hc : Dg c) (hd : Dg d) (hN : DigsAt w na nn nc ns) (hT : TextAt w ta tn tc t) (hW : DigsAt w ya yn yc ds) (tab : ShaTab w) (hb1 : nn ≤ 300) (hb2 : tn ≤ 1000) (hb3 : yn ≤ 40) (q1 : ¬ n < 1) (q2 : ¬ 200 < n) (q3 : ¬ m < 0) (q4 : ¬ n < m) (he : ¬ m = n) (hz : m = 0)
    (CT : ∀ W : World, DigsAt W na nn nc ns → ShaTab W → Calls Tryd.prog 10 #[.agg (i.map (Value.int .u8)).toArray, .agg (sideC p c d (.slice na nn nc)).toArray] W fun e w' => ∃ v, e = .returned v ∧ TextsV [] v w' ∧ Below W.heap.size W w')
    (CW : ∀ W : World, Calls Tryd.prog 11 #[.agg (d.map (Value.int .u8)).toArray, .slice na nn nc] W fun e w' => e = .returned (.bool false) ∧ Below W.heap.size W w')
    (CX : ∀ W : World, TextAt W ta tn tc t → DigsAt W ya yn yc ds → ShaTab W → Calls Tryd.prog 14 #[.int .i64 n, .int .i64 m, .slice ta tn tc, .slice ya yn yc] W fun e w' => ∃ v, e = .returned v ∧ TextsV [] v w' ∧ Below W.heap.size W w')
    (CG : ∀ W : World, DigsAt W ya yn yc ds → ShaTab W → Calls Tryd.prog 15 #[.agg (i.map (Value.int .u8)).toArray, .int .i64 m, .int .i64 n, .slice ya yn yc] W fun e w' => ∃ v, e = .returned v ∧ TextsV [] v w' ∧ Below W.heap.size W w')
    (CXR : ∀ W : World, TextAt W ta tn tc t → DigsAt W ya yn yc ds → Calls Tryd.prog 16 #[.int .i64 n, .int .i64 m, .slice ta tn tc, .slice ya yn yc] W fun e w' => ∃ v, e = .returned (.tuple #[v, .bool false]) ∧ Below W.heap.size W w') :
    Calls Tryd.prog 3 #[.agg (i.map (Value.int .u8)).toArray, .agg (sideC p c d (.slice na nn nc)).toArray, .int .i64 m, .int .i64 n, .slice ta tn tc, .slice ya yn yc] w fun e' w' => e' = .returned (.bool true) ∧ Below w.heap.size w w' := by
  have b1 := (Below.refl w.heap.size w).alloc (Nat.le_refl _) (.cells (i.map (Value.int .u8)).toArray 23 (0, 0))
  have b2 := b1.alloc b1.size (.cells (sideC p c d (.slice na nn nc)).toArray 28 (0, 0))
  have Ki := hid ((Blk.new (w := w) (n := w.heap.size) rfl (i.map (Value.int .u8)).toArray 23).old (.cells (sideC p c d (.slice na nn nc)).toArray 28 (0, 0)))
  have Ks := hid (Blk.new (w := (w.alloc (.cells (i.map (Value.int .u8)).toArray 23 (0, 0)))) (n := w.heap.size + 1) (by simp only [World.size_alloc]) (sideC p c d (.slice na nn nc)).toArray 28)
  have Hb := hid b2
  have hbz := b2.size
  have Hbs := hid (show w.heap.size + 1 + 1 = ((w.alloc (.cells (i.map (Value.int .u8)).toArray 23 (0, 0))).alloc (.cells (sideC p c d (.slice na nn nc)).toArray 28 (0, 0))).heap.size by simp only [World.size_alloc])
  have Htab := hid tab
  clear b1 b2 tab 
  have KN := hid (hN.below Hb.out)
  have KT := hid (hT.below Hb.out)
  have KW := hid (hW.below Hb.out)
  clear hN hT hW
  have hca : ¬ (300 : Int) < (nn : Int) := by omega
  have hcb : ¬ (1000 : Int) < (tn : Int) := by omega
  have hcc : ¬ (40 : Int) < (yn : Int) := by omega
  have qe : (m == n) = false := by simp [he]
  have qz : (m == 0) = true := by simp [hz]
  clear he hz
  have cna : ((w.alloc (.cells (i.map (Value.int .u8)).toArray 23 (0, 0))).alloc (.cells (sideC p c d (.slice na nn nc)).toArray 28 (0, 0))).cell? ⟨w.heap.size + 1, 33 + 32, none⟩ = some (.slice na nn nc) := sideC_nodes' hc hd Ks.out
  go_enter Tryd.func3, Tryd.ntmps3
  go_wp2_with (first
     | (with_reducible show wpList _ _ _ (⟨some 37, _, _, _, _, _⟩ :: _) _ _; refine wpList_load_blk rfl 23 _ rfl (w.heap.size) rfl _ 23 Ki.out _ Tryd.underlying23 rfl 32 size_digest hi.size ?_)
     | (with_reducible show wpList _ _ _ (⟨some 38, _, _, _, _, _⟩ :: _) _ _; refine wpList_load_blk rfl 28 _ rfl (w.heap.size + 1) rfl _ 28 Ks.out _ Tryd.underlying28 rfl 66 size_side (sideC_size hc hd) ?_))
  clear cna
  refine (CT _ KN.out (Htab.out.below Hb.out)).mono ?_
  rintro e w1 ⟨vA, rfl, ⟨aA, nA, cA, rfl, htA⟩, bw1⟩
  have HBw1 := hid (Below.on Hb.out bw1)
  have hsw1 := HBw1.out.size
  have Kiw1 := hid (Ki.out.below bw1)
  have Ksw1 := hid (Ks.out.below bw1)
  have KNw1 := hid (KN.out.below bw1)
  have KTw1 := hid (KT.out.below bw1)
  have KWw1 := hid (KW.out.below bw1)
  clear bw1
  have KAw1 := hid htA
  obtain rfl : nA = 0 := htA.length.symm
  clear htA
  have cna : w1.cell? ⟨w.heap.size + 1, 33 + 32, none⟩ = some (.slice na nn nc) := sideC_nodes' hc hd Ksw1.out
  go_wp2_with (with_reducible show wpList _ _ _ (⟨some 42, _, _, _, _, _⟩ :: _) _ _; refine wpList_load_mid rfl 23 _ rfl (w.heap.size + 1) 33 rfl _ _ (sideC_known hc Ksw1.out) Tryd.underlying23 rfl (by rw [List.length_map, hd.len]; exact size_digest) ?_)
  clear cna
  refine (CW _).mono ?_
  rintro e w2 ⟨rfl, bw2⟩
  have HBw2 := hid (Below.on HBw1.out bw2)
  have hsw2 := HBw2.out.size
  have Kiw2 := hid (Kiw1.out.below bw2)
  have Ksw2 := hid (Ksw1.out.below bw2)
  have KNw2 := hid (KNw1.out.below bw2)
  have KTw2 := hid (KTw1.out.below bw2)
  have KWw2 := hid (KWw1.out.below bw2)
  have KAw2 := hid (KAw1.out.below bw2)
  clear bw2
  go_wp2_with fail
  refine (CX _ KTw2.out KWw2.out (Htab.out.below HBw2.out)).mono ?_
  rintro e w3 ⟨vB, rfl, ⟨aB, nB, cB, rfl, htB⟩, bw3⟩
  have HBw3 := hid (Below.on HBw2.out bw3)
  have hsw3 := HBw3.out.size
  have Kiw3 := hid (Kiw2.out.below bw3)
  have Ksw3 := hid (Ksw2.out.below bw3)
  have KNw3 := hid (KNw2.out.below bw3)
  have KTw3 := hid (KTw2.out.below bw3)
  have KWw3 := hid (KWw2.out.below bw3)
  have KAw3 := hid (KAw2.out.below bw3)
  clear bw3
  have KBw3 := hid htB
  obtain rfl : nB = 0 := htB.length.symm
  clear htB
  go_wp2_with (with_reducible show wpList _ _ _ (⟨some 71, _, _, _, _, _⟩ :: _) _ _; refine wpList_load_blk rfl 23 _ rfl (w.heap.size) rfl _ 23 Kiw3.out _ Tryd.underlying23 rfl 32 size_digest hi.size ?_)
  refine (CG _ KWw3.out (Htab.out.below HBw3.out)).mono ?_
  rintro e w4 ⟨vC, rfl, ⟨aC, nC, cC, rfl, htC⟩, bw4⟩
  have HBw4 := hid (Below.on HBw3.out bw4)
  have hsw4 := HBw4.out.size
  have Kiw4 := hid (Kiw3.out.below bw4)
  have Ksw4 := hid (Ksw3.out.below bw4)
  have KNw4 := hid (KNw3.out.below bw4)
  have KTw4 := hid (KTw3.out.below bw4)
  have KWw4 := hid (KWw3.out.below bw4)
  have KAw4 := hid (KAw3.out.below bw4)
  have KBw4 := hid (KBw3.out.below bw4)
  clear bw4
  have KCw4 := hid htC
  obtain rfl : nC = 0 := htC.length.symm
  clear htC
  go_wp2_with fail
  refine (CXR _ KTw4.out KWw4.out).mono ?_
  rintro e w5 ⟨vX, rfl, bw5⟩
  have HBw5 := hid (Below.on HBw4.out bw5)
  have hsw5 := HBw5.out.size
  have Kiw5 := hid (Kiw4.out.below bw5)
  have Ksw5 := hid (Ksw4.out.below bw5)
  have KNw5 := hid (KNw4.out.below bw5)
  have KTw5 := hid (KTw4.out.below bw5)
  have KWw5 := hid (KWw4.out.below bw5)
  have KAw5 := hid (KAw4.out.below bw5)
  have KBw5 := hid (KBw4.out.below bw5)
  have KCw5 := hid (KCw4.out.below bw5)
  clear bw5
  go_wp2_with fail
  refine (knows23 _ (Htab.out.below HBw5.out)).mono ?_
  rintro e w6 ⟨rfl, bw6⟩
  have HBw6 := hid (Below.on HBw5.out bw6)
  have hsw6 := HBw6.out.size
  have Kiw6 := hid (Kiw5.out.below bw6)
  have Ksw6 := hid (Ksw5.out.below bw6)
  have KNw6 := hid (KNw5.out.below bw6)
  have KTw6 := hid (KTw5.out.below bw6)
  have KWw6 := hid (KWw5.out.below bw6)
  have KAw6 := hid (KAw5.out.below bw6)
  have KBw6 := hid (KBw5.out.below bw6)
  have KCw6 := hid (KCw5.out.below bw6)
  clear bw6
  go_wp2_with fail
  go_returns
  exact ⟨by first | rfl | simp, HBw6.out⟩
set_option maxHeartbeats 4000000 in
theorem extrails_u_neny (i c d t : List Int) (p : Bool) (na ta ya : Option Addr) (nn nc tn tc yn yc : Nat) (m n : Int) (ns ds : List (List Int)) (C : List (List Int)) (w : World) (hi : Dg i) (hc : Dg c) (hd : Dg d) (hN : DigsAt w na nn nc ns) (hT : TextAt w ta tn tc t) (hW : DigsAt w ya yn yc ds) (tab : ShaTab w) (hb1 : nn ≤ 300) (hb2 : tn ≤ 1000) (hb3 : yn ≤ 40) (q1 : ¬ n < 1) (q2 : ¬ 200 < n) (q3 : ¬ m < 0) (q4 : ¬ n < m) (he : ¬ m = n) (hz : ¬ m = 0)
    (CT : ∀ W : World, DigsAt W na nn nc ns → ShaTab W → Calls Tryd.prog 10 #[.agg (i.map (Value.int .u8)).toArray, .agg (sideC p c d (.slice na nn nc)).toArray] W fun e w' => ∃ v, e = .returned v ∧ TextsV [] v w' ∧ Below W.heap.size W w')
    (CW : ∀ W : World, Calls Tryd.prog 11 #[.agg (d.map (Value.int .u8)).toArray, .slice na nn nc] W fun e w' => e = .returned (.bool false) ∧ Below W.heap.size W w')
    (CX : ∀ W : World, TextAt W ta tn tc t → DigsAt W ya yn yc ds → ShaTab W → Calls Tryd.prog 14 #[.int .i64 n, .int .i64 m, .slice ta tn tc, .slice ya yn yc] W fun e w' => ∃ v, e = .returned v ∧ TextsV [] v w' ∧ Below W.heap.size W w')
    (CG : ∀ W : World, DigsAt W ya yn yc ds → ShaTab W → Calls Tryd.prog 15 #[.agg (i.map (Value.int .u8)).toArray, .int .i64 m, .int .i64 n, .slice ya yn yc] W fun e w' => ∃ v, e = .returned v ∧ TextsV C v w' ∧ Below W.heap.size W w')
    (CXR : ∀ W : World, TextAt W ta tn tc t → DigsAt W ya yn yc ds → Calls Tryd.prog 16 #[.int .i64 n, .int .i64 m, .slice ta tn tc, .slice ya yn yc] W fun e w' => ∃ v, e = .returned (.tuple #[v, .bool false]) ∧ Below W.heap.size W w')
    (CGR : ∀ W : World, DigsAt W ya yn yc ds → Calls Tryd.prog 17 #[.agg (i.map (Value.int .u8)).toArray, .int .i64 m, .int .i64 n, .bool false, .slice ya yn yc] W fun e w' => ∃ (v : Value) (X : List Int), e = .returned (.tuple #[v, .agg (X.map (Value.int .u8)).toArray, .bool true]) ∧ Dg X ∧ TextsV C v w' ∧ Below W.heap.size W w') :
    Calls Tryd.prog 3 #[.agg (i.map (Value.int .u8)).toArray, .agg (sideC p c d (.slice na nn nc)).toArray, .int .i64 m, .int .i64 n, .slice ta tn tc, .slice ya yn yc] w fun e' w' => e' = .returned (.bool true) ∧ Below w.heap.size w w' := by
  have b1 := (Below.refl w.heap.size w).alloc (Nat.le_refl _) (.cells (i.map (Value.int .u8)).toArray 23 (0, 0))
  have b2 := b1.alloc b1.size (.cells (sideC p c d (.slice na nn nc)).toArray 28 (0, 0))
  have Ki := hid ((Blk.new (w := w) (n := w.heap.size) rfl (i.map (Value.int .u8)).toArray 23).old (.cells (sideC p c d (.slice na nn nc)).toArray 28 (0, 0)))
  have Ks := hid (Blk.new (w := (w.alloc (.cells (i.map (Value.int .u8)).toArray 23 (0, 0)))) (n := w.heap.size + 1) (by simp only [World.size_alloc]) (sideC p c d (.slice na nn nc)).toArray 28)
  have Hb := hid b2
  have hbz := b2.size
  have Hbs := hid (show w.heap.size + 1 + 1 = ((w.alloc (.cells (i.map (Value.int .u8)).toArray 23 (0, 0))).alloc (.cells (sideC p c d (.slice na nn nc)).toArray 28 (0, 0))).heap.size by simp only [World.size_alloc])
  have Htab := hid tab
  clear b1 b2 tab 
  have KN := hid (hN.below Hb.out)
  have KT := hid (hT.below Hb.out)
  have KW := hid (hW.below Hb.out)
  clear hN hT hW
  have hca : ¬ (300 : Int) < (nn : Int) := by omega
  have hcb : ¬ (1000 : Int) < (tn : Int) := by omega
  have hcc : ¬ (40 : Int) < (yn : Int) := by omega
  have qe : (m == n) = false := by simp [he]
  have qz : (m == 0) = false := by simp [hz]
  clear he hz
  have cna : ((w.alloc (.cells (i.map (Value.int .u8)).toArray 23 (0, 0))).alloc (.cells (sideC p c d (.slice na nn nc)).toArray 28 (0, 0))).cell? ⟨w.heap.size + 1, 33 + 32, none⟩ = some (.slice na nn nc) := sideC_nodes' hc hd Ks.out
  go_enter Tryd.func3, Tryd.ntmps3
  go_wp2_with (first
     | (with_reducible show wpList _ _ _ (⟨some 37, _, _, _, _, _⟩ :: _) _ _; refine wpList_load_blk rfl 23 _ rfl (w.heap.size) rfl _ 23 Ki.out _ Tryd.underlying23 rfl 32 size_digest hi.size ?_)
     | (with_reducible show wpList _ _ _ (⟨some 38, _, _, _, _, _⟩ :: _) _ _; refine wpList_load_blk rfl 28 _ rfl (w.heap.size + 1) rfl _ 28 Ks.out _ Tryd.underlying28 rfl 66 size_side (sideC_size hc hd) ?_))
  clear cna
  refine (CT _ KN.out (Htab.out.below Hb.out)).mono ?_
  rintro e w1 ⟨vA, rfl, ⟨aA, nA, cA, rfl, htA⟩, bw1⟩
  have HBw1 := hid (Below.on Hb.out bw1)
  have hsw1 := HBw1.out.size
  have Kiw1 := hid (Ki.out.below bw1)
  have Ksw1 := hid (Ks.out.below bw1)
  have KNw1 := hid (KN.out.below bw1)
  have KTw1 := hid (KT.out.below bw1)
  have KWw1 := hid (KW.out.below bw1)
  clear bw1
  have KAw1 := hid htA
  obtain rfl : nA = 0 := htA.length.symm
  clear htA
  have cna : w1.cell? ⟨w.heap.size + 1, 33 + 32, none⟩ = some (.slice na nn nc) := sideC_nodes' hc hd Ksw1.out
  go_wp2_with (with_reducible show wpList _ _ _ (⟨some 42, _, _, _, _, _⟩ :: _) _ _; refine wpList_load_mid rfl 23 _ rfl (w.heap.size + 1) 33 rfl _ _ (sideC_known hc Ksw1.out) Tryd.underlying23 rfl (by rw [List.length_map, hd.len]; exact size_digest) ?_)
  clear cna
  refine (CW _).mono ?_
  rintro e w2 ⟨rfl, bw2⟩
  have HBw2 := hid (Below.on HBw1.out bw2)
  have hsw2 := HBw2.out.size
  have Kiw2 := hid (Kiw1.out.below bw2)
  have Ksw2 := hid (Ksw1.out.below bw2)
  have KNw2 := hid (KNw1.out.below bw2)
  have KTw2 := hid (KTw1.out.below bw2)
  have KWw2 := hid (KWw1.out.below bw2)
  have KAw2 := hid (KAw1.out.below bw2)
  clear bw2
  go_wp2_with fail
  refine (CX _ KTw2.out KWw2.out (Htab.out.below HBw2.out)).mono ?_
  rintro e w3 ⟨vB, rfl, ⟨aB, nB, cB, rfl, htB⟩, bw3⟩
  have HBw3 := hid (Below.on HBw2.out bw3)
  have hsw3 := HBw3.out.size
  have Kiw3 := hid (Kiw2.out.below bw3)
  have Ksw3 := hid (Ksw2.out.below bw3)
  have KNw3 := hid (KNw2.out.below bw3)
  have KTw3 := hid (KTw2.out.below bw3)
  have KWw3 := hid (KWw2.out.below bw3)
  have KAw3 := hid (KAw2.out.below bw3)
  clear bw3
  have KBw3 := hid htB
  obtain rfl : nB = 0 := htB.length.symm
  clear htB
  go_wp2_with (with_reducible show wpList _ _ _ (⟨some 71, _, _, _, _, _⟩ :: _) _ _; refine wpList_load_blk rfl 23 _ rfl (w.heap.size) rfl _ 23 Kiw3.out _ Tryd.underlying23 rfl 32 size_digest hi.size ?_)
  refine (CG _ KWw3.out (Htab.out.below HBw3.out)).mono ?_
  rintro e w4 ⟨vC, rfl, ⟨aC, nC, cC, rfl, htC⟩, bw4⟩
  have HBw4 := hid (Below.on HBw3.out bw4)
  have hsw4 := HBw4.out.size
  have Kiw4 := hid (Kiw3.out.below bw4)
  have Ksw4 := hid (Ksw3.out.below bw4)
  have KNw4 := hid (KNw3.out.below bw4)
  have KTw4 := hid (KTw3.out.below bw4)
  have KWw4 := hid (KWw3.out.below bw4)
  have KAw4 := hid (KAw3.out.below bw4)
  have KBw4 := hid (KBw3.out.below bw4)
  clear bw4
  have KCw4 := hid htC
  clear htC
  go_wp2_with fail
  refine (CXR _ KTw4.out KWw4.out).mono ?_
  rintro e w5 ⟨vX, rfl, bw5⟩
  have HBw5 := hid (Below.on HBw4.out bw5)
  have hsw5 := HBw5.out.size
  have Kiw5 := hid (Kiw4.out.below bw5)
  have Ksw5 := hid (Ksw4.out.below bw5)
  have KNw5 := hid (KNw4.out.below bw5)
  have KTw5 := hid (KTw4.out.below bw5)
  have KWw5 := hid (KWw4.out.below bw5)
  have KAw5 := hid (KAw4.out.below bw5)
  have KBw5 := hid (KBw4.out.below bw5)
  have KCw5 := hid (KCw4.out.below bw5)
  clear bw5
  go_wp2_with (with_reducible show wpList _ _ _ (⟨some 141, _, _, _, _, _⟩ :: _) _ _; refine wpList_load_blk rfl 23 _ rfl (w.heap.size) rfl _ 23 Kiw5.out _ Tryd.underlying23 rfl 32 size_digest hi.size ?_)
  refine (CGR _ KWw5.out).mono ?_
  rintro e w6 ⟨vY, X, rfl, hX, ⟨aY, nY, cY, rfl, htY⟩, bw6⟩
  have HBw6 := hid (Below.on HBw5.out bw6)
  have hsw6 := HBw6.out.size
  have Kiw6 := hid (Kiw5.out.below bw6)
  have Ksw6 := hid (Ksw5.out.below bw6)
  have KNw6 := hid (KNw5.out.below bw6)
  have KTw6 := hid (KTw5.out.below bw6)
  have KWw6 := hid (KWw5.out.below bw6)
  have KAw6 := hid (KAw5.out.below bw6)
  have KBw6 := hid (KBw5.out.below bw6)
  have KCw6 := hid (KCw5.out.below bw6)
  clear bw6
  have KYw6 := hid htY
  obtain rfl : nC = nY := KCw6.out.length.symm.trans htY.length
  clear htY
  go_wp2_with (
        refine wpList_store_blk rfl 23 _ _ rfl (w6.heap.size) (X.map (Value.int .u8)).toArray rfl rfl _ 23 (Blk.new rfl (byteCells 32 []) _) 32 size_digest zsize hX.size (ints_one _ _) ?_
        intro w7 hbw7 hkw7
        have hw7 := hbw7.below ((Below.refl w6.heap.size w6).alloc (Nat.le_refl _) _) (by simp only [World.size_alloc]; omega) (Nat.le_refl _)
        have HBw7 := hid (Below.on HBw6.out hw7)
        have hsw7 := HBw7.out.size
        have Kiw7 := hid (Kiw6.out.below hw7)
        have hliw7 := Kiw6.out.lt
        have Ksw7 := hid (Ksw6.out.below hw7)
        have hlsw7 := Ksw6.out.lt
        have KNw7 := hid (KNw6.out.below hw7)
        have KTw7 := hid (KTw6.out.below hw7)
        have KWw7 := hid (KWw6.out.below hw7)
        have KAw7 := hid (KAw6.out.below hw7)
        have KBw7 := hid (KBw6.out.below hw7)
        have KCw7 := hid (KCw6.out.below hw7)
        have KYw7 := hid (KYw6.out.below hw7)
        have Kxw7 := hid hkw7
        have hfw7 : w.heap.size ≤ w6.heap.size := HBw6.out.size
        clear hbw7 hkw7 hw7)
  refine (refsameT_any aC aY nC cC cY C _ KCw7.out KYw7.out).mono ?_
  rintro e w8 ⟨rfl, bw8⟩
  have HBw8 := hid (Below.on HBw7.out bw8)
  have hsw8 := HBw8.out.size
  have Kiw8 := hid (Kiw7.out.below bw8)
  have Ksw8 := hid (Ksw7.out.below bw8)
  have KNw8 := hid (KNw7.out.below bw8)
  have KTw8 := hid (KTw7.out.below bw8)
  have KWw8 := hid (KWw7.out.below bw8)
  have KAw8 := hid (KAw7.out.below bw8)
  have KBw8 := hid (KBw7.out.below bw8)
  have KCw8 := hid (KCw7.out.below bw8)
  have KYw8 := hid (KYw7.out.below bw8)
  have Kxw8 := hid (Kxw7.out.below bw8)
  clear bw8
  go_wp2_with fail
  refine (knows23 _ (Htab.out.below HBw8.out)).mono ?_
  rintro e w9 ⟨rfl, bw9⟩
  have HBw9 := hid (Below.on HBw8.out bw9)
  have hsw9 := HBw9.out.size
  have Kiw9 := hid (Kiw8.out.below bw9)
  have Ksw9 := hid (Ksw8.out.below bw9)
  have KNw9 := hid (KNw8.out.below bw9)
  have KTw9 := hid (KTw8.out.below bw9)
  have KWw9 := hid (KWw8.out.below bw9)
  have KAw9 := hid (KAw8.out.below bw9)
  have KBw9 := hid (KBw8.out.below bw9)
  have KCw9 := hid (KCw8.out.below bw9)
  have KYw9 := hid (KYw8.out.below bw9)
  have Kxw9 := hid (Kxw8.out.below bw9)
  clear bw9
  go_wp2_with fail
  go_returns
  exact ⟨by first | rfl | simp, HBw9.out⟩
set_option maxHeartbeats 4000000 in
theorem extrails_u_nenn (i c d t : List Int) (p : Bool) (na ta ya : Option Addr) (nn nc tn tc yn yc : Nat) (m n : Int) (ns ds : List (List Int))  (w : World) (hi : Dg i) (hc : Dg c) (hd : Dg d) (hN : DigsAt w na nn nc ns) (hT : TextAt w ta tn tc t) (hW : DigsAt w ya yn yc ds) (tab : ShaTab w) (hb1 : nn ≤ 300) (hb2 : tn ≤ 1000) (hb3 : yn ≤ 40) (q1 : ¬ n < 1) (q2 : ¬ 200 < n) (q3 : ¬ m < 0) (q4 : ¬ n < m) (he : ¬ m = n) (hz : ¬ m = 0)
    (CT : ∀ W : World, DigsAt W na nn nc ns → ShaTab W → Calls Tryd.prog 10 #[.agg (i.map (Value.int .u8)).toArray, .agg (sideC p c d (.slice na nn nc)).toArray] W fun e w' => ∃ v, e = .returned v ∧ TextsV [] v w' ∧ Below W.heap.size W w')
    (CW : ∀ W : World, Calls Tryd.prog 11 #[.agg (d.map (Value.int .u8)).toArray, .slice na nn nc] W fun e w' => e = .returned (.bool false) ∧ Below W.heap.size W w')
    (CX : ∀ W : World, TextAt W ta tn tc t → DigsAt W ya yn yc ds → ShaTab W → Calls Tryd.prog 14 #[.int .i64 n, .int .i64 m, .slice ta tn tc, .slice ya yn yc] W fun e w' => ∃ v, e = .returned v ∧ TextsV [] v w' ∧ Below W.heap.size W w')
    (CG : ∀ W : World, DigsAt W ya yn yc ds → ShaTab W → Calls Tryd.prog 15 #[.agg (i.map (Value.int .u8)).toArray, .int .i64 m, .int .i64 n, .slice ya yn yc] W fun e w' => ∃ v, e = .returned v ∧ TextsV [] v w' ∧ Below W.heap.size W w')
    (CXR : ∀ W : World, TextAt W ta tn tc t → DigsAt W ya yn yc ds → Calls Tryd.prog 16 #[.int .i64 n, .int .i64 m, .slice ta tn tc, .slice ya yn yc] W fun e w' => ∃ v, e = .returned (.tuple #[v, .bool false]) ∧ Below W.heap.size W w')
    (CGR : ∀ W : World, DigsAt W ya yn yc ds → Calls Tryd.prog 17 #[.agg (i.map (Value.int .u8)).toArray, .int .i64 m, .int .i64 n, .bool false, .slice ya yn yc] W fun e w' => ∃ (v : Value) (X : List Int), e = .returned (.tuple #[v, .agg (X.map (Value.int .u8)).toArray, .bool false]) ∧ Dg X ∧ Below W.heap.size W w') :
    Calls Tryd.prog 3 #[.agg (i.map (Value.int .u8)).toArray, .agg (sideC p c d (.slice na nn nc)).toArray, .int .i64 m, .int .i64 n, .slice ta tn tc, .slice ya yn yc] w fun e' w' => e' = .returned (.bool true) ∧ Below w.heap.size w w' := by
  have b1 := (Below.refl w.heap.size w).alloc (Nat.le_refl _) (.cells (i.map (Value.int .u8)).toArray 23 (0, 0))
  have b2 := b1.alloc b1.size (.cells (sideC p c d (.slice na nn nc)).toArray 28 (0, 0))
  have Ki := hid ((Blk.new (w := w) (n := w.heap.size) rfl (i.map (Value.int .u8)).toArray 23).old (.cells (sideC p c d (.slice na nn nc)).toArray 28 (0, 0)))
  have Ks := hid (Blk.new (w := (w.alloc (.cells (i.map (Value.int .u8)).toArray 23 (0, 0)))) (n := w.heap.size + 1) (by simp only [World.size_alloc]) (sideC p c d (.slice na nn nc)).toArray 28)
  have Hb := hid b2
  have hbz := b2.size
  have Hbs := hid (show w.heap.size + 1 + 1 = ((w.alloc (.cells (i.map (Value.int .u8)).toArray 23 (0, 0))).alloc (.cells (sideC p c d (.slice na nn nc)).toArray 28 (0, 0))).heap.size by simp only [World.size_alloc])
  have Htab := hid tab
  clear b1 b2 tab 
  have KN := hid (hN.below Hb.out)
  have KT := hid (hT.below Hb.out)
  have KW := hid (hW.below Hb.out)
  clear hN hT hW
  have hca : ¬ (300 : Int) < (nn : Int) := by omega
  have hcb : ¬ (1000 : Int) < (tn : Int) := by omega
  have hcc : ¬ (40 : Int) < (yn : Int) := by omega
  have qe : (m == n) = false := by simp [he]
  have qz : (m == 0) = false := by simp [hz]
  clear he hz
  have cna : ((w.alloc (.cells (i.map (Value.int .u8)).toArray 23 (0, 0))).alloc (.cells (sideC p c d (.slice na nn nc)).toArray 28 (0, 0))).cell? ⟨w.heap.size + 1, 33 + 32, none⟩ = some (.slice na nn nc) := sideC_nodes' hc hd Ks.out
  go_enter Tryd.func3, Tryd.ntmps3
  go_wp2_with (first
     | (with_reducible show wpList _ _ _ (⟨some 37, _, _, _, _, _⟩ :: _) _ _; refine wpList_load_blk rfl 23 _ rfl (w.heap.size) rfl _ 23 Ki.out _ Tryd.underlying23 rfl 32 size_digest hi.size ?_)
     | (with_reducible show wpList _ _ _ (⟨some 38, _, _, _, _, _⟩ :: _) _ _; refine wpList_load_blk rfl 28 _ rfl (w.heap.size + 1) rfl _ 28 Ks.out _ Tryd.underlying28 rfl 66 size_side (sideC_size hc hd) ?_))
  clear cna
  refine (CT _ KN.out (Htab.out.below Hb.out)).mono ?_
  rintro e w1 ⟨vA, rfl, ⟨aA, nA, cA, rfl, htA⟩, bw1⟩
  have HBw1 := hid (Below.on Hb.out bw1)
  have hsw1 := HBw1.out.size
  have Kiw1 := hid (Ki.out.below bw1)
  have Ksw1 := hid (Ks.out.below bw1)
  have KNw1 := hid (KN.out.below bw1)
  have KTw1 := hid (KT.out.below bw1)
  have KWw1 := hid (KW.out.below bw1)
  clear bw1
  have KAw1 := hid htA
  obtain rfl : nA = 0 := htA.length.symm
  clear htA
  have cna : w1.cell? ⟨w.heap.size + 1, 33 + 32, none⟩ = some (.slice na nn nc) := sideC_nodes' hc hd Ksw1.out
  go_wp2_with (with_reducible show wpList _ _ _ (⟨some 42, _, _, _, _, _⟩ :: _) _ _; refine wpList_load_mid rfl 23 _ rfl (w.heap.size + 1) 33 rfl _ _ (sideC_known hc Ksw1.out) Tryd.underlying23 rfl (by rw [List.length_map, hd.len]; exact size_digest) ?_)
  clear cna
  refine (CW _).mono ?_
  rintro e w2 ⟨rfl, bw2⟩
  have HBw2 := hid (Below.on HBw1.out bw2)
  have hsw2 := HBw2.out.size
  have Kiw2 := hid (Kiw1.out.below bw2)
  have Ksw2 := hid (Ksw1.out.below bw2)
  have KNw2 := hid (KNw1.out.below bw2)
  have KTw2 := hid (KTw1.out.below bw2)
  have KWw2 := hid (KWw1.out.below bw2)
  have KAw2 := hid (KAw1.out.below bw2)
  clear bw2
  go_wp2_with fail
  refine (CX _ KTw2.out KWw2.out (Htab.out.below HBw2.out)).mono ?_
  rintro e w3 ⟨vB, rfl, ⟨aB, nB, cB, rfl, htB⟩, bw3⟩
  have HBw3 := hid (Below.on HBw2.out bw3)
  have hsw3 := HBw3.out.size
  have Kiw3 := hid (Kiw2.out.below bw3)
  have Ksw3 := hid (Ksw2.out.below bw3)
  have KNw3 := hid (KNw2.out.below bw3)
  have KTw3 := hid (KTw2.out.below bw3)
  have KWw3 := hid (KWw2.out.below bw3)
  have KAw3 := hid (KAw2.out.below bw3)
  clear bw3
  have KBw3 := hid htB
  obtain rfl : nB = 0 := htB.length.symm
  clear htB
  go_wp2_with (with_reducible show wpList _ _ _ (⟨some 71, _, _, _, _, _⟩ :: _) _ _; refine wpList_load_blk rfl 23 _ rfl (w.heap.size) rfl _ 23 Kiw3.out _ Tryd.underlying23 rfl 32 size_digest hi.size ?_)
  refine (CG _ KWw3.out (Htab.out.below HBw3.out)).mono ?_
  rintro e w4 ⟨vC, rfl, ⟨aC, nC, cC, rfl, htC⟩, bw4⟩
  have HBw4 := hid (Below.on HBw3.out bw4)
  have hsw4 := HBw4.out.size
  have Kiw4 := hid (Kiw3.out.below bw4)
  have Ksw4 := hid (Ksw3.out.below bw4)
  have KNw4 := hid (KNw3.out.below bw4)
  have KTw4 := hid (KTw3.out.below bw4)
  have KWw4 := hid (KWw3.out.below bw4)
  have KAw4 := hid (KAw3.out.below bw4)
  have KBw4 := hid (KBw3.out.below bw4)
  clear bw4
  have KCw4 := hid htC
  obtain rfl : nC = 0 := htC.length.symm
  clear htC
  go_wp2_with fail
  refine (CXR _ KTw4.out KWw4.out).mono ?_
  rintro e w5 ⟨vX, rfl, bw5⟩
  have HBw5 := hid (Below.on HBw4.out bw5)
  have hsw5 := HBw5.out.size
  have Kiw5 := hid (Kiw4.out.below bw5)
  have Ksw5 := hid (Ksw4.out.below bw5)
  have KNw5 := hid (KNw4.out.below bw5)
  have KTw5 := hid (KTw4.out.below bw5)
  have KWw5 := hid (KWw4.out.below bw5)
  have KAw5 := hid (KAw4.out.below bw5)
  have KBw5 := hid (KBw4.out.below bw5)
  have KCw5 := hid (KCw4.out.below bw5)
  clear bw5
  go_wp2_with (with_reducible show wpList _ _ _ (⟨some 141, _, _, _, _, _⟩ :: _) _ _; refine wpList_load_blk rfl 23 _ rfl (w.heap.size) rfl _ 23 Kiw5.out _ Tryd.underlying23 rfl 32 size_digest hi.size ?_)
  refine (CGR _ KWw5.out).mono ?_
  rintro e w6 ⟨vY, X, rfl, hX, bw6⟩
  have HBw6 := hid (Below.on HBw5.out bw6)
  have hsw6 := HBw6.out.size
  have Kiw6 := hid (Kiw5.out.below bw6)
  have Ksw6 := hid (Ksw5.out.below bw6)
  have KNw6 := hid (KNw5.out.below bw6)
  have KTw6 := hid (KTw5.out.below bw6)
  have KWw6 := hid (KWw5.out.below bw6)
  have KAw6 := hid (KAw5.out.below bw6)
  have KBw6 := hid (KBw5.out.below bw6)
  have KCw6 := hid (KCw5.out.below bw6)
  clear bw6
  go_wp2_with (
        refine wpList_store_blk rfl 23 _ _ rfl (w6.heap.size) (X.map (Value.int .u8)).toArray rfl rfl _ 23 (Blk.new rfl (byteCells 32 []) _) 32 size_digest zsize hX.size (ints_one _ _) ?_
        intro w7 hbw7 hkw7
        have hw7 := hbw7.below ((Below.refl w6.heap.size w6).alloc (Nat.le_refl _) _) (by simp only [World.size_alloc]; omega) (Nat.le_refl _)
        have HBw7 := hid (Below.on HBw6.out hw7)
        have hsw7 := HBw7.out.size
        have Kiw7 := hid (Kiw6.out.below hw7)
        have hliw7 := Kiw6.out.lt
        have Ksw7 := hid (Ksw6.out.below hw7)
        have hlsw7 := Ksw6.out.lt
        have KNw7 := hid (KNw6.out.below hw7)
        have KTw7 := hid (KTw6.out.below hw7)
        have KWw7 := hid (KWw6.out.below hw7)
        have KAw7 := hid (KAw6.out.below hw7)
        have KBw7 := hid (KBw6.out.below hw7)
        have KCw7 := hid (KCw6.out.below hw7)
        have Kxw7 := hid hkw7
        have hfw7 : w.heap.size ≤ w6.heap.size := HBw6.out.size
        clear hbw7 hkw7 hw7)
  refine (knows23 _ (Htab.out.below HBw7.out)).mono ?_
  rintro e w8 ⟨rfl, bw8⟩
  have HBw8 := hid (Below.on HBw7.out bw8)
  have hsw8 := HBw8.out.size
  have Kiw8 := hid (Kiw7.out.below bw8)
  have Ksw8 := hid (Ksw7.out.below bw8)
  have KNw8 := hid (KNw7.out.below bw8)
  have KTw8 := hid (KTw7.out.below bw8)
  have KWw8 := hid (KWw7.out.below bw8)
  have KAw8 := hid (KAw7.out.below bw8)
  have KBw8 := hid (KBw7.out.below bw8)
  have KCw8 := hid (KCw7.out.below bw8)
  have Kxw8 := hid (Kxw7.out.below bw8)
  clear bw8
  go_wp2_with fail
  go_returns
  exact ⟨by first | rfl | simp, HBw8.out⟩
end Go.Proofs.YtkakoiaahgchmaaDoor
namespace Go.Proofs.YtkakoiaahgchmaaDoor
set_option maxRecDepth 100000
open Go.ChangeShapes Go.WideShapes Go.ChangeAt Go.RowKit
theorem TextsV.nil (w : World) : TextsV [] (.slice none 0 0) w := ⟨none, 0, 0, rfl, rfl, Nat.le_refl _, by omega, .inl rfl⟩
theorem OwnR.tv {w : World} {S : List Nat} {base : Nat} {v : Value} {ts : List (List Int)} (h : OwnR w S base v ts) : TextsV ts v w := by
  obtain ⟨a, c, rfl, t⟩ := h.texts
  exact ⟨a, _, c, rfl, t⟩
theorem ct_good (i c d : List Int) (p : Bool) (na : Option Addr) (nn nc : Nat) (ns : List (List Int)) (hi : Dg i) (hc : Dg c) (hd : Dg d) (hk : knN d 256 = nn) :
    ∀ W : World, DigsAt W na nn nc ns → ShaTab W → Calls Tryd.prog 10 #[.agg (i.map (Value.int .u8)).toArray, .agg (sideC p c d (.slice na nn nc)).toArray] W fun e w' => ∃ v, e = .returned v ∧ TextsV (treeT p i c d ns) v w' ∧ Below W.heap.size W w' := by
  intro W h1 h2
  refine (treeTrail_good p i c d na nn nc ns W hi hc hd h1 h2 hk).mono ?_
  rintro e w' ⟨v, rfl, S, base, -, o, b⟩
  exact ⟨v, rfl, o.tv, b⟩
theorem ct_bad (i c d : List Int) (p : Bool) (na : Option Addr) (nn nc : Nat) (ns : List (List Int)) (hi : Dg i) (hc : Dg c) (hd : Dg d) (hk : ¬ knN d 256 = nn) :
    ∀ W : World, DigsAt W na nn nc ns → ShaTab W → Calls Tryd.prog 10 #[.agg (i.map (Value.int .u8)).toArray, .agg (sideC p c d (.slice na nn nc)).toArray] W fun e w' => ∃ v, e = .returned v ∧ TextsV [] v w' ∧ Below W.heap.size W w' := by
  intro W h1 h2
  cases p with
  | false =>
    refine (treeTrail_bad_false i c d na nn nc W hi hc hd h2 hk).mono ?_
    rintro e w' ⟨rfl, b⟩
    exact ⟨_, rfl, TextsV.nil _, b⟩
  | true =>
    refine (treeTrail_bad_true i c d na nn nc W hi hc hd h2 hk).mono ?_
    rintro e w' ⟨rfl, b⟩
    exact ⟨_, rfl, TextsV.nil _, b⟩
theorem cw_yes (d : List Int) (na : Option Addr) (nn nc : Nat) (hd : Dg d) (hk : knN d 256 = nn) :
    ∀ W : World, Calls Tryd.prog 11 #[.agg (d.map (Value.int .u8)).toArray, .slice na nn nc] W fun e w' => e = .returned (.bool true) ∧ Below W.heap.size W w' := by
  intro W
  have h := refwhole23_any d na nn nc W hd
  rw [decide_eq_true hk] at h
  exact h
theorem cw_no (d : List Int) (na : Option Addr) (nn nc : Nat) (hd : Dg d) (hk : ¬ knN d 256 = nn) :
    ∀ W : World, Calls Tryd.prog 11 #[.agg (d.map (Value.int .u8)).toArray, .slice na nn nc] W fun e w' => e = .returned (.bool false) ∧ Below W.heap.size W w' := by
  intro W
  have h := refwhole23_any d na nn nc W hd
  rw [decide_eq_false hk] at h
  exact h
theorem cr_any (i c d : List Int) (p : Bool) (na : Option Addr) (nn nc : Nat) (ns : List (List Int)) (hi : Dg i) (hc : Dg c) (hd : Dg d) (hk : knN d 256 = nn) :
    ∀ W : World, DigsAt W na nn nc ns → Calls Tryd.prog 13 #[.agg (i.map (Value.int .u8)).toArray, .bool p, .agg (c.map (Value.int .u8)).toArray, .agg (d.map (Value.int .u8)).toArray, .slice na nn nc] W fun e w' => ∃ v, e = .returned v ∧ TextsV (treeT p i c d ns) v w' ∧ Below W.heap.size W w' := by
  intro W h1
  cases p with
  | false => exact reftree_no i c d na nn nc ns W hi hc hd h1 hk
  | true => exact reftree_yes i c d na nn nc ns W hi hc hd h1 hk
theorem cx_far (t : List Int) (ta ya : Option Addr) (tn tc yn yc : Nat) (m n : Int) (ds : List (List Int)) (hf : ¬ (1 ≤ n ∧ n ≤ 200 ∧ 0 ≤ m ∧ m < n)) :
    ∀ W : World, TextAt W ta tn tc t → DigsAt W ya yn yc ds → ShaTab W → Calls Tryd.prog 14 #[.int .i64 n, .int .i64 m, .slice ta tn tc, .slice ya yn yc] W fun e w' => ∃ v, e = .returned v ∧ TextsV [] v w' ∧ Below W.heap.size W w' := by
  intro W h1 h2 h3
  refine (textTrail_far n m ta tn tc ya yn yc W hf).mono ?_
  rintro e w' ⟨rfl, b⟩
  exact ⟨_, rfl, TextsV.nil _, b⟩
theorem cx_good (t : List Int) (ta ya : Option Addr) (tn tc yn yc : Nat) (m n : Nat) (ds : List (List Int)) (hn1 : 1 ≤ n) (hn2 : n ≤ 200) (hmn : m < n) (htn : tn ≤ 1000) (hyn : yn ≤ 40) (hl : ds.length = (sidesF n n m).length) :
    ∀ W : World, TextAt W ta tn tc t → DigsAt W ya yn yc ds → ShaTab W → Calls Tryd.prog 14 #[.int .i64 n, .int .i64 m, .slice ta tn tc, .slice ya yn yc] W fun e w' => ∃ v, e = .returned v ∧ TextsV (textT t n m ds) v w' ∧ Below W.heap.size W w' := by
  intro W h1 h2 h3
  refine (textTrail_good n m ta tn tc t ya yn yc ds W hn1 hn2 hmn h1 htn h2 (by omega) hl h3).mono ?_
  rintro e w' ⟨v, rfl, S, base, -, o, b⟩
  exact ⟨v, rfl, o.tv, b⟩
theorem cx_len (t : List Int) (ta ya : Option Addr) (tn tc yn yc : Nat) (m n : Nat) (ds : List (List Int)) (hn1 : 1 ≤ n) (hn2 : n ≤ 200) (hmn : m < n) (hl : ¬ ds.length = (sidesF n n m).length) :
    ∀ W : World, TextAt W ta tn tc t → DigsAt W ya yn yc ds → ShaTab W → Calls Tryd.prog 14 #[.int .i64 n, .int .i64 m, .slice ta tn tc, .slice ya yn yc] W fun e w' => ∃ v, e = .returned v ∧ TextsV [] v w' ∧ Below W.heap.size W w' := by
  intro W h1 h2 h3
  refine (textTrail_len n m ta tn tc ya yn yc W hn1 hn2 hmn (by have := h2.length; omega)).mono ?_
  rintro e w' ⟨rfl, b⟩
  exact ⟨_, rfl, TextsV.nil _, b⟩
theorem cxr_yes (t : List Int) (ta ya : Option Addr) (tn tc yn yc : Nat) (m n : Nat) (ds : List (List Int)) (hn1 : 1 ≤ n) (hn2 : n ≤ 200) (hmn : m < n) (htn : tn ≤ 1000) (hyn : yn ≤ 40) (hl : ds.length = (sidesF n n m).length) :
    ∀ W : World, TextAt W ta tn tc t → DigsAt W ya yn yc ds → Calls Tryd.prog 16 #[.int .i64 n, .int .i64 m, .slice ta tn tc, .slice ya yn yc] W fun e w' => ∃ v, e = .returned (.tuple #[v, .bool true]) ∧ TextsV (textT t n m ds) v w' ∧ Below W.heap.size W w' := by
  intro W h1 h2
  refine (reftext_any ta tn tc t htn n n m ya yn yc ds W hn1 (Nat.le_refl _) hn2 hmn (by omega) h1 h2).mono ?_
  rintro e w' ⟨v, rfl, h, b⟩
  rw [decide_eq_true hl]
  exact ⟨v, rfl, h hl, b⟩
theorem cxr_no (t : List Int) (ta ya : Option Addr) (tn tc yn yc : Nat) (m n : Nat) (ds : List (List Int)) (hn1 : 1 ≤ n) (hn2 : n ≤ 200) (hmn : m < n) (htn : tn ≤ 1000) (hyn : yn ≤ 40) (hl : ¬ ds.length = (sidesF n n m).length) :
    ∀ W : World, TextAt W ta tn tc t → DigsAt W ya yn yc ds → Calls Tryd.prog 16 #[.int .i64 n, .int .i64 m, .slice ta tn tc, .slice ya yn yc] W fun e w' => ∃ v, e = .returned (.tuple #[v, .bool false]) ∧ Below W.heap.size W w' := by
  intro W h1 h2
  refine (reftext_any ta tn tc t htn n n m ya yn yc ds W hn1 (Nat.le_refl _) hn2 hmn (by omega) h1 h2).mono ?_
  rintro e w' ⟨v, rfl, -, b⟩
  rw [decide_eq_false hl]
  exact ⟨v, rfl, b⟩
theorem cg_far (i : List Int) (ya : Option Addr) (yn yc : Nat) (m n : Int) (ds : List (List Int)) (hi : Dg i) (hf : ¬ (1 ≤ m ∧ m ≤ n ∧ n ≤ 200)) :
    ∀ W : World, DigsAt W ya yn yc ds → ShaTab W → Calls Tryd.prog 15 #[.agg (i.map (Value.int .u8)).toArray, .int .i64 m, .int .i64 n, .slice ya yn yc] W fun e w' => ∃ v, e = .returned v ∧ TextsV [] v w' ∧ Below W.heap.size W w' := by
  intro W h2 h3
  refine (growTrail_far i m n ya yn yc W hi hf).mono ?_
  rintro e w' ⟨rfl, b⟩
  exact ⟨_, rfl, TextsV.nil _, b⟩
theorem cg_good (i : List Int) (ya : Option Addr) (yn yc : Nat) (m n : Nat) (ds : List (List Int)) (hi : Dg i) (hm1 : 1 ≤ m) (hmn : m ≤ n) (hn2 : n ≤ 200) (hyn : yn ≤ 40) (hl : ds.length = (gsF n m n false).1.length + oneIf (gsF n m n false).2) :
    ∀ W : World, DigsAt W ya yn yc ds → ShaTab W → Calls Tryd.prog 15 #[.agg (i.map (Value.int .u8)).toArray, .int .i64 m, .int .i64 n, .slice ya yn yc] W fun e w' => ∃ v, e = .returned v ∧ TextsV (growT i m n ds) v w' ∧ Below W.heap.size W w' := by
  intro W h2 h3
  cases hc : (gsF n m n false).2 with
  | false =>
    refine (growTrail_plain i m n ya yn yc ds W hi hm1 hmn hn2 h2 (by omega) hl h3 hc).mono ?_
    rintro e w' ⟨v, rfl, S, base, -, o, b⟩
    exact ⟨v, rfl, o.tv, b⟩
  | true =>
    refine (growTrail_cut i m n ya yn yc ds W hi hm1 hmn hn2 h2 (by omega) hl h3 hc).mono ?_
    rintro e w' ⟨v, rfl, S, base, -, o, b⟩
    exact ⟨v, rfl, o.tv, b⟩
theorem cg_len (i : List Int) (ya : Option Addr) (yn yc : Nat) (m n : Nat) (ds : List (List Int)) (hi : Dg i) (hm1 : 1 ≤ m) (hmn : m ≤ n) (hn2 : n ≤ 200) (hl : ¬ ds.length = (gsF n m n false).1.length + oneIf (gsF n m n false).2) :
    ∀ W : World, DigsAt W ya yn yc ds → ShaTab W → Calls Tryd.prog 15 #[.agg (i.map (Value.int .u8)).toArray, .int .i64 m, .int .i64 n, .slice ya yn yc] W fun e w' => ∃ v, e = .returned v ∧ TextsV [] v w' ∧ Below W.heap.size W w' := by
  intro W h2 h3
  cases hc : (gsF n m n false).2 with
  | false =>
    rw [hc] at hl
    refine (growTrail_lenp i m n ya yn yc ds W hi hm1 hmn hn2 h2 (by intro h; exact hl (by rw [h]; rfl)) hc).mono ?_
    rintro e w' ⟨rfl, b⟩
    exact ⟨_, rfl, TextsV.nil _, b⟩
  | true =>
    rw [hc] at hl
    by_cases h0 : yn = 0
    · refine (growTrail_none i m n ya yn yc ds W hi hm1 hmn hn2 h2 h0 hc).mono ?_
      rintro e w' ⟨rfl, b⟩
      exact ⟨_, rfl, TextsV.nil _, b⟩
    · refine (growTrail_lenc i m n ya yn yc ds W hi hm1 hmn hn2 h2 (by have := h2.length; omega) (by intro h; exact hl (by rw [h]; rfl)) hc).mono ?_
      rintro e w' ⟨rfl, b⟩
      exact ⟨_, rfl, TextsV.nil _, b⟩
theorem cgr_yes (i : List Int) (ya : Option Addr) (yn yc : Nat) (m n : Nat) (ds : List (List Int)) (hi : Dg i) (hm1 : 1 ≤ m) (hmn : m ≤ n) (hn2 : n ≤ 200) (hyn : yn ≤ 40) (hl : ds.length = (gsF n m n false).1.length + oneIf (gsF n m n false).2) :
    ∀ W : World, DigsAt W ya yn yc ds → Calls Tryd.prog 17 #[.agg (i.map (Value.int .u8)).toArray, .int .i64 m, .int .i64 n, .bool false, .slice ya yn yc] W fun e w' => ∃ (v : Value) (X : List Int), e = .returned (.tuple #[v, .agg (X.map (Value.int .u8)).toArray, .bool true]) ∧ Dg X ∧ TextsV (growT i m n ds) v w' ∧ Below W.heap.size W w' := by
  intro W h2
  have hg := grR_gs i n m n false ds (Nat.le_refl _) hm1 hmn
  refine (refgrow_any hi n m n false ya yn yc ds W hm1 hmn (Nat.le_refl _) hn2 hn2 (by omega) h2).mono ?_
  rintro e w' ⟨v, rfl, ⟨a, k, q, rfl, h⟩, b⟩
  rw [hg.1, decide_eq_true hl]
  refine ⟨_, _, rfl, grR_dg hi n m n false ds h2.each, ⟨a, k, q, rfl, ?_⟩, b⟩
  have ht := h.texts
  rw [(hg.2 hl).1] at ht
  exact ht
theorem cgr_no (i : List Int) (ya : Option Addr) (yn yc : Nat) (m n : Nat) (ds : List (List Int)) (hi : Dg i) (hm1 : 1 ≤ m) (hmn : m ≤ n) (hn2 : n ≤ 200) (hyn : yn ≤ 40) (hl : ¬ ds.length = (gsF n m n false).1.length + oneIf (gsF n m n false).2) :
    ∀ W : World, DigsAt W ya yn yc ds → Calls Tryd.prog 17 #[.agg (i.map (Value.int .u8)).toArray, .int .i64 m, .int .i64 n, .bool false, .slice ya yn yc] W fun e w' => ∃ (v : Value) (X : List Int), e = .returned (.tuple #[v, .agg (X.map (Value.int .u8)).toArray, .bool false]) ∧ Dg X ∧ Below W.heap.size W w' := by
  intro W h2
  have hg := grR_gs i n m n false ds (Nat.le_refl _) hm1 hmn
  refine (refgrow_any hi n m n false ya yn yc ds W hm1 hmn (Nat.le_refl _) hn2 hn2 (by omega) h2).mono ?_
  rintro e w' ⟨v, rfl, -, b⟩
  rw [hg.1, decide_eq_false hl]
  exact ⟨_, _, rfl, grR_dg hi n m n false ds h2.each, b⟩
set_option maxHeartbeats 4000000 in
theorem extrails_far0 (i c d t : List Int) (p : Bool) (na ta ya : Option Addr) (nn nc tn tc yn yc : Nat) (m n : Int) (ns ds : List (List Int))  (w : World) (_hi : Dg i) (hc : Dg c) (hd : Dg d) (_hN : DigsAt w na nn nc ns) (_hT : TextAt w ta tn tc t) (_hW : DigsAt w ya yn yc ds) (tab : ShaTab w) (h0 : 300 < nn)
 :
    Calls Tryd.prog 3 #[.agg (i.map (Value.int .u8)).toArray, .agg (sideC p c d (.slice na nn nc)).toArray, .int .i64 m, .int .i64 n, .slice ta tn tc, .slice ya yn yc] w fun e' w' => e' = .returned (.bool true) ∧ Below w.heap.size w w' := by
  have b1 := (Below.refl w.heap.size w).alloc (Nat.le_refl _) (.cells (i.map (Value.int .u8)).toArray 23 (0, 0))
  have b2 := b1.alloc b1.size (.cells (sideC p c d (.slice na nn nc)).toArray 28 (0, 0))
  have Ki := hid ((Blk.new (w := w) (n := w.heap.size) rfl (i.map (Value.int .u8)).toArray 23).old (.cells (sideC p c d (.slice na nn nc)).toArray 28 (0, 0)))
  have Ks := hid (Blk.new (w := (w.alloc (.cells (i.map (Value.int .u8)).toArray 23 (0, 0)))) (n := w.heap.size + 1) (by simp only [World.size_alloc]) (sideC p c d (.slice na nn nc)).toArray 28)
  have Hb := hid b2
  have hbz := b2.size
  have Hbs := hid (show w.heap.size + 1 + 1 = ((w.alloc (.cells (i.map (Value.int .u8)).toArray 23 (0, 0))).alloc (.cells (sideC p c d (.slice na nn nc)).toArray 28 (0, 0))).heap.size by simp only [World.size_alloc])
  have Htab := hid tab
  clear b1 b2 tab 
  have hca : (300 : Int) < (nn : Int) := by omega
  have cna : ((w.alloc (.cells (i.map (Value.int .u8)).toArray 23 (0, 0))).alloc (.cells (sideC p c d (.slice na nn nc)).toArray 28 (0, 0))).cell? ⟨w.heap.size + 1, 33 + 32, none⟩ = some (.slice na nn nc) := sideC_nodes' hc hd Ks.out
  go_enter Tryd.func3, Tryd.ntmps3
  go_wp2_with fail
  clear cna
  refine (knows23 _ (Htab.out.below Hb.out)).mono ?_
  rintro e w1 ⟨rfl, bw1⟩
  have HBw1 := hid (Below.on Hb.out bw1)
  have hsw1 := HBw1.out.size
  have Kiw1 := hid (Ki.out.below bw1)
  have Ksw1 := hid (Ks.out.below bw1)
  clear bw1
  go_wp2_with fail
  go_returns
  exact ⟨by first | rfl | simp, HBw1.out⟩
set_option maxHeartbeats 4000000 in
theorem extrails_far1 (i c d t : List Int) (p : Bool) (na ta ya : Option Addr) (nn nc tn tc yn yc : Nat) (m n : Int) (ns ds : List (List Int))  (w : World) (_hi : Dg i) (hc : Dg c) (hd : Dg d) (_hN : DigsAt w na nn nc ns) (_hT : TextAt w ta tn tc t) (_hW : DigsAt w ya yn yc ds) (tab : ShaTab w) (h0 : nn ≤ 300) (h1 : 1000 < tn)
 :
    Calls Tryd.prog 3 #[.agg (i.map (Value.int .u8)).toArray, .agg (sideC p c d (.slice na nn nc)).toArray, .int .i64 m, .int .i64 n, .slice ta tn tc, .slice ya yn yc] w fun e' w' => e' = .returned (.bool true) ∧ Below w.heap.size w w' := by
  have b1 := (Below.refl w.heap.size w).alloc (Nat.le_refl _) (.cells (i.map (Value.int .u8)).toArray 23 (0, 0))
  have b2 := b1.alloc b1.size (.cells (sideC p c d (.slice na nn nc)).toArray 28 (0, 0))
  have Ki := hid ((Blk.new (w := w) (n := w.heap.size) rfl (i.map (Value.int .u8)).toArray 23).old (.cells (sideC p c d (.slice na nn nc)).toArray 28 (0, 0)))
  have Ks := hid (Blk.new (w := (w.alloc (.cells (i.map (Value.int .u8)).toArray 23 (0, 0)))) (n := w.heap.size + 1) (by simp only [World.size_alloc]) (sideC p c d (.slice na nn nc)).toArray 28)
  have Hb := hid b2
  have hbz := b2.size
  have Hbs := hid (show w.heap.size + 1 + 1 = ((w.alloc (.cells (i.map (Value.int .u8)).toArray 23 (0, 0))).alloc (.cells (sideC p c d (.slice na nn nc)).toArray 28 (0, 0))).heap.size by simp only [World.size_alloc])
  have Htab := hid tab
  clear b1 b2 tab 
  have hca : ¬ (300 : Int) < (nn : Int) := by omega
  have hcb : (1000 : Int) < (tn : Int) := by omega
  have cna : ((w.alloc (.cells (i.map (Value.int .u8)).toArray 23 (0, 0))).alloc (.cells (sideC p c d (.slice na nn nc)).toArray 28 (0, 0))).cell? ⟨w.heap.size + 1, 33 + 32, none⟩ = some (.slice na nn nc) := sideC_nodes' hc hd Ks.out
  go_enter Tryd.func3, Tryd.ntmps3
  go_wp2_with fail
  clear cna
  refine (knows23 _ (Htab.out.below Hb.out)).mono ?_
  rintro e w1 ⟨rfl, bw1⟩
  have HBw1 := hid (Below.on Hb.out bw1)
  have hsw1 := HBw1.out.size
  have Kiw1 := hid (Ki.out.below bw1)
  have Ksw1 := hid (Ks.out.below bw1)
  clear bw1
  go_wp2_with fail
  go_returns
  exact ⟨by first | rfl | simp, HBw1.out⟩
set_option maxHeartbeats 4000000 in
theorem extrails_far2 (i c d t : List Int) (p : Bool) (na ta ya : Option Addr) (nn nc tn tc yn yc : Nat) (m n : Int) (ns ds : List (List Int))  (w : World) (_hi : Dg i) (hc : Dg c) (hd : Dg d) (_hN : DigsAt w na nn nc ns) (_hT : TextAt w ta tn tc t) (_hW : DigsAt w ya yn yc ds) (tab : ShaTab w) (h0 : nn ≤ 300) (h1 : tn ≤ 1000) (h2 : 40 < yn)
 :
    Calls Tryd.prog 3 #[.agg (i.map (Value.int .u8)).toArray, .agg (sideC p c d (.slice na nn nc)).toArray, .int .i64 m, .int .i64 n, .slice ta tn tc, .slice ya yn yc] w fun e' w' => e' = .returned (.bool true) ∧ Below w.heap.size w w' := by
  have b1 := (Below.refl w.heap.size w).alloc (Nat.le_refl _) (.cells (i.map (Value.int .u8)).toArray 23 (0, 0))
  have b2 := b1.alloc b1.size (.cells (sideC p c d (.slice na nn nc)).toArray 28 (0, 0))
  have Ki := hid ((Blk.new (w := w) (n := w.heap.size) rfl (i.map (Value.int .u8)).toArray 23).old (.cells (sideC p c d (.slice na nn nc)).toArray 28 (0, 0)))
  have Ks := hid (Blk.new (w := (w.alloc (.cells (i.map (Value.int .u8)).toArray 23 (0, 0)))) (n := w.heap.size + 1) (by simp only [World.size_alloc]) (sideC p c d (.slice na nn nc)).toArray 28)
  have Hb := hid b2
  have hbz := b2.size
  have Hbs := hid (show w.heap.size + 1 + 1 = ((w.alloc (.cells (i.map (Value.int .u8)).toArray 23 (0, 0))).alloc (.cells (sideC p c d (.slice na nn nc)).toArray 28 (0, 0))).heap.size by simp only [World.size_alloc])
  have Htab := hid tab
  clear b1 b2 tab 
  have hca : ¬ (300 : Int) < (nn : Int) := by omega
  have hcb : ¬ (1000 : Int) < (tn : Int) := by omega
  have hcc : (40 : Int) < (yn : Int) := by omega
  have cna : ((w.alloc (.cells (i.map (Value.int .u8)).toArray 23 (0, 0))).alloc (.cells (sideC p c d (.slice na nn nc)).toArray 28 (0, 0))).cell? ⟨w.heap.size + 1, 33 + 32, none⟩ = some (.slice na nn nc) := sideC_nodes' hc hd Ks.out
  go_enter Tryd.func3, Tryd.ntmps3
  go_wp2_with fail
  clear cna
  refine (knows23 _ (Htab.out.below Hb.out)).mono ?_
  rintro e w1 ⟨rfl, bw1⟩
  have HBw1 := hid (Below.on Hb.out bw1)
  have hsw1 := HBw1.out.size
  have Kiw1 := hid (Ki.out.below bw1)
  have Ksw1 := hid (Ks.out.below bw1)
  clear bw1
  go_wp2_with fail
  go_returns
  exact ⟨by first | rfl | simp, HBw1.out⟩
theorem extractTrails_any (i c d t : List Int) (p : Bool) (na ta ya : Option Addr) (nn nc tn tc yn yc : Nat) (m n : Int) (ns ds : List (List Int)) (w : World) (hi : Dg i) (hc : Dg c) (hd : Dg d) (hN : DigsAt w na nn nc ns) (hT : TextAt w ta tn tc t) (hW : DigsAt w ya yn yc ds) (tab : ShaTab w) :
    Calls Tryd.prog 3 #[.agg (i.map (Value.int .u8)).toArray, .agg (sideC p c d (.slice na nn nc)).toArray, .int .i64 m, .int .i64 n, .slice ta tn tc, .slice ya yn yc] w fun e' w' => e' = .returned (.bool true) ∧ Below w.heap.size w w' := by
  rcases Nat.lt_or_ge 300 nn with h | h0
  · exact extrails_far0 i c d t p na ta ya nn nc tn tc yn yc m n ns ds w hi hc hd hN hT hW tab h
  rcases Nat.lt_or_ge 1000 tn with h | h1
  · exact extrails_far1 i c d t p na ta ya nn nc tn tc yn yc m n ns ds w hi hc hd hN hT hW tab h0 h
  rcases Nat.lt_or_ge 40 yn with h | h2
  · exact extrails_far2 i c d t p na ta ya nn nc tn tc yn yc m n ns ds w hi hc hd hN hT hW tab h0 h1 h
  by_cases hk : knN d 256 = nn
  · skip
    by_cases q1 : n < 1
    · exact extrails_w_lt i c d t p na ta ya nn nc tn tc yn yc m n ns ds _ w hi hc hd hN hT hW tab h0 h1 h2 q1 (ct_good i c d p na nn nc ns hi hc hd hk) (cw_yes d na nn nc hd hk) (cr_any i c d p na nn nc ns hi hc hd hk) (cx_far t ta ya tn tc yn yc m n ds (by omega)) (cg_far i ya yn yc m n ds hi (by omega))
    by_cases q2 : 200 < n
    · exact extrails_w_gt i c d t p na ta ya nn nc tn tc yn yc m n ns ds _ w hi hc hd hN hT hW tab h0 h1 h2 q1 q2 (ct_good i c d p na nn nc ns hi hc hd hk) (cw_yes d na nn nc hd hk) (cr_any i c d p na nn nc ns hi hc hd hk) (cx_far t ta ya tn tc yn yc m n ds (by omega)) (cg_far i ya yn yc m n ds hi (by omega))
    by_cases q3 : m < 0
    · exact extrails_w_neg i c d t p na ta ya nn nc tn tc yn yc m n ns ds _ w hi hc hd hN hT hW tab h0 h1 h2 q1 q2 q3 (ct_good i c d p na nn nc ns hi hc hd hk) (cw_yes d na nn nc hd hk) (cr_any i c d p na nn nc ns hi hc hd hk) (cx_far t ta ya tn tc yn yc m n ds (by omega)) (cg_far i ya yn yc m n ds hi (by omega))
    by_cases q4 : n < m
    · exact extrails_w_far i c d t p na ta ya nn nc tn tc yn yc m n ns ds _ w hi hc hd hN hT hW tab h0 h1 h2 q1 q2 q3 q4 (ct_good i c d p na nn nc ns hi hc hd hk) (cw_yes d na nn nc hd hk) (cr_any i c d p na nn nc ns hi hc hd hk) (cx_far t ta ya tn tc yn yc m n ds (by omega)) (cg_far i ya yn yc m n ds hi (by omega))
    obtain ⟨N, rfl⟩ : ∃ N : Nat, n = N := ⟨n.toNat, by omega⟩
    obtain ⟨M, rfl⟩ : ∃ M : Nat, m = M := ⟨m.toNat, by omega⟩
    by_cases he : (M : Int) = N
    · by_cases hg : ds.length = (gsF N M N false).1.length + oneIf (gsF N M N false).2
      · exact extrails_w_eqy i c d t p na ta ya nn nc tn tc yn yc (M : Int) (N : Int) ns ds _ _ w hi hc hd hN hT hW tab h0 h1 h2 q1 q2 q3 q4 he (ct_good i c d p na nn nc ns hi hc hd hk) (cw_yes d na nn nc hd hk) (cr_any i c d p na nn nc ns hi hc hd hk) (cx_far t ta ya tn tc yn yc (M : Int) (N : Int) ds (by omega)) (cg_good i ya yn yc M N ds hi (by omega) (by omega) (by omega) h2 hg) (cgr_yes i ya yn yc M N ds hi (by omega) (by omega) (by omega) h2 hg)
      · exact extrails_w_eqn i c d t p na ta ya nn nc tn tc yn yc (M : Int) (N : Int) ns ds _ w hi hc hd hN hT hW tab h0 h1 h2 q1 q2 q3 q4 he (ct_good i c d p na nn nc ns hi hc hd hk) (cw_yes d na nn nc hd hk) (cr_any i c d p na nn nc ns hi hc hd hk) (cx_far t ta ya tn tc yn yc (M : Int) (N : Int) ds (by omega)) (cg_len i ya yn yc M N ds hi (by omega) (by omega) (by omega) hg) (cgr_no i ya yn yc M N ds hi (by omega) (by omega) (by omega) h2 hg)
    by_cases hx : ds.length = (sidesF N N M).length
    · by_cases hz : (M : Int) = 0
      · exact extrails_w_neyz i c d t p na ta ya nn nc tn tc yn yc (M : Int) (N : Int) ns ds _ _ w hi hc hd hN hT hW tab h0 h1 h2 q1 q2 q3 q4 he hz (ct_good i c d p na nn nc ns hi hc hd hk) (cw_yes d na nn nc hd hk) (cr_any i c d p na nn nc ns hi hc hd hk) (cx_good t ta ya tn tc yn yc M N ds (by omega) (by omega) (by omega) h1 h2 hx) (cg_far i ya yn yc (M : Int) (N : Int) ds hi (by omega)) (cxr_yes t ta ya tn tc yn yc M N ds (by omega) (by omega) (by omega) h1 h2 hx)
      by_cases hg : ds.length = (gsF N M N false).1.length + oneIf (gsF N M N false).2
      · exact extrails_w_neyy i c d t p na ta ya nn nc tn tc yn yc (M : Int) (N : Int) ns ds _ _ _ w hi hc hd hN hT hW tab h0 h1 h2 q1 q2 q3 q4 he hz (ct_good i c d p na nn nc ns hi hc hd hk) (cw_yes d na nn nc hd hk) (cr_any i c d p na nn nc ns hi hc hd hk) (cx_good t ta ya tn tc yn yc M N ds (by omega) (by omega) (by omega) h1 h2 hx) (cg_good i ya yn yc M N ds hi (by omega) (by omega) (by omega) h2 hg) (cxr_yes t ta ya tn tc yn yc M N ds (by omega) (by omega) (by omega) h1 h2 hx) (cgr_yes i ya yn yc M N ds hi (by omega) (by omega) (by omega) h2 hg)
      · exact extrails_w_neyn i c d t p na ta ya nn nc tn tc yn yc (M : Int) (N : Int) ns ds _ _ w hi hc hd hN hT hW tab h0 h1 h2 q1 q2 q3 q4 he hz (ct_good i c d p na nn nc ns hi hc hd hk) (cw_yes d na nn nc hd hk) (cr_any i c d p na nn nc ns hi hc hd hk) (cx_good t ta ya tn tc yn yc M N ds (by omega) (by omega) (by omega) h1 h2 hx) (cg_len i ya yn yc M N ds hi (by omega) (by omega) (by omega) hg) (cxr_yes t ta ya tn tc yn yc M N ds (by omega) (by omega) (by omega) h1 h2 hx) (cgr_no i ya yn yc M N ds hi (by omega) (by omega) (by omega) h2 hg)
    · by_cases hz : (M : Int) = 0
      · exact extrails_w_nenz i c d t p na ta ya nn nc tn tc yn yc (M : Int) (N : Int) ns ds _ w hi hc hd hN hT hW tab h0 h1 h2 q1 q2 q3 q4 he hz (ct_good i c d p na nn nc ns hi hc hd hk) (cw_yes d na nn nc hd hk) (cr_any i c d p na nn nc ns hi hc hd hk) (cx_len t ta ya tn tc yn yc M N ds (by omega) (by omega) (by omega) hx) (cg_far i ya yn yc (M : Int) (N : Int) ds hi (by omega)) (cxr_no t ta ya tn tc yn yc M N ds (by omega) (by omega) (by omega) h1 h2 hx)
      by_cases hg : ds.length = (gsF N M N false).1.length + oneIf (gsF N M N false).2
      · exact extrails_w_neny i c d t p na ta ya nn nc tn tc yn yc (M : Int) (N : Int) ns ds _ _ w hi hc hd hN hT hW tab h0 h1 h2 q1 q2 q3 q4 he hz (ct_good i c d p na nn nc ns hi hc hd hk) (cw_yes d na nn nc hd hk) (cr_any i c d p na nn nc ns hi hc hd hk) (cx_len t ta ya tn tc yn yc M N ds (by omega) (by omega) (by omega) hx) (cg_good i ya yn yc M N ds hi (by omega) (by omega) (by omega) h2 hg) (cxr_no t ta ya tn tc yn yc M N ds (by omega) (by omega) (by omega) h1 h2 hx) (cgr_yes i ya yn yc M N ds hi (by omega) (by omega) (by omega) h2 hg)
      · exact extrails_w_nenn i c d t p na ta ya nn nc tn tc yn yc (M : Int) (N : Int) ns ds _ w hi hc hd hN hT hW tab h0 h1 h2 q1 q2 q3 q4 he hz (ct_good i c d p na nn nc ns hi hc hd hk) (cw_yes d na nn nc hd hk) (cr_any i c d p na nn nc ns hi hc hd hk) (cx_len t ta ya tn tc yn yc M N ds (by omega) (by omega) (by omega) hx) (cg_len i ya yn yc M N ds hi (by omega) (by omega) (by omega) hg) (cxr_no t ta ya tn tc yn yc M N ds (by omega) (by omega) (by omega) h1 h2 hx) (cgr_no i ya yn yc M N ds hi (by omega) (by omega) (by omega) h2 hg)
  · skip
    by_cases q1 : n < 1
    · exact extrails_u_lt i c d t p na ta ya nn nc tn tc yn yc m n ns ds  w hi hc hd hN hT hW tab h0 h1 h2 q1 (ct_bad i c d p na nn nc ns hi hc hd hk) (cw_no d na nn nc hd hk) (cx_far t ta ya tn tc yn yc m n ds (by omega)) (cg_far i ya yn yc m n ds hi (by omega))
    by_cases q2 : 200 < n
    · exact extrails_u_gt i c d t p na ta ya nn nc tn tc yn yc m n ns ds  w hi hc hd hN hT hW tab h0 h1 h2 q1 q2 (ct_bad i c d p na nn nc ns hi hc hd hk) (cw_no d na nn nc hd hk) (cx_far t ta ya tn tc yn yc m n ds (by omega)) (cg_far i ya yn yc m n ds hi (by omega))
    by_cases q3 : m < 0
    · exact extrails_u_neg i c d t p na ta ya nn nc tn tc yn yc m n ns ds  w hi hc hd hN hT hW tab h0 h1 h2 q1 q2 q3 (ct_bad i c d p na nn nc ns hi hc hd hk) (cw_no d na nn nc hd hk) (cx_far t ta ya tn tc yn yc m n ds (by omega)) (cg_far i ya yn yc m n ds hi (by omega))
    by_cases q4 : n < m
    · exact extrails_u_far i c d t p na ta ya nn nc tn tc yn yc m n ns ds  w hi hc hd hN hT hW tab h0 h1 h2 q1 q2 q3 q4 (ct_bad i c d p na nn nc ns hi hc hd hk) (cw_no d na nn nc hd hk) (cx_far t ta ya tn tc yn yc m n ds (by omega)) (cg_far i ya yn yc m n ds hi (by omega))
    obtain ⟨N, rfl⟩ : ∃ N : Nat, n = N := ⟨n.toNat, by omega⟩
    obtain ⟨M, rfl⟩ : ∃ M : Nat, m = M := ⟨m.toNat, by omega⟩
    by_cases he : (M : Int) = N
    · by_cases hg : ds.length = (gsF N M N false).1.length + oneIf (gsF N M N false).2
      · exact extrails_u_eqy i c d t p na ta ya nn nc tn tc yn yc (M : Int) (N : Int) ns ds _ w hi hc hd hN hT hW tab h0 h1 h2 q1 q2 q3 q4 he (ct_bad i c d p na nn nc ns hi hc hd hk) (cw_no d na nn nc hd hk) (cx_far t ta ya tn tc yn yc (M : Int) (N : Int) ds (by omega)) (cg_good i ya yn yc M N ds hi (by omega) (by omega) (by omega) h2 hg) (cgr_yes i ya yn yc M N ds hi (by omega) (by omega) (by omega) h2 hg)
      · exact extrails_u_eqn i c d t p na ta ya nn nc tn tc yn yc (M : Int) (N : Int) ns ds  w hi hc hd hN hT hW tab h0 h1 h2 q1 q2 q3 q4 he (ct_bad i c d p na nn nc ns hi hc hd hk) (cw_no d na nn nc hd hk) (cx_far t ta ya tn tc yn yc (M : Int) (N : Int) ds (by omega)) (cg_len i ya yn yc M N ds hi (by omega) (by omega) (by omega) hg) (cgr_no i ya yn yc M N ds hi (by omega) (by omega) (by omega) h2 hg)
    by_cases hx : ds.length = (sidesF N N M).length
    · by_cases hz : (M : Int) = 0
      · exact extrails_u_neyz i c d t p na ta ya nn nc tn tc yn yc (M : Int) (N : Int) ns ds _ w hi hc hd hN hT hW tab h0 h1 h2 q1 q2 q3 q4 he hz (ct_bad i c d p na nn nc ns hi hc hd hk) (cw_no d na nn nc hd hk) (cx_good t ta ya tn tc yn yc M N ds (by omega) (by omega) (by omega) h1 h2 hx) (cg_far i ya yn yc (M : Int) (N : Int) ds hi (by omega)) (cxr_yes t ta ya tn tc yn yc M N ds (by omega) (by omega) (by omega) h1 h2 hx)
      by_cases hg : ds.length = (gsF N M N false).1.length + oneIf (gsF N M N false).2
      · exact extrails_u_neyy i c d t p na ta ya nn nc tn tc yn yc (M : Int) (N : Int) ns ds _ _ w hi hc hd hN hT hW tab h0 h1 h2 q1 q2 q3 q4 he hz (ct_bad i c d p na nn nc ns hi hc hd hk) (cw_no d na nn nc hd hk) (cx_good t ta ya tn tc yn yc M N ds (by omega) (by omega) (by omega) h1 h2 hx) (cg_good i ya yn yc M N ds hi (by omega) (by omega) (by omega) h2 hg) (cxr_yes t ta ya tn tc yn yc M N ds (by omega) (by omega) (by omega) h1 h2 hx) (cgr_yes i ya yn yc M N ds hi (by omega) (by omega) (by omega) h2 hg)
      · exact extrails_u_neyn i c d t p na ta ya nn nc tn tc yn yc (M : Int) (N : Int) ns ds _ w hi hc hd hN hT hW tab h0 h1 h2 q1 q2 q3 q4 he hz (ct_bad i c d p na nn nc ns hi hc hd hk) (cw_no d na nn nc hd hk) (cx_good t ta ya tn tc yn yc M N ds (by omega) (by omega) (by omega) h1 h2 hx) (cg_len i ya yn yc M N ds hi (by omega) (by omega) (by omega) hg) (cxr_yes t ta ya tn tc yn yc M N ds (by omega) (by omega) (by omega) h1 h2 hx) (cgr_no i ya yn yc M N ds hi (by omega) (by omega) (by omega) h2 hg)
    · by_cases hz : (M : Int) = 0
      · exact extrails_u_nenz i c d t p na ta ya nn nc tn tc yn yc (M : Int) (N : Int) ns ds  w hi hc hd hN hT hW tab h0 h1 h2 q1 q2 q3 q4 he hz (ct_bad i c d p na nn nc ns hi hc hd hk) (cw_no d na nn nc hd hk) (cx_len t ta ya tn tc yn yc M N ds (by omega) (by omega) (by omega) hx) (cg_far i ya yn yc (M : Int) (N : Int) ds hi (by omega)) (cxr_no t ta ya tn tc yn yc M N ds (by omega) (by omega) (by omega) h1 h2 hx)
      by_cases hg : ds.length = (gsF N M N false).1.length + oneIf (gsF N M N false).2
      · exact extrails_u_neny i c d t p na ta ya nn nc tn tc yn yc (M : Int) (N : Int) ns ds _ w hi hc hd hN hT hW tab h0 h1 h2 q1 q2 q3 q4 he hz (ct_bad i c d p na nn nc ns hi hc hd hk) (cw_no d na nn nc hd hk) (cx_len t ta ya tn tc yn yc M N ds (by omega) (by omega) (by omega) hx) (cg_good i ya yn yc M N ds hi (by omega) (by omega) (by omega) h2 hg) (cxr_no t ta ya tn tc yn yc M N ds (by omega) (by omega) (by omega) h1 h2 hx) (cgr_yes i ya yn yc M N ds hi (by omega) (by omega) (by omega) h2 hg)
      · exact extrails_u_nenn i c d t p na ta ya nn nc tn tc yn yc (M : Int) (N : Int) ns ds  w hi hc hd hN hT hW tab h0 h1 h2 q1 q2 q3 q4 he hz (ct_bad i c d p na nn nc ns hi hc hd hk) (cw_no d na nn nc hd hk) (cx_len t ta ya tn tc yn yc M N ds (by omega) (by omega) (by omega) hx) (cg_len i ya yn yc M N ds hi (by omega) (by omega) (by omega) hg) (cxr_no t ta ya tn tc yn yc M N ds (by omega) (by omega) (by omega) h1 h2 hx) (cgr_no i ya yn yc M N ds hi (by omega) (by omega) (by omega) h2 hg)
end Go.Proofs.YtkakoiaahgchmaaDoor
