/-
  Layer 19: the reference's Up and Holds.
-/
import Derived.Test.YthaicocfbmpnmaaDoorLLogJ
import Derived.Test.YthaicocfbmpnmaaDoorLNLate
namespace Go.Proofs.YthaicocfbmpnmaaDoor
open Go.ChangeShapes Go.WideShapes Go.ChangeAt Go.RowKit

set_option maxHeartbeats 4000000 in
set_option maxRecDepth 100000 in
theorem quiet_cut_hh {op : Oper} {a : Act} {C : World → Prop} {K : Act → Prop} (x y : Operand) (ho : op.op = .slice 27 x none (some y) none) (a0 : Option Addr) (len cap n : Nat) (v : Int) (hx : a.eval x = .slice a0 len cap) (hy : a.eval y = .int .i64 v) (hv : v = n) (hn : n ≤ cap)
    (h : K (a.put op.dst (.slice a0 n cap))) : op.quiet Tryd.prog a C K :=
  ⟨.slice a0 n cap, fun w' _ => by
    subst hv
    have hr := run_cutd_h (P := Tryd.prog) Tryd.underlying27 size_digest a0 len cap (n : Int) w' (by omega) (by omega)
    rw [Int.toNat_natCast] at hr
    have he : Tryd.prog.elem 27 = 23 := by simp [Program.elem, Tryd.underlying27]
    have hs := run_sliceAt_slice (P := Tryd.prog) (w := w') 27 (.slice a0 len cap) none (some (.int .i64 n)) none (by rw [he]; exact Tryd.underlying27)
    rw [hr] at hs
    unfold Oper.quietAt execOp
    simp only [ho, hx, hy, Option.map_none, Option.map_some, Sem.run_bind, Sem.run_pure, Result.andThen_ok, hs]
    simp [Oper.quietUpon], h⟩
/-- Climbing, as the reference does it: with the digests that are left. -/
def upR : Nat → List Int → Nat → Nat → List (List Int) → List Int × Bool
  | 0, X, _, _, _ => (X, false)
  | f + 1, X, n, i, ds => if n = 1 then (X, decide (ds.length = 0)) else if ds.length = 0 then (X, false) else if i < halfN n then
      (nodeL (upR f X (halfN n) i (ds.take (ds.length - 1))).1 (ds.getD (ds.length - 1) []), (upR f X (halfN n) i (ds.take (ds.length - 1))).2)
    else (nodeL (ds.getD (ds.length - 1) []) (upR f X (n - halfN n) (i - halfN n) (ds.take (ds.length - 1))).1, (upR f X (n - halfN n) (i - halfN n) (ds.take (ds.length - 1))).2)
theorem Dg.upR {X : List Int} (hX : Dg X) (f : Nat) : ∀ n i ds, Dg (upR f X n i ds).1 := by
  induction f with
  | zero => intro n i ds; exact hX
  | succ f ih =>
    intro n i ds
    unfold Go.Proofs.YthaicocfbmpnmaaDoor.upR
    split
    · exact hX
    · split
      · exact hX
      · split
        · exact Dg.nodeL _ _
        · exact Dg.nodeL _ _

set_option maxHeartbeats 4000000 in
set_option maxRecDepth 100000 in
theorem up_one (X : List Int) (i : Int) (ya : Option Addr) (len yc : Nat) (w : World) (hX : Dg X) :
    Calls Tryd.prog 70 #[.agg (X.map (Value.int .u8)).toArray, .int .i64 1, .int .i64 i, .slice ya len yc] w fun e w' => e = .returned (.tuple #[.agg (X.map (Value.int .u8)).toArray, .bool ((len : Int) == 0)]) ∧ Below w.heap.size w w' := by
  have b1 := (Below.refl w.heap.size w).alloc (Nat.le_refl _) (.cells (X.map (Value.int .u8)).toArray 23 (0, 0))
  have b2 := b1.alloc b1.size (.cells (byteCells 32 []) 23 (0, 0))
  have Ka := hid ((Blk.new (w := w) (n := w.heap.size) rfl (X.map (Value.int .u8)).toArray 23).old (.cells (byteCells 32 []) 23 (0, 0)))
  have Kr := hid (Blk.new (w := (w.alloc (.cells (X.map (Value.int .u8)).toArray 23 (0, 0)))) (n := w.heap.size + 1) (by simp only [World.size_alloc]) (byteCells 32 []) 23)
  have Hb := hid b2
  have hbz := b2.size
  have Hbs := hid (show w.heap.size + 1 + 1 = ((w.alloc (.cells (X.map (Value.int .u8)).toArray 23 (0, 0))).alloc (.cells (byteCells 32 []) 23 (0, 0))).heap.size by simp only [World.size_alloc])
  clear b1 b2 
  go_enter Tryd.func70, Tryd.ntmps70
  go_wp2_with (first
     | (refine wpList_load_blk rfl 23 _ rfl (w.heap.size) rfl _ 23 Ka.out _ Tryd.underlying23 rfl 32 size_digest hX.size ?_)
     | (
      refine wpList_store_blk rfl 23 _ _ rfl (w.heap.size + 1) (X.map (Value.int .u8)).toArray rfl rfl _ 23 Kr.out 32 size_digest zsize hX.size (ints_one _ _) ?_
      intro w9 hb9 hk9
      have HB9 := hid (hb9.below Hb.out Hb.out.size (by omega))
      have HK9 := hid hk9
      clear hb9 hk9))
  exact bodyPost_ret (v := .tuple #[.agg (X.map (Value.int .u8)).toArray, .bool ((len : Int) == 0)]) (results_blk_tmp Tryd.results70 _ (w.heap.size + 1) rfl _ rfl _ 23 HK9.out _ Tryd.underlying23 rfl 32 size_digest hX.size) rfl ⟨rfl, HB9.out⟩

set_option maxHeartbeats 4000000 in
set_option maxRecDepth 100000 in
theorem up_nil (X : List Int) (n i : Int) (ya : Option Addr) (yc : Nat) (w : World) (hX : Dg X) (hn : ¬ n = 1) :
    Calls Tryd.prog 70 #[.agg (X.map (Value.int .u8)).toArray, .int .i64 n, .int .i64 i, .slice ya 0 yc] w fun e w' => e = .returned (.tuple #[.agg (X.map (Value.int .u8)).toArray, .bool false]) ∧ Below w.heap.size w w' := by
  have b1 := (Below.refl w.heap.size w).alloc (Nat.le_refl _) (.cells (X.map (Value.int .u8)).toArray 23 (0, 0))
  have b2 := b1.alloc b1.size (.cells (byteCells 32 []) 23 (0, 0))
  have Ka := hid ((Blk.new (w := w) (n := w.heap.size) rfl (X.map (Value.int .u8)).toArray 23).old (.cells (byteCells 32 []) 23 (0, 0)))
  have Kr := hid (Blk.new (w := (w.alloc (.cells (X.map (Value.int .u8)).toArray 23 (0, 0)))) (n := w.heap.size + 1) (by simp only [World.size_alloc]) (byteCells 32 []) 23)
  have Hb := hid b2
  have hbz := b2.size
  have Hbs := hid (show w.heap.size + 1 + 1 = ((w.alloc (.cells (X.map (Value.int .u8)).toArray 23 (0, 0))).alloc (.cells (byteCells 32 []) 23 (0, 0))).heap.size by simp only [World.size_alloc])
  clear b1 b2 
  go_enter Tryd.func70, Tryd.ntmps70
  go_wp2_with (first
     | (refine wpList_load_blk rfl 23 _ rfl (w.heap.size) rfl _ 23 Ka.out _ Tryd.underlying23 rfl 32 size_digest hX.size ?_)
     | (
      refine wpList_store_blk rfl 23 _ _ rfl (w.heap.size + 1) (X.map (Value.int .u8)).toArray rfl rfl _ 23 Kr.out 32 size_digest zsize hX.size (ints_one _ _) ?_
      intro w9 hb9 hk9
      have HB9 := hid (hb9.below Hb.out Hb.out.size (by omega))
      have HK9 := hid hk9
      clear hb9 hk9))
  exact bodyPost_ret (v := .tuple #[.agg (X.map (Value.int .u8)).toArray, .bool false]) (results_blk_tmp Tryd.results70 _ (w.heap.size + 1) rfl _ rfl _ 23 HK9.out _ Tryd.underlying23 rfl 32 size_digest hX.size) rfl ⟨rfl, HB9.out⟩

set_option maxHeartbeats 4000000 in
set_option maxRecDepth 100000 in
theorem up_l (X : List Int) (n i k q len : Nat) (x o yc : Nat) (ds : List (List Int)) (w : World) (hX : Dg X) (hn : 2 ≤ n) (hn2 : n ≤ 200) (_hin : i < n) (hkk : halfN n = k) (hik : i < k) (hq1 : q < len) (hq2 : len ≤ q + 1) (hlen : len ≤ 1000000) (hD : DigsAt w (some ⟨x, o, none⟩) len yc ds)
    (R1 : List Int) (ok : Bool) (hR : Dg R1) (cu : ∀ W : World, DigsAt W (some ⟨x, o, none⟩) q yc (ds.take q) → Calls Tryd.prog 70 #[.agg (X.map (Value.int .u8)).toArray, .int .i64 (k : Int), .int .i64 (i : Int), .slice (some ⟨x, o, none⟩) q yc] W fun e w' => e = .returned (.tuple #[.agg (R1.map (Value.int .u8)).toArray, .bool ok]) ∧ Below W.heap.size W w') :
    Calls Tryd.prog 70 #[.agg (X.map (Value.int .u8)).toArray, .int .i64 n, .int .i64 i, .slice (some ⟨x, o, none⟩) len yc] w fun e w' => e = .returned (.tuple #[.agg ((nodeL R1 (ds.getD q [])).map (Value.int .u8)).toArray, .bool ok]) ∧ Below w.heap.size w w' := by
  obtain ⟨hk1, hk2⟩ := halfN_lt hn
  rw [hkk] at hk1 hk2
  have hn1 : ¬ ((n : Int) = 1) := by omega
  have hl0 : ¬ ((len : Int) = 0) := by omega
  have hw0 : wrap64 ((len : Int) - 1) = (len : Int) - 1 := by unfold wrap64; omega
  have hqc := hD.le
  obtain ⟨x0, o0, hxa, hx, hc⟩ := hD.at_ (by omega)
  cases hxa
  have Hc := hid (hc q (by omega))
  have DQ := hid (hD.head q (by omega))
  have CH := hid (fun W : World => (refhalf_any n n W (Nat.le_refl _) hn (by omega)).mono (fun e w' (h : e = .returned (.int .i64 (halfN n : Int)) ∧ w' = W) => show e = .returned (.int .i64 (halfN n : Int)) ∧ Below W.heap.size W w' from ⟨h.1, by rw [h.2]; exact Below.refl _ _⟩))
  rw [hkk] at CH
  have CU := hid cu
  have HY := hid (hD.get (j := q) (by omega))
  generalize ds.getD q [] = Y at *
  have HR := hid hR
  have CN := hid (fun (W : World) => refnode_any R1 Y W HR.out HY.out)
  have HX9 := hid (Dg.nodeL R1 Y)
  generalize nodeL R1 Y = X9 at *
  have hikI : (i : Int) < k := by omega
  clear cu hR hkk hc hD
  have b1 := (Below.refl w.heap.size w).alloc (Nat.le_refl _) (.cells (X.map (Value.int .u8)).toArray 23 (0, 0))
  have b2 := b1.alloc b1.size (.cells (byteCells 32 []) 23 (0, 0))
  have Ka := hid ((Blk.new (w := w) (n := w.heap.size) rfl (X.map (Value.int .u8)).toArray 23).old (.cells (byteCells 32 []) 23 (0, 0)))
  have Kr := hid (Blk.new (w := (w.alloc (.cells (X.map (Value.int .u8)).toArray 23 (0, 0)))) (n := w.heap.size + 1) (by simp only [World.size_alloc]) (byteCells 32 []) 23)
  have Hb := hid b2
  have hbz := b2.size
  have Hbs := hid (show w.heap.size + 1 + 1 = ((w.alloc (.cells (X.map (Value.int .u8)).toArray 23 (0, 0))).alloc (.cells (byteCells 32 []) 23 (0, 0))).heap.size by simp only [World.size_alloc])
  clear b1 b2 
  go_enter Tryd.func70, Tryd.ntmps70
  go_wp2_with fail
  refine (CH.out _).mono ?_
  rintro e w1 ⟨rfl, bw1⟩
  have HBw1 := hid (Below.on Hb.out bw1)
  have hsw1 := HBw1.out.size
  have Kaw1 := hid (Ka.out.below bw1)
  have Krw1 := hid (Kr.out.below bw1)
  clear bw1
  have Hcx : Hid (w1.rangeAt x (o + q * 32) (Y.map (Value.int .u8))) := hid (fun j v hv => (HBw1.out.cell (p := ⟨x, o + q * 32 + j, none⟩) hx).trans (Hc.out j v hv))
  go_wp2_with (first
     | (refine wpList_index_digs rfl 27 _ _ rfl Tryd.underlying27 size_digest x o len yc rfl _ _ rfl q (by omega) (by omega) ?_)
     | (refine wpList_load_mid rfl 23 _ rfl x (o + q * 32) rfl _ _ Hcx.out Tryd.underlying23 rfl (by rw [List.length_map, HY.out.len]; exact size_digest) ?_)
     | (
        refine wpList_store_blk rfl 23 _ _ rfl (w1.heap.size) (Y.map (Value.int .u8)).toArray rfl rfl _ 23 (Blk.new rfl (byteCells 32 []) _) 32 size_digest zsize HY.out.size (ints_one _ _) ?_
        intro w2 hbw2 hkw2
        have hw2 := hbw2.below ((Below.refl w1.heap.size w1).alloc (Nat.le_refl _) _) (by simp only [World.size_alloc]; omega) (Nat.le_refl _)
        have HBw2 := hid (Below.on HBw1.out hw2)
        have hsw2 := HBw2.out.size
        have Kaw2 := hid (Kaw1.out.below hw2)
        have hlaw2 := Kaw1.out.lt
        have Krw2 := hid (Krw1.out.below hw2)
        have hlrw2 := Krw1.out.lt
        have Kow2 := hid hkw2
        have hfw2 : w.heap.size ≤ w1.heap.size := HBw1.out.size
        clear hbw2 hkw2 hw2))
  refine wp_region_late 13 11 13 [0, 1, 2, 3, 4, 5, 6, 7, 8, 9, 10, 11] [12] [(.b 12, [], [])] (by kernel_rfl) (by kernel_rfl) rfl (by kernel_rfl) (fun _ _ d _ _ h => by cases d <;> exact h) ?_
  simp only [late]
  apply Exists.intro
  refine ⟨fun w0 hb0 hF0 => ?_, ?_⟩
  · skip
    have x0 : ∀ w', (∃ x : Ext w0, w' = x.at_) → ∃ T, Blk w' (w.heap.size) (X.map (Value.int .u8)).toArray T := fun w' ⟨x, hx⟩ => ⟨_, hx ▸ (Kaw2.out.below hb0).below x.same⟩
    have c0 := fun e : Ext w0 => CU.out e.at_ (DQ.out.below (Below.on (Below.on HBw2.out hb0) e.same))
    simp only [pick, List.getElem?_toArray, List.getElem?_cons_succ, List.getElem?_cons_zero, Option.toList_some, List.cons_append, List.nil_append]
    repeat (first | (go_big_quiet_want; refine quiet_load_blk 23 _ rfl (w.heap.size) rfl _ x0 _ Tryd.underlying23 rfl 32 size_digest hX.size ?_; go_big_quiet_on; simp only [Act.put, List.setIfInBounds_toArray, List.set_cons_zero, List.set_cons_succ]) | (go_big_quiet_want; refine quiet_cut_hh _ _ rfl (some ⟨x, o, none⟩) len yc q _ rfl rfl (by omega) (by omega) ?_; go_big_quiet_on; simp only [Act.put, List.setIfInBounds_toArray, List.set_cons_zero, List.set_cons_succ]) | go_big_quiet_step (first | (go_at_call 70; with_reducible exact Calls.ext (c0 _))))
    exact wpQuiet_nil rfl
  refine AlChk.one rfl (fun b => .pointer (some ⟨b, 0, none⟩)) (.cells (byteCells 32 []) 23 (0, 0)) rfl (fun w3 hb3 hF3 => by go_simp; rfl) ?_
  refine AlChk.nil ?_
  refine Walk.blk rfl (fun b => .pointer (some ⟨b, 0, none⟩)) (.cells (byteCells 32 []) 23 (0, 0)) (by simp) ?_
  intro bw3 wz hbz_ hFz hgew3 _
  apply Exists.intro
  refine ⟨fun w4 hb4 hF4 => wpQuiet_nil rfl, ?_⟩
  refine AlChk.nil ?_
  refine Walk.fin fun w3 hw3 hFw3 _ => ?_
  simp only [List.drop_succ_cons, List.drop_zero]
  have kbw3 : Blk w3 bw3 (byteCells 32 []) 23 := hFw3.2
  have Kzw3 := hid kbw3
  have hgww3 : w.heap.size ≤ bw3 := Nat.le_trans HBw2.out.size hgew3
  clear hbz_ hFz hFw3 kbw3
  have hnaw3 : w.heap.size ≠ bw3 := by have := Kaw2.out.lt; omega
  have hnrw3 : w.heap.size + 1 ≠ bw3 := by have := Krw2.out.lt; omega
  have hnow3 : w1.heap.size ≠ bw3 := by have := Kow2.out.lt; omega
  have HBw3 := hid (Below.on HBw2.out hw3)
  have hsw3 := HBw3.out.size
  have Kaw3 := hid (Kaw2.out.below hw3)
  have Krw3 := hid (Krw2.out.below hw3)
  have Kow3 := hid (Kow2.out.below hw3)
  clear hw3
  go_wp2_with (first
     | (
        refine wpList_store_blk rfl 23 _ _ rfl bw3 (R1.map (Value.int .u8)).toArray rfl rfl _ 23 Kzw3.out 32 size_digest zsize HR.out.size (ints_one _ _) ?_
        intro w4 hbw4 hkw4
        have HBw4 := hid (hbw4.below HBw3.out HBw3.out.size hgww3)
        have hsw4 := HBw4.out.size
        have Kuw4 := hid hkw4
        have Kaw4 := hid (hbw4.blk Kaw3.out hnaw3)
        have Krw4 := hid (hbw4.blk Krw3.out hnrw3)
        have Kow4 := hid (hbw4.blk Kow3.out hnow3)
        clear hbw4 hkw4)
     | (refine wpList_load_blk rfl 23 _ rfl (bw3) rfl _ 23 Kuw4.out _ Tryd.underlying23 rfl 32 size_digest HR.out.size ?_)
     | (refine wpList_load_blk rfl 23 _ rfl (w1.heap.size) rfl _ 23 Kow4.out _ Tryd.underlying23 rfl 32 size_digest HY.out.size ?_))
  refine (CN.out _).mono ?_
  rintro e w5 ⟨rfl, bw5⟩
  have HBw5 := hid (Below.on HBw4.out bw5)
  have hsw5 := HBw5.out.size
  have Kaw5 := hid (Kaw4.out.below bw5)
  have Krw5 := hid (Krw4.out.below bw5)
  have Kow5 := hid (Kow4.out.below bw5)
  have Kuw5 := hid (Kuw4.out.below bw5)
  clear bw5
  go_wp2_with (
      refine wpList_store_blk rfl 23 _ _ rfl (w.heap.size + 1) (X9.map (Value.int .u8)).toArray rfl rfl _ 23 Krw5.out 32 size_digest zsize HX9.out.size (ints_one _ _) ?_
      intro w9 hb9 hk9
      have HB9 := hid (hb9.below HBw5.out HBw5.out.size (by omega))
      have HK9 := hid hk9
      clear hb9 hk9)
  exact bodyPost_ret (v := .tuple #[.agg (X9.map (Value.int .u8)).toArray, .bool ok]) (results_blk_tmp Tryd.results70 _ (w.heap.size + 1) rfl _ rfl _ 23 HK9.out _ Tryd.underlying23 rfl 32 size_digest HX9.out.size) rfl ⟨rfl, HB9.out⟩

set_option maxHeartbeats 4000000 in
set_option maxRecDepth 100000 in
theorem up_r (X : List Int) (n i k q len : Nat) (x o yc : Nat) (ds : List (List Int)) (w : World) (hX : Dg X) (hn : 2 ≤ n) (hn2 : n ≤ 200) (hin : i < n) (hkk : halfN n = k) (hik : ¬ i < k) (hq1 : q < len) (hq2 : len ≤ q + 1) (hlen : len ≤ 1000000) (hD : DigsAt w (some ⟨x, o, none⟩) len yc ds)
    (R1 : List Int) (ok : Bool) (hR : Dg R1) (cu : ∀ W : World, DigsAt W (some ⟨x, o, none⟩) q yc (ds.take q) → Calls Tryd.prog 70 #[.agg (X.map (Value.int .u8)).toArray, .int .i64 ((n : Int) - (k : Int)), .int .i64 ((i : Int) - (k : Int)), .slice (some ⟨x, o, none⟩) q yc] W fun e w' => e = .returned (.tuple #[.agg (R1.map (Value.int .u8)).toArray, .bool ok]) ∧ Below W.heap.size W w') :
    Calls Tryd.prog 70 #[.agg (X.map (Value.int .u8)).toArray, .int .i64 n, .int .i64 i, .slice (some ⟨x, o, none⟩) len yc] w fun e w' => e = .returned (.tuple #[.agg ((nodeL (ds.getD q []) R1).map (Value.int .u8)).toArray, .bool ok]) ∧ Below w.heap.size w w' := by
  obtain ⟨hk1, hk2⟩ := halfN_lt hn
  rw [hkk] at hk1 hk2
  have hn1 : ¬ ((n : Int) = 1) := by omega
  have hl0 : ¬ ((len : Int) = 0) := by omega
  have hw0 : wrap64 ((len : Int) - 1) = (len : Int) - 1 := by unfold wrap64; omega
  have hqc := hD.le
  obtain ⟨x0, o0, hxa, hx, hc⟩ := hD.at_ (by omega)
  cases hxa
  have Hc := hid (hc q (by omega))
  have DQ := hid (hD.head q (by omega))
  have CH := hid (fun W : World => (refhalf_any n n W (Nat.le_refl _) hn (by omega)).mono (fun e w' (h : e = .returned (.int .i64 (halfN n : Int)) ∧ w' = W) => show e = .returned (.int .i64 (halfN n : Int)) ∧ Below W.heap.size W w' from ⟨h.1, by rw [h.2]; exact Below.refl _ _⟩))
  rw [hkk] at CH
  have CU := hid cu
  have HY := hid (hD.get (j := q) (by omega))
  generalize ds.getD q [] = Y at *
  have HR := hid hR
  have CN := hid (fun (W : World) => refnode_any Y R1 W HY.out HR.out)
  have HX9 := hid (Dg.nodeL Y R1)
  generalize nodeL Y R1 = X9 at *
  have hikI : ¬ ((i : Int) < k) := by omega
  have hw1 : wrap64 ((n : Int) - (k : Int)) = (n : Int) - (k : Int) := by unfold wrap64; omega
  have hw2 : wrap64 ((i : Int) - (k : Int)) = (i : Int) - (k : Int) := by unfold wrap64; omega
  clear cu hR hkk hc hD
  have b1 := (Below.refl w.heap.size w).alloc (Nat.le_refl _) (.cells (X.map (Value.int .u8)).toArray 23 (0, 0))
  have b2 := b1.alloc b1.size (.cells (byteCells 32 []) 23 (0, 0))
  have Ka := hid ((Blk.new (w := w) (n := w.heap.size) rfl (X.map (Value.int .u8)).toArray 23).old (.cells (byteCells 32 []) 23 (0, 0)))
  have Kr := hid (Blk.new (w := (w.alloc (.cells (X.map (Value.int .u8)).toArray 23 (0, 0)))) (n := w.heap.size + 1) (by simp only [World.size_alloc]) (byteCells 32 []) 23)
  have Hb := hid b2
  have hbz := b2.size
  have Hbs := hid (show w.heap.size + 1 + 1 = ((w.alloc (.cells (X.map (Value.int .u8)).toArray 23 (0, 0))).alloc (.cells (byteCells 32 []) 23 (0, 0))).heap.size by simp only [World.size_alloc])
  clear b1 b2 
  go_enter Tryd.func70, Tryd.ntmps70
  go_wp2_with fail
  refine (CH.out _).mono ?_
  rintro e w1 ⟨rfl, bw1⟩
  have HBw1 := hid (Below.on Hb.out bw1)
  have hsw1 := HBw1.out.size
  have Kaw1 := hid (Ka.out.below bw1)
  have Krw1 := hid (Kr.out.below bw1)
  clear bw1
  have Hcx : Hid (w1.rangeAt x (o + q * 32) (Y.map (Value.int .u8))) := hid (fun j v hv => (HBw1.out.cell (p := ⟨x, o + q * 32 + j, none⟩) hx).trans (Hc.out j v hv))
  go_wp2_with (first
     | (refine wpList_index_digs rfl 27 _ _ rfl Tryd.underlying27 size_digest x o len yc rfl _ _ rfl q (by omega) (by omega) ?_)
     | (refine wpList_load_mid rfl 23 _ rfl x (o + q * 32) rfl _ _ Hcx.out Tryd.underlying23 rfl (by rw [List.length_map, HY.out.len]; exact size_digest) ?_)
     | (
        refine wpList_store_blk rfl 23 _ _ rfl (w1.heap.size) (Y.map (Value.int .u8)).toArray rfl rfl _ 23 (Blk.new rfl (byteCells 32 []) _) 32 size_digest zsize HY.out.size (ints_one _ _) ?_
        intro w2 hbw2 hkw2
        have hw2 := hbw2.below ((Below.refl w1.heap.size w1).alloc (Nat.le_refl _) _) (by simp only [World.size_alloc]; omega) (Nat.le_refl _)
        have HBw2 := hid (Below.on HBw1.out hw2)
        have hsw2 := HBw2.out.size
        have Kaw2 := hid (Kaw1.out.below hw2)
        have hlaw2 := Kaw1.out.lt
        have Krw2 := hid (Krw1.out.below hw2)
        have hlrw2 := Krw1.out.lt
        have Kow2 := hid hkw2
        have hfw2 : w.heap.size ≤ w1.heap.size := HBw1.out.size
        clear hbw2 hkw2 hw2))
  refine wp_region_late 17 15 17 [0, 1, 2, 3, 4, 5, 6, 7, 8, 9, 10, 11, 12, 13, 14, 15] [16] [(.b 16, [], [])] (by kernel_rfl) (by kernel_rfl) rfl (by kernel_rfl) (fun _ _ d _ _ h => by cases d <;> exact h) ?_
  simp only [late]
  apply Exists.intro
  refine ⟨fun w0 hb0 hF0 => ?_, ?_⟩
  · skip
    have x0 : ∀ w', (∃ x : Ext w0, w' = x.at_) → ∃ T, Blk w' (w.heap.size) (X.map (Value.int .u8)).toArray T := fun w' ⟨x, hx⟩ => ⟨_, hx ▸ (Kaw2.out.below hb0).below x.same⟩
    have c0 := fun e : Ext w0 => CU.out e.at_ (DQ.out.below (Below.on (Below.on HBw2.out hb0) e.same))
    simp only [pick, List.getElem?_toArray, List.getElem?_cons_succ, List.getElem?_cons_zero, Option.toList_some, List.cons_append, List.nil_append]
    repeat (first | (go_big_quiet_want; refine quiet_load_blk 23 _ rfl (w.heap.size) rfl _ x0 _ Tryd.underlying23 rfl 32 size_digest hX.size ?_; go_big_quiet_on; simp only [Act.put, List.setIfInBounds_toArray, List.set_cons_zero, List.set_cons_succ]) | (go_big_quiet_want; refine quiet_cut_hh _ _ rfl (some ⟨x, o, none⟩) len yc q _ rfl rfl (by omega) (by omega) ?_; go_big_quiet_on; simp only [Act.put, List.setIfInBounds_toArray, List.set_cons_zero, List.set_cons_succ]) | go_big_quiet_step (first | (go_at_call 70; with_reducible exact Calls.ext (c0 _))))
    exact wpQuiet_nil rfl
  refine AlChk.one rfl (fun b => .pointer (some ⟨b, 0, none⟩)) (.cells (byteCells 32 []) 23 (0, 0)) rfl (fun w3 hb3 hF3 => by go_simp; rfl) ?_
  refine AlChk.nil ?_
  refine Walk.blk rfl (fun b => .pointer (some ⟨b, 0, none⟩)) (.cells (byteCells 32 []) 23 (0, 0)) (by simp) ?_
  intro bw3 wz hbz_ hFz hgew3 _
  apply Exists.intro
  refine ⟨fun w4 hb4 hF4 => wpQuiet_nil rfl, ?_⟩
  refine AlChk.nil ?_
  refine Walk.fin fun w3 hw3 hFw3 _ => ?_
  simp only [List.drop_succ_cons, List.drop_zero]
  have kbw3 : Blk w3 bw3 (byteCells 32 []) 23 := hFw3.2
  have Kzw3 := hid kbw3
  have hgww3 : w.heap.size ≤ bw3 := Nat.le_trans HBw2.out.size hgew3
  clear hbz_ hFz hFw3 kbw3
  have hnaw3 : w.heap.size ≠ bw3 := by have := Kaw2.out.lt; omega
  have hnrw3 : w.heap.size + 1 ≠ bw3 := by have := Krw2.out.lt; omega
  have hnow3 : w1.heap.size ≠ bw3 := by have := Kow2.out.lt; omega
  have HBw3 := hid (Below.on HBw2.out hw3)
  have hsw3 := HBw3.out.size
  have Kaw3 := hid (Kaw2.out.below hw3)
  have Krw3 := hid (Krw2.out.below hw3)
  have Kow3 := hid (Kow2.out.below hw3)
  clear hw3
  go_wp2_with (first
     | (
        refine wpList_store_blk rfl 23 _ _ rfl bw3 (R1.map (Value.int .u8)).toArray rfl rfl _ 23 Kzw3.out 32 size_digest zsize HR.out.size (ints_one _ _) ?_
        intro w4 hbw4 hkw4
        have HBw4 := hid (hbw4.below HBw3.out HBw3.out.size hgww3)
        have hsw4 := HBw4.out.size
        have Kuw4 := hid hkw4
        have Kaw4 := hid (hbw4.blk Kaw3.out hnaw3)
        have Krw4 := hid (hbw4.blk Krw3.out hnrw3)
        have Kow4 := hid (hbw4.blk Kow3.out hnow3)
        clear hbw4 hkw4)
     | (refine wpList_load_blk rfl 23 _ rfl (bw3) rfl _ 23 Kuw4.out _ Tryd.underlying23 rfl 32 size_digest HR.out.size ?_)
     | (refine wpList_load_blk rfl 23 _ rfl (w1.heap.size) rfl _ 23 Kow4.out _ Tryd.underlying23 rfl 32 size_digest HY.out.size ?_))
  refine (CN.out _).mono ?_
  rintro e w5 ⟨rfl, bw5⟩
  have HBw5 := hid (Below.on HBw4.out bw5)
  have hsw5 := HBw5.out.size
  have Kaw5 := hid (Kaw4.out.below bw5)
  have Krw5 := hid (Krw4.out.below bw5)
  have Kow5 := hid (Kow4.out.below bw5)
  have Kuw5 := hid (Kuw4.out.below bw5)
  clear bw5
  go_wp2_with (
      refine wpList_store_blk rfl 23 _ _ rfl (w.heap.size + 1) (X9.map (Value.int .u8)).toArray rfl rfl _ 23 Krw5.out 32 size_digest zsize HX9.out.size (ints_one _ _) ?_
      intro w9 hb9 hk9
      have HB9 := hid (hb9.below HBw5.out HBw5.out.size (by omega))
      have HK9 := hid hk9
      clear hb9 hk9)
  exact bodyPost_ret (v := .tuple #[.agg (X9.map (Value.int .u8)).toArray, .bool ok]) (results_blk_tmp Tryd.results70 _ (w.heap.size + 1) rfl _ rfl _ 23 HK9.out _ Tryd.underlying23 rfl 32 size_digest HX9.out.size) rfl ⟨rfl, HB9.out⟩

set_option maxHeartbeats 4000000 in
set_option maxRecDepth 100000 in
theorem up_any (f : Nat) (X : List Int) (hX : Dg X) : ∀ (n i : Nat) (ya : Option Addr) (len yc : Nat) (ds : List (List Int)) (w : World), 1 ≤ n → n ≤ f → n ≤ 200 → i < n → len ≤ 1000000 → DigsAt w ya len yc ds →
    Calls Tryd.prog 70 #[.agg (X.map (Value.int .u8)).toArray, .int .i64 n, .int .i64 i, .slice ya len yc] w fun e w' => e = .returned (.tuple #[.agg ((upR f X n i ds).1.map (Value.int .u8)).toArray, .bool (upR f X n i ds).2]) ∧ Below w.heap.size w w' := by
  induction f with
  | zero => intro n i ya len yc ds w h1 h2; omega
  | succ f ih =>
    intro n i ya len yc ds w h1 h2 h3 h4 h5 hD
    have hl := hD.length
    rcases Nat.eq_or_lt_of_le h1 with rfl | hlt
    · rw [upR, if_pos rfl]
      have := up_one X i ya len yc w hX
      rw [show ((len : Int) == 0) = decide (ds.length = 0) by rw [hl]; by_cases h : len = 0 <;> simp [h]] at this
      exact this
    · obtain ⟨hk1, hk2⟩ := halfN_lt (n := n) hlt
      rw [upR, if_neg (by omega)]
      rcases Nat.eq_zero_or_pos len with rfl | hp
      · rw [if_pos hl]
        exact up_nil X n i ya yc w hX (by omega)
      · obtain ⟨x, o, rfl, hx, hc⟩ := hD.at_ hp
        rw [if_neg (by omega), hl]
        by_cases hik : i < halfN n
        · rw [if_pos hik]
          exact up_l X n i (halfN n) (len - 1) len x o yc ds w hX hlt h3 h4 rfl hik (by omega) (by omega) h5 hD _ _ (Dg.upR hX f _ _ _) (fun W hW => ih (halfN n) i _ (len - 1) yc _ W hk1 (by omega) (by omega) hik (by omega) hW)
        · rw [if_neg hik]
          exact up_r X n i (halfN n) (len - 1) len x o yc ds w hX hlt h3 h4 rfl hik (by omega) (by omega) h5 hD _ _ (Dg.upR hX f _ _ _) (fun W hW => by
            have := ih (n - halfN n) (i - halfN n) _ (len - 1) yc _ W (by omega) (by omega) (by omega) (by omega) (by omega) hW
            rw [show ((n - halfN n : Nat) : Int) = (n : Int) - (halfN n : Int) by omega, show ((i - halfN n : Nat) : Int) = (i : Int) - (halfN n : Int) by omega] at this
            exact this)

set_option maxHeartbeats 4000000 in
set_option maxRecDepth 100000 in
theorem refholds_noa (root : List Int) (n i : Int) (ta : Option Addr) (tn tc : Nat) (ya : Option Addr) (yn yc : Nat) (w : World) (_hr : Dg root) (h : n < 1) :
    Calls Tryd.prog 43 #[.agg (root.map (Value.int .u8)).toArray, .int .i64 n, .int .i64 i, .slice ta tn tc, .slice ya yn yc] w fun e w' => e = .returned (.bool false) ∧ Below w.heap.size w w' := by
  have b1 := (Below.refl w.heap.size w).alloc (Nat.le_refl _) (.cells (root.map (Value.int .u8)).toArray 23 (0, 0))
  have Kr := hid (Blk.new (w := w) (n := w.heap.size) rfl (root.map (Value.int .u8)).toArray 23)
  have Hb := hid b1
  have hbz := b1.size
  have Hbs := hid (show w.heap.size + 1 = (w.alloc (.cells (root.map (Value.int .u8)).toArray 23 (0, 0))).heap.size by simp only [World.size_alloc])
  clear b1 
  go_enter Tryd.func43, Tryd.ntmps43
  go_wp2_with fail
  go_returns
  exact ⟨rfl, Hb.out⟩

set_option maxHeartbeats 4000000 in
set_option maxRecDepth 100000 in
theorem refholds_nob (root : List Int) (n i : Int) (ta : Option Addr) (tn tc : Nat) (ya : Option Addr) (yn yc : Nat) (w : World) (_hr : Dg root) (h1 : ¬ n < 1) (h : 200 < n) :
    Calls Tryd.prog 43 #[.agg (root.map (Value.int .u8)).toArray, .int .i64 n, .int .i64 i, .slice ta tn tc, .slice ya yn yc] w fun e w' => e = .returned (.bool false) ∧ Below w.heap.size w w' := by
  have b1 := (Below.refl w.heap.size w).alloc (Nat.le_refl _) (.cells (root.map (Value.int .u8)).toArray 23 (0, 0))
  have Kr := hid (Blk.new (w := w) (n := w.heap.size) rfl (root.map (Value.int .u8)).toArray 23)
  have Hb := hid b1
  have hbz := b1.size
  have Hbs := hid (show w.heap.size + 1 = (w.alloc (.cells (root.map (Value.int .u8)).toArray 23 (0, 0))).heap.size by simp only [World.size_alloc])
  clear b1 
  go_enter Tryd.func43, Tryd.ntmps43
  go_wp2_with fail
  go_returns
  exact ⟨rfl, Hb.out⟩

set_option maxHeartbeats 4000000 in
set_option maxRecDepth 100000 in
theorem refholds_noc (root : List Int) (n i : Int) (ta : Option Addr) (tn tc : Nat) (ya : Option Addr) (yn yc : Nat) (w : World) (_hr : Dg root) (h1 : ¬ n < 1) (h2 : ¬ 200 < n) (h : i < 0) :
    Calls Tryd.prog 43 #[.agg (root.map (Value.int .u8)).toArray, .int .i64 n, .int .i64 i, .slice ta tn tc, .slice ya yn yc] w fun e w' => e = .returned (.bool false) ∧ Below w.heap.size w w' := by
  have b1 := (Below.refl w.heap.size w).alloc (Nat.le_refl _) (.cells (root.map (Value.int .u8)).toArray 23 (0, 0))
  have Kr := hid (Blk.new (w := w) (n := w.heap.size) rfl (root.map (Value.int .u8)).toArray 23)
  have Hb := hid b1
  have hbz := b1.size
  have Hbs := hid (show w.heap.size + 1 = (w.alloc (.cells (root.map (Value.int .u8)).toArray 23 (0, 0))).heap.size by simp only [World.size_alloc])
  clear b1 
  go_enter Tryd.func43, Tryd.ntmps43
  go_wp2_with fail
  go_returns
  exact ⟨rfl, Hb.out⟩

set_option maxHeartbeats 4000000 in
set_option maxRecDepth 100000 in
theorem refholds_nod (root : List Int) (n i : Int) (ta : Option Addr) (tn tc : Nat) (ya : Option Addr) (yn yc : Nat) (w : World) (_hr : Dg root) (h1 : ¬ n < 1) (h2 : ¬ 200 < n) (h3 : ¬ i < 0) (h : n ≤ i) :
    Calls Tryd.prog 43 #[.agg (root.map (Value.int .u8)).toArray, .int .i64 n, .int .i64 i, .slice ta tn tc, .slice ya yn yc] w fun e w' => e = .returned (.bool false) ∧ Below w.heap.size w w' := by
  have b1 := (Below.refl w.heap.size w).alloc (Nat.le_refl _) (.cells (root.map (Value.int .u8)).toArray 23 (0, 0))
  have Kr := hid (Blk.new (w := w) (n := w.heap.size) rfl (root.map (Value.int .u8)).toArray 23)
  have Hb := hid b1
  have hbz := b1.size
  have Hbs := hid (show w.heap.size + 1 = (w.alloc (.cells (root.map (Value.int .u8)).toArray 23 (0, 0))).heap.size by simp only [World.size_alloc])
  clear b1 
  go_enter Tryd.func43, Tryd.ntmps43
  go_wp2_with fail
  go_returns
  exact ⟨rfl, Hb.out⟩

theorem refholds_bad (root : List Int) (n i : Int) (ta : Option Addr) (tn tc : Nat) (ya : Option Addr) (yn yc : Nat) (w : World) (hr : Dg root) (h : n < 1 ∨ 200 < n ∨ i < 0 ∨ n ≤ i) :
    Calls Tryd.prog 43 #[.agg (root.map (Value.int .u8)).toArray, .int .i64 n, .int .i64 i, .slice ta tn tc, .slice ya yn yc] w fun e w' => e = .returned (.bool false) ∧ Below w.heap.size w w' := by
  by_cases h1 : n < 1
  · exact refholds_noa root n i ta tn tc ya yn yc w hr h1
  · by_cases h2 : 200 < n
    · exact refholds_nob root n i ta tn tc ya yn yc w hr h1 h2
    · by_cases h3 : i < 0
      · exact refholds_noc root n i ta tn tc ya yn yc w hr h1 h2 h3
      · exact refholds_nod root n i ta tn tc ya yn yc w hr h1 h2 h3 (by omega)

set_option maxHeartbeats 4000000 in
set_option maxRecDepth 100000 in
theorem refholds_good (root : List Int) (n i : Nat) (ta : Option Addr) (tn tc : Nat) (m : List Int) (ya : Option Addr) (yn yc : Nat) (ds : List (List Int)) (w : World) (hr : Dg root) (hn1 : 1 ≤ n) (hn2 : n ≤ 200) (hin : i < n) (hT : TextAt w ta tn tc m) (hW : DigsAt w ya yn yc ds) (htn : tn ≤ 1000000) (hyn : yn ≤ 1000000) :
    Calls Tryd.prog 43 #[.agg (root.map (Value.int .u8)).toArray, .int .i64 n, .int .i64 i, .slice ta tn tc, .slice ya yn yc] w fun e w' => e = .returned (.bool ((upR n (leafL m) n i ds).2 && decide ((upR n (leafL m) n i ds).1 = root))) ∧ Below w.heap.size w w' := by
  have hI1 : ¬ ((n : Int) < 1) := by omega
  have hI2 : ¬ ((200 : Int) < (n : Int)) := by omega
  have hI3 : ¬ ((i : Int) < 0) := by omega
  have hI4 : ¬ ((n : Int) ≤ (i : Int)) := by omega
  have CL := hid (fun (W : World) (h : TextAt W ta tn tc m) => refleaf_any ta tn tc m W h (by omega))
  have CU := hid (fun (W : World) (h : DigsAt W ya yn yc ds) => up_any n (leafL m) (Dg.leafL m) n i ya yn yc ds W hn1 (Nat.le_refl _) hn2 hin hyn h)
  have HX := hid (Dg.upR (Dg.leafL m) n n i ds)
  generalize (upR n (leafL m) n i ds).1 = X at *
  generalize (upR n (leafL m) n i ds).2 = ok at *
  have b1 := (Below.refl w.heap.size w).alloc (Nat.le_refl _) (.cells (root.map (Value.int .u8)).toArray 23 (0, 0))
  have Kr := hid (Blk.new (w := w) (n := w.heap.size) rfl (root.map (Value.int .u8)).toArray 23)
  have Hb := hid b1
  have hbz := b1.size
  have Hbs := hid (show w.heap.size + 1 = (w.alloc (.cells (root.map (Value.int .u8)).toArray 23 (0, 0))).heap.size by simp only [World.size_alloc])
  clear b1 
  go_enter Tryd.func43, Tryd.ntmps43
  go_wp2_with fail
  refine (CL.out _ (hT.below Hb.out)).mono ?_
  rintro e w1 ⟨rfl, bw1⟩
  have HBw1 := hid (Below.on Hb.out bw1)
  have hsw1 := HBw1.out.size
  have Krw1 := hid (Kr.out.below bw1)
  clear bw1
  go_wp2_with fail
  refine (CU.out _ (hW.below HBw1.out)).mono ?_
  rintro e w2 ⟨rfl, bw2⟩
  have HBw2 := hid (Below.on HBw1.out bw2)
  have hsw2 := HBw2.out.size
  have Krw2 := hid (Krw1.out.below bw2)
  clear bw2
  cases ok
  · skip
    go_wp2_with (first | (
          refine wpList_store_blk rfl 23 _ _ rfl (w2.heap.size) (X.map (Value.int .u8)).toArray rfl rfl _ 23 (Blk.new rfl (byteCells 32 []) _) 32 size_digest zsize HX.out.size (ints_one _ _) ?_
          intro w3 hbw3 hkw3
          have hw3 := hbw3.below ((Below.refl w2.heap.size w2).alloc (Nat.le_refl _) _) (by simp only [World.size_alloc]; omega) (Nat.le_refl _)
          have HBw3 := hid (Below.on HBw2.out hw3)
          have hsw3 := HBw3.out.size
          have Krw3 := hid (Krw2.out.below hw3)
          have hlrw3 := Krw2.out.lt
          have Kxw3 := hid hkw3
          have hfw3 : w.heap.size ≤ w2.heap.size := HBw2.out.size
          clear hbw3 hkw3 hw3) | fail)
    go_returns
    exact ⟨by first | rfl | simp, HBw3.out⟩
  · have q1 := fun W => eqD X root HX.out.len hr.len W
    go_wp2_with (first | (
          refine wpList_store_blk rfl 23 _ _ rfl (w2.heap.size) (X.map (Value.int .u8)).toArray rfl rfl _ 23 (Blk.new rfl (byteCells 32 []) _) 32 size_digest zsize HX.out.size (ints_one _ _) ?_
          intro w3 hbw3 hkw3
          have hw3 := hbw3.below ((Below.refl w2.heap.size w2).alloc (Nat.le_refl _) _) (by simp only [World.size_alloc]; omega) (Nat.le_refl _)
          have HBw3 := hid (Below.on HBw2.out hw3)
          have hsw3 := HBw3.out.size
          have Krw3 := hid (Krw2.out.below hw3)
          have hlrw3 := Krw2.out.lt
          have Kxw3 := hid hkw3
          have hfw3 : w.heap.size ≤ w2.heap.size := HBw2.out.size
          clear hbw3 hkw3 hw3) | (refine wpList_load_blk_if (by first | rfl | go_simp) 23 _ rfl (w2.heap.size) rfl _ 23 Kxw3.out _ Tryd.underlying23 rfl 32 size_digest HX.out.size ?_) | (refine wpList_load_blk_if (by first | rfl | go_simp) 23 _ rfl (w.heap.size) rfl _ 23 Krw3.out _ Tryd.underlying23 rfl 32 size_digest hr.size ?_))
    go_returns
    exact ⟨by first | rfl | simp, HBw3.out⟩
end Go.Proofs.YthaicocfbmpnmaaDoor
