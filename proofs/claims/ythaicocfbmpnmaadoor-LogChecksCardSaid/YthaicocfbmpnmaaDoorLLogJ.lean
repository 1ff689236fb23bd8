/-
  Layer 19: whether a way can be that of a text, by the program.
-/
import Derived.Test.YthaicocfbmpnmaaDoorLLogI
namespace Go.Proofs.YthaicocfbmpnmaaDoor
open Go.ChangeShapes Go.WideShapes Go.ChangeAt Go.RowKit

theorem size_f96 : (Tryd.prog.info? 96).map (·.size) = some 1 := by kernel_rfl
theorem size_f99 : (Tryd.prog.info? 99).map (·.size) = some 1 := by kernel_rfl

set_option maxHeartbeats 4000000 in
set_option maxRecDepth 100000 in
theorem holds_noa (root : List Int) (n i : Int) (ta : Option Addr) (tn tc : Nat) (ya : Option Addr) (yn yc : Nat) (w : World) (_hr : Dg root) (h : n < 1) :
    Calls Tryd.prog 42 #[.agg (root.map (Value.int .u8)).toArray, .int .i64 n, .int .i64 i, .slice ta tn tc, .slice ya yn yc] w fun e w' => e = .returned (.bool false) ∧ Below w.heap.size w w' := by
  have b1 := (Below.refl w.heap.size w).alloc (Nat.le_refl _) (.cells (root.map (Value.int .u8)).toArray 23 (0, 0))
  have b2 := b1.alloc b1.size (.cells #[.slice ta tn tc] 67 (0, 0))
  have Kr := hid ((Blk.new (w := w) (n := w.heap.size) rfl (root.map (Value.int .u8)).toArray 23).old (.cells #[.slice ta tn tc] 67 (0, 0)))
  have Kt := hid (Blk.new (w := (w.alloc (.cells (root.map (Value.int .u8)).toArray 23 (0, 0)))) (n := w.heap.size + 1) (by simp only [World.size_alloc]) #[.slice ta tn tc] 67)
  have Hb := hid b2
  have hbz := b2.size
  have Hbs := hid (show w.heap.size + 1 + 1 = ((w.alloc (.cells (root.map (Value.int .u8)).toArray 23 (0, 0))).alloc (.cells #[.slice ta tn tc] 67 (0, 0))).heap.size by simp only [World.size_alloc])
  clear b1 b2 
  go_enter Tryd.func42, Tryd.ntmps42
  go_wp2_with fail
  go_returns
  exact ⟨rfl, Hb.out⟩

set_option maxHeartbeats 4000000 in
set_option maxRecDepth 100000 in
theorem holds_nob (root : List Int) (n i : Int) (ta : Option Addr) (tn tc : Nat) (ya : Option Addr) (yn yc : Nat) (w : World) (_hr : Dg root) (h1 : ¬ n < 1) (h : 200 < n) :
    Calls Tryd.prog 42 #[.agg (root.map (Value.int .u8)).toArray, .int .i64 n, .int .i64 i, .slice ta tn tc, .slice ya yn yc] w fun e w' => e = .returned (.bool false) ∧ Below w.heap.size w w' := by
  have b1 := (Below.refl w.heap.size w).alloc (Nat.le_refl _) (.cells (root.map (Value.int .u8)).toArray 23 (0, 0))
  have b2 := b1.alloc b1.size (.cells #[.slice ta tn tc] 67 (0, 0))
  have Kr := hid ((Blk.new (w := w) (n := w.heap.size) rfl (root.map (Value.int .u8)).toArray 23).old (.cells #[.slice ta tn tc] 67 (0, 0)))
  have Kt := hid (Blk.new (w := (w.alloc (.cells (root.map (Value.int .u8)).toArray 23 (0, 0)))) (n := w.heap.size + 1) (by simp only [World.size_alloc]) #[.slice ta tn tc] 67)
  have Hb := hid b2
  have hbz := b2.size
  have Hbs := hid (show w.heap.size + 1 + 1 = ((w.alloc (.cells (root.map (Value.int .u8)).toArray 23 (0, 0))).alloc (.cells #[.slice ta tn tc] 67 (0, 0))).heap.size by simp only [World.size_alloc])
  clear b1 b2 
  go_enter Tryd.func42, Tryd.ntmps42
  go_wp2_with fail
  go_returns
  exact ⟨rfl, Hb.out⟩

set_option maxHeartbeats 4000000 in
set_option maxRecDepth 100000 in
theorem holds_noc (root : List Int) (n i : Int) (ta : Option Addr) (tn tc : Nat) (ya : Option Addr) (yn yc : Nat) (w : World) (_hr : Dg root) (h1 : ¬ n < 1) (h2 : ¬ 200 < n) (h : i < 0) :
    Calls Tryd.prog 42 #[.agg (root.map (Value.int .u8)).toArray, .int .i64 n, .int .i64 i, .slice ta tn tc, .slice ya yn yc] w fun e w' => e = .returned (.bool false) ∧ Below w.heap.size w w' := by
  have b1 := (Below.refl w.heap.size w).alloc (Nat.le_refl _) (.cells (root.map (Value.int .u8)).toArray 23 (0, 0))
  have b2 := b1.alloc b1.size (.cells #[.slice ta tn tc] 67 (0, 0))
  have Kr := hid ((Blk.new (w := w) (n := w.heap.size) rfl (root.map (Value.int .u8)).toArray 23).old (.cells #[.slice ta tn tc] 67 (0, 0)))
  have Kt := hid (Blk.new (w := (w.alloc (.cells (root.map (Value.int .u8)).toArray 23 (0, 0)))) (n := w.heap.size + 1) (by simp only [World.size_alloc]) #[.slice ta tn tc] 67)
  have Hb := hid b2
  have hbz := b2.size
  have Hbs := hid (show w.heap.size + 1 + 1 = ((w.alloc (.cells (root.map (Value.int .u8)).toArray 23 (0, 0))).alloc (.cells #[.slice ta tn tc] 67 (0, 0))).heap.size by simp only [World.size_alloc])
  clear b1 b2 
  go_enter Tryd.func42, Tryd.ntmps42
  go_wp2_with fail
  go_returns
  exact ⟨rfl, Hb.out⟩

set_option maxHeartbeats 4000000 in
set_option maxRecDepth 100000 in
theorem holds_nod (root : List Int) (n i : Int) (ta : Option Addr) (tn tc : Nat) (ya : Option Addr) (yn yc : Nat) (w : World) (_hr : Dg root) (h1 : ¬ n < 1) (h2 : ¬ 200 < n) (h3 : ¬ i < 0) (h : n ≤ i) :
    Calls Tryd.prog 42 #[.agg (root.map (Value.int .u8)).toArray, .int .i64 n, .int .i64 i, .slice ta tn tc, .slice ya yn yc] w fun e w' => e = .returned (.bool false) ∧ Below w.heap.size w w' := by
  have b1 := (Below.refl w.heap.size w).alloc (Nat.le_refl _) (.cells (root.map (Value.int .u8)).toArray 23 (0, 0))
  have b2 := b1.alloc b1.size (.cells #[.slice ta tn tc] 67 (0, 0))
  have Kr := hid ((Blk.new (w := w) (n := w.heap.size) rfl (root.map (Value.int .u8)).toArray 23).old (.cells #[.slice ta tn tc] 67 (0, 0)))
  have Kt := hid (Blk.new (w := (w.alloc (.cells (root.map (Value.int .u8)).toArray 23 (0, 0)))) (n := w.heap.size + 1) (by simp only [World.size_alloc]) #[.slice ta tn tc] 67)
  have Hb := hid b2
  have hbz := b2.size
  have Hbs := hid (show w.heap.size + 1 + 1 = ((w.alloc (.cells (root.map (Value.int .u8)).toArray 23 (0, 0))).alloc (.cells #[.slice ta tn tc] 67 (0, 0))).heap.size by simp only [World.size_alloc])
  clear b1 b2 
  go_enter Tryd.func42, Tryd.ntmps42
  go_wp2_with fail
  go_returns
  exact ⟨rfl, Hb.out⟩

theorem holds_bad (root : List Int) (n i : Int) (ta : Option Addr) (tn tc : Nat) (ya : Option Addr) (yn yc : Nat) (w : World) (hr : Dg root) (h : n < 1 ∨ 200 < n ∨ i < 0 ∨ n ≤ i) :
    Calls Tryd.prog 42 #[.agg (root.map (Value.int .u8)).toArray, .int .i64 n, .int .i64 i, .slice ta tn tc, .slice ya yn yc] w fun e w' => e = .returned (.bool false) ∧ Below w.heap.size w w' := by
  by_cases h1 : n < 1
  · exact holds_noa root n i ta tn tc ya yn yc w hr h1
  · by_cases h2 : 200 < n
    · exact holds_nob root n i ta tn tc ya yn yc w hr h1 h2
    · by_cases h3 : i < 0
      · exact holds_noc root n i ta tn tc ya yn yc w hr h1 h2 h3
      · exact holds_nod root n i ta tn tc ya yn yc w hr h1 h2 h3 (by omega)

set_option maxHeartbeats 4000000 in
set_option maxRecDepth 100000 in
theorem holds_good (root : List Int) (n i : Nat) (ta : Option Addr) (tn tc : Nat) (m : List Int) (ya : Option Addr) (yn yc : Nat) (ds : List (List Int)) (w : World) (hr : Dg root) (hn1 : 1 ≤ n) (hn2 : n ≤ 200) (hin : i < n) (hT : TextAt w ta tn tc m) (hW : DigsAt w ya yn yc ds) (htn : tn ≤ 1000000) (hyn : yn ≤ 1000000) (tab : ShaTab w) :
    Calls Tryd.prog 42 #[.agg (root.map (Value.int .u8)).toArray, .int .i64 n, .int .i64 i, .slice ta tn tc, .slice ya yn yc] w fun e w' => e = .returned (.bool (decide ((upZ n (leafL m) n i ds yn).2 = 0) && decide ((upZ n (leafL m) n i ds yn).1 = root))) ∧ Below w.heap.size w w' := by
  have hI1 : ¬ ((n : Int) < 1) := by omega
  have hI2 : ¬ ((200 : Int) < (n : Int)) := by omega
  have hI3 : ¬ ((i : Int) < 0) := by omega
  have hI4 : ¬ ((n : Int) ≤ (i : Int)) := by omega
  have CT := hid (fun (W : World) (k : Nat) (hk : W.heap.size = k) => (hk ▸ taker_any ya yn yc W : Calls Tryd.prog 67 #[.slice ya yn yc] W fun e w' => e = .returned (.tuple #[.func (.func 87) #[] #[.pointer (some ⟨k + 1, 0, none⟩), .pointer (some ⟨k, 0, none⟩)], .func (.func 88) #[] #[.pointer (some ⟨k + 1, 0, none⟩)]]) ∧ Below W.heap.size W w' ∧ Blk w' (k + 1) #[.int .i64 yn] 3 ∧ Blk w' k #[.slice ya yn yc] 27))
  have CA := hid (fun (W : World) (bb bt ba bl bw : Nat) (h : HEnv W bb bt ba bl bw ta tn tc m ya yn yc ds) (k : Blk W bl #[.int .i64 (yn : Int)] 3) => above_any n n i (yn : Int) bb bt ba bl bw ta tn tc m ya yn yc ds W h k hn1 (Nat.le_refl _) hn2 hin (by omega) (by omega) hyn htn)
  have HX := hid (Dg.upZ (Dg.leafL m) n n i ds yn)
  generalize (upZ n (leafL m) n i ds yn).1 = X at *
  generalize (upZ n (leafL m) n i ds yn).2 = L2 at *
  have b1 := (Below.refl w.heap.size w).alloc (Nat.le_refl _) (.cells (root.map (Value.int .u8)).toArray 23 (0, 0))
  have b2 := b1.alloc b1.size (.cells #[.slice ta tn tc] 67 (0, 0))
  have Kr := hid ((Blk.new (w := w) (n := w.heap.size) rfl (root.map (Value.int .u8)).toArray 23).old (.cells #[.slice ta tn tc] 67 (0, 0)))
  have Kt := hid (Blk.new (w := (w.alloc (.cells (root.map (Value.int .u8)).toArray 23 (0, 0)))) (n := w.heap.size + 1) (by simp only [World.size_alloc]) #[.slice ta tn tc] 67)
  have Hb := hid b2
  have hbz := b2.size
  have Hbs := hid (show w.heap.size + 1 + 1 = ((w.alloc (.cells (root.map (Value.int .u8)).toArray 23 (0, 0))).alloc (.cells #[.slice ta tn tc] 67 (0, 0))).heap.size by simp only [World.size_alloc])
  have Htab := hid tab
  clear b1 b2 tab 
  go_enter Tryd.func42, Tryd.ntmps42
  go_wp2_with fail
  refine (CT.out _ (w.heap.size + 1 + 1) (by simp only [World.size_alloc])).mono ?_
  rintro e w1 ⟨rfl, b1, kl1, kw1⟩
  have Kl1 := hid kl1
  have Kw1 := hid kw1
  have HBw1 := hid (Below.on Hb.out b1)
  have hsw1 := HBw1.out.size
  have Krw1 := hid (Kr.out.below b1)
  have Ktw1 := hid (Kt.out.below b1)
  have hs11 : w.heap.size + 1 + 1 + 1 < w1.heap.size := kl1.lt
  clear b1 kl1 kw1
  go_wp2_with (first
     | (
        refine wpList_store_cell rfl 96 _ _ rfl (w1.heap.size) 0 (.func (.func 87) #[] #[.pointer (some ⟨w.heap.size + 1 + 1 + 1, 0, none⟩), .pointer (some ⟨w.heap.size + 1 + 1, 0, none⟩)]) rfl rfl rfl rfl #[.nilFunc] 96 (Blk.new rfl #[.nilFunc] 96) (by simp) size_f96 ?_
        intro w2 hb2 hk2
        have h2 := hb2.below ((Below.refl w1.heap.size w1).alloc (Nat.le_refl _) _) (by simp only [World.size_alloc]; omega) (Nat.le_refl _)
        have HB2 := hid (Below.on HBw1.out h2)
        have Kt2 := hid (show Blk w2 w1.heap.size #[.func (.func 87) #[] #[.pointer (some ⟨w.heap.size + 1 + 1 + 1, 0, none⟩), .pointer (some ⟨w.heap.size + 1 + 1, 0, none⟩)]] 96 from hk2)
        have Kr2 := hid (Krw1.out.below h2)
        have Kb2 := hid (Ktw1.out.below h2)
        have Kl2 := hid (Kl1.out.below h2)
        have Kw2 := hid (Kw1.out.below h2)
        have hs2 := Kt2.out.lt
        clear hb2 hk2 h2)
     | (
        refine wpList_store_cell rfl 99 _ _ rfl (w2.heap.size) 0 (.func (.func 68) #[] #[.pointer (some ⟨w.heap.size + 1, 0, none⟩), .pointer (some ⟨w1.heap.size, 0, none⟩), .pointer (some ⟨w2.heap.size, 0, none⟩)]) rfl rfl rfl rfl #[.nilFunc] 99 (Blk.new rfl #[.nilFunc] 99) (by simp) size_f99 ?_
        intro w3 hb3 hk3
        have h3 := hb3.below ((Below.refl w2.heap.size w2).alloc (Nat.le_refl _) _) (by simp only [World.size_alloc]; omega) (Nat.le_refl _)
        have HB3 := hid (Below.on HB2.out h3)
        have Ka3 := hid (show Blk w3 w2.heap.size #[.func (.func 68) #[] #[.pointer (some ⟨w.heap.size + 1, 0, none⟩), .pointer (some ⟨w1.heap.size, 0, none⟩), .pointer (some ⟨w2.heap.size, 0, none⟩)]] 99 from hk3)
        have Kr3 := hid (Kr2.out.below h3)
        have Kb3 := hid (Kb2.out.below h3)
        have Kt3 := hid (Kt2.out.below h3)
        have Kl3 := hid (Kl2.out.below h3)
        have Kw3 := hid (Kw2.out.below h3)
        have HE3 := hid (HEnv.mk (w := w3) (bb := w.heap.size + 1) (bt := w1.heap.size) (ba := w2.heap.size) (bl := w.heap.size + 1 + 1 + 1) (bw := w.heap.size + 1 + 1) Kb3.out Kt3.out Ka3.out Kw3.out (hT.below HB3.out) (hW.below HB3.out) (Htab.out.below HB3.out) (by omega) (by omega) (by omega) (by omega))
        have ca3 : w3.cell? ⟨w2.heap.size, 0, none⟩ = some (.func (.func 68) #[] #[.pointer (some ⟨w.heap.size + 1, 0, none⟩), .pointer (some ⟨w1.heap.size, 0, none⟩), .pointer (some ⟨w2.heap.size, 0, none⟩)]) := by rw [Ka3.out.cell]; rfl
        clear hb3 hk3 h3))
  refine (CA.out _ _ _ _ _ _ HE3.out Kl3.out).mono ?_
  rintro e w4 ⟨rfl, b4, k4⟩
  have HB4 := hid (b4.below HB3.out HB3.out.size (by omega))
  have Kr4 := hid (b4.blk Kr3.out (by omega))
  have Kl4 := hid k4
  have hs4 := b4.size
  clear b4 k4
  go_wp2_with (
        refine wpList_store_blk rfl 23 _ _ rfl (w4.heap.size) (X.map (Value.int .u8)).toArray rfl rfl _ 23 (Blk.new rfl (byteCells 32 []) _) 32 size_digest zsize HX.out.size (ints_one _ _) ?_
        intro w5 hb5 hk5
        have h5 := hb5.below ((Below.refl w4.heap.size w4).alloc (Nat.le_refl _) _) (by simp only [World.size_alloc]; omega) (Nat.le_refl _)
        have HB5 := hid (Below.on HB4.out h5)
        have K5 := hid hk5
        have Kr5 := hid (Kr4.out.below h5)
        have Kl5 := hid (Kl4.out.below h5)
        clear hb5 hk5 h5)
  refine (done_any (w.heap.size + 1 + 1 + 1) L2 _ Kl5.out).mono ?_
  rintro e wz ⟨rfl, hwz⟩
  have hwz := hwz.symm
  subst hwz
  have q1 := fun W => eqD X root HX.out.len hr.len W
  by_cases hz : L2 = 0
  · rw [decide_eq_true hz]
    go_wp2_with (first | (refine wpList_load_blk_if (by first | rfl | go_simp) 23 _ rfl (w4.heap.size) rfl _ 23 K5.out _ Tryd.underlying23 rfl 32 size_digest HX.out.size ?_) | (refine wpList_load_blk_if (by first | rfl | go_simp) 23 _ rfl (w.heap.size) rfl _ 23 Kr5.out _ Tryd.underlying23 rfl 32 size_digest hr.size ?_))
    go_returns
    exact ⟨by first | rfl | simp [hz], HB5.out⟩
  · rw [decide_eq_false hz]
    go_wp2_with (fail)
    go_returns
    exact ⟨by first | rfl | simp [hz], HB5.out⟩
end Go.Proofs.YthaicocfbmpnmaaDoor
