/-
  Layer 19: LogRoots.
-/
import Derived.Test.YthaicocfbmpnmaaDoorLLogD
namespace Go.Proofs.YthaicocfbmpnmaaDoor
open Go.ChangeShapes Go.WideShapes Go.ChangeAt Go.RowKit

set_option maxHeartbeats 4000000 in
set_option maxRecDepth 100000 in
theorem loRoot_full (a : Option Addr) (len cap : Nat) (w : World) (h : 200 < len) :
    Calls Tryd.prog 36 #[.slice a len cap] w fun e w' => e = .returned (.tuple #[.agg (zD.map (Value.int .u8)).toArray, .int .i64 3]) ∧ Below w.heap.size w w' := by
  have hI : (200 : Int) < len := by omega
  have b1 := (Below.refl w.heap.size w).alloc (Nat.le_refl _) (.cells (byteCells 32 []) 23 (0, 0))
  have Kr := hid (Blk.new (w := w) (n := w.heap.size) rfl (byteCells 32 []) 23)
  have Hb := hid b1
  have hbz := b1.size
  have Hbs := hid (show w.heap.size + 1 = (w.alloc (.cells (byteCells 32 []) 23 (0, 0))).heap.size by simp only [World.size_alloc])
  clear b1 
  go_enter Tryd.func36, Tryd.ntmps36
  go_wp2_with (
      refine wpList_store_blk rfl 23 _ _ rfl (w.heap.size) (zD.map (Value.int .u8)).toArray rfl rfl _ 23 Kr.out 32 size_digest zsize Dg.zero.size (ints_one _ _) ?_
      intro w9 hb9 hk9
      have HB9 := hid (hb9.below Hb.out Hb.out.size (by omega))
      have HK9 := hid hk9
      clear hb9 hk9)
  exact bodyPost_ret (v := .tuple #[.agg (zD.map (Value.int .u8)).toArray, .int .i64 3]) (results_blk_tmp Tryd.results36 _ (w.heap.size) rfl _ rfl _ 23 HK9.out _ Tryd.underlying23 rfl 32 size_digest Dg.zero.size) rfl ⟨rfl, HB9.out⟩

set_option maxHeartbeats 4000000 in
set_option maxRecDepth 100000 in
theorem loRoot_good (a : Option Addr) (len cap : Nat) (ts : List (List Int)) (w : World) (hT : TextsAt w a len cap ts) (h : len ≤ 200) (hs : sumLen ts ≤ 1000000) (tab : ShaTab w) :
    Calls Tryd.prog 36 #[.slice a len cap] w fun e w' => e = .returned (.tuple #[.agg ((rootL len ts).map (Value.int .u8)).toArray, .int .i64 0]) ∧ Below w.heap.size w w' := by
  have hI : ¬ ((200 : Int) < len) := by omega
  have CR := hid (fun (W : World) (h1 : TextsAt W a len cap ts) (t : ShaTab W) => loroot_any len a len cap ts W h1 (Nat.le_refl _) (by omega) hs t)
  have HX := hid (Dg.rootL len ts)
  generalize rootL len ts = X at *
  have b1 := (Below.refl w.heap.size w).alloc (Nat.le_refl _) (.cells (byteCells 32 []) 23 (0, 0))
  have Kr := hid (Blk.new (w := w) (n := w.heap.size) rfl (byteCells 32 []) 23)
  have Hb := hid b1
  have hbz := b1.size
  have Hbs := hid (show w.heap.size + 1 = (w.alloc (.cells (byteCells 32 []) 23 (0, 0))).heap.size by simp only [World.size_alloc])
  have Htab := hid tab
  clear b1 tab 
  go_enter Tryd.func36, Tryd.ntmps36
  go_wp2_with fail
  refine (CR.out _ (hT.below Hb.out) (Htab.out.below Hb.out)).mono ?_
  rintro e w1 ⟨rfl, bw1⟩
  have HBw1 := hid (Below.on Hb.out bw1)
  have hsw1 := HBw1.out.size
  have Krw1 := hid (Kr.out.below bw1)
  clear bw1
  go_wp2_with (
      refine wpList_store_blk rfl 23 _ _ rfl (w.heap.size) (X.map (Value.int .u8)).toArray rfl rfl _ 23 Krw1.out 32 size_digest zsize HX.out.size (ints_one _ _) ?_
      intro w9 hb9 hk9
      have HB9 := hid (hb9.below HBw1.out HBw1.out.size (by omega))
      have HK9 := hid hk9
      clear hb9 hk9)
  exact bodyPost_ret (v := .tuple #[.agg (X.map (Value.int .u8)).toArray, .int .i64 0]) (results_blk_tmp Tryd.results36 _ (w.heap.size) rfl _ rfl _ 23 HK9.out _ Tryd.underlying23 rfl 32 size_digest HX.out.size) rfl ⟨rfl, HB9.out⟩

set_option maxHeartbeats 4000000 in
set_option maxRecDepth 100000 in
theorem loWay_full (a : Option Addr) (len cap : Nat) (i : Int) (w : World) (h : 200 < len) :
    Calls Tryd.prog 37 #[.slice a len cap, .int .i64 i] w fun e w' => e = .returned (.tuple #[.slice none 0 0, .int .i64 3]) ∧ Below w.heap.size w w' := by
  have hI : (200 : Int) < len := by omega
  go_enter Tryd.func37, Tryd.ntmps37
  go_wp2_with fail
  go_returns
  exact ⟨rfl, Below.refl _ _⟩

set_option maxHeartbeats 4000000 in
set_option maxRecDepth 100000 in
theorem loWay_low (a : Option Addr) (len cap : Nat) (i : Int) (w : World) (h : len ≤ 200) (h1 : i < 0) :
    Calls Tryd.prog 37 #[.slice a len cap, .int .i64 i] w fun e w' => e = .returned (.tuple #[.slice none 0 0, .int .i64 1]) ∧ Below w.heap.size w w' := by
  have hI : ¬ ((200 : Int) < len) := by omega
  go_enter Tryd.func37, Tryd.ntmps37
  go_wp2_with fail
  go_returns
  exact ⟨rfl, Below.refl _ _⟩

set_option maxHeartbeats 4000000 in
set_option maxRecDepth 100000 in
theorem loWay_high (a : Option Addr) (len cap : Nat) (i : Int) (w : World) (h : len ≤ 200) (h1 : ¬ (i < 0)) (h2 : (len : Int) ≤ i) :
    Calls Tryd.prog 37 #[.slice a len cap, .int .i64 i] w fun e w' => e = .returned (.tuple #[.slice none 0 0, .int .i64 1]) ∧ Below w.heap.size w w' := by
  have hI : ¬ ((200 : Int) < len) := by omega
  go_enter Tryd.func37, Tryd.ntmps37
  go_wp2_with fail
  go_returns
  exact ⟨rfl, Below.refl _ _⟩

theorem loWay_bad (a : Option Addr) (len cap : Nat) (i : Int) (w : World) (h : len ≤ 200) (h1 : i < 0 ∨ (len : Int) ≤ i) :
    Calls Tryd.prog 37 #[.slice a len cap, .int .i64 i] w fun e w' => e = .returned (.tuple #[.slice none 0 0, .int .i64 1]) ∧ Below w.heap.size w w' := by
  by_cases hl : i < 0
  · exact loWay_low a len cap i w h hl
  · exact loWay_high a len cap i w h hl (by omega)

set_option maxHeartbeats 4000000 in
set_option maxRecDepth 100000 in
theorem loWay_good (a : Option Addr) (len cap : Nat) (ts : List (List Int)) (i : Nat) (w : World) (hT : TextsAt w a len cap ts) (h : len ≤ 200) (hi : i < len) (hs : sumLen ts ≤ 1000000) (tab : ShaTab w) :
    Calls Tryd.prog 37 #[.slice a len cap, .int .i64 i] w fun e w' => ∃ v, e = .returned (.tuple #[v, .int .i64 0]) ∧ Below w.heap.size w w' ∧ OwnD w' w.heap.size 23 v (pathL len ts i) := by
  have hI : ¬ ((200 : Int) < len) := by omega
  have hI1 : ¬ ((i : Int) < 0) := by omega
  have hI2 : ¬ ((len : Int) ≤ (i : Int)) := by omega
  have CP := hid (fun (W : World) (h1 : TextsAt W a len cap ts) (t : ShaTab W) => lopath_any len a len cap ts i W h1 hi (Nat.le_refl _) (by omega) (by omega) hs t)
  go_enter Tryd.func37, Tryd.ntmps37
  go_wp2_with fail
  refine (CP.out _ hT tab).mono ?_
  rintro e w1 ⟨v, rfl, b1, o1⟩
  have HB1 := hid b1
  have HO1 := hid o1
  clear b1 o1
  go_wp2_with fail
  go_returns
  exact ⟨_, rfl, HB1.out, HO1.out⟩

set_option maxHeartbeats 4000000 in
set_option maxRecDepth 100000 in
theorem loFrom_full (a : Option Addr) (len cap : Nat) (i : Int) (w : World) (h : 200 < len) :
    Calls Tryd.prog 38 #[.slice a len cap, .int .i64 i] w fun e w' => e = .returned (.tuple #[.slice none 0 0, .int .i64 3]) ∧ Below w.heap.size w w' := by
  have hI : (200 : Int) < len := by omega
  go_enter Tryd.func38, Tryd.ntmps38
  go_wp2_with fail
  go_returns
  exact ⟨rfl, Below.refl _ _⟩

set_option maxHeartbeats 4000000 in
set_option maxRecDepth 100000 in
theorem loFrom_low (a : Option Addr) (len cap : Nat) (i : Int) (w : World) (h : len ≤ 200) (h1 : i < 1) :
    Calls Tryd.prog 38 #[.slice a len cap, .int .i64 i] w fun e w' => e = .returned (.tuple #[.slice none 0 0, .int .i64 1]) ∧ Below w.heap.size w w' := by
  have hI : ¬ ((200 : Int) < len) := by omega
  go_enter Tryd.func38, Tryd.ntmps38
  go_wp2_with fail
  go_returns
  exact ⟨rfl, Below.refl _ _⟩

set_option maxHeartbeats 4000000 in
set_option maxRecDepth 100000 in
theorem loFrom_high (a : Option Addr) (len cap : Nat) (i : Int) (w : World) (h : len ≤ 200) (h1 : ¬ (i < 1)) (h2 : (len : Int) < i) :
    Calls Tryd.prog 38 #[.slice a len cap, .int .i64 i] w fun e w' => e = .returned (.tuple #[.slice none 0 0, .int .i64 1]) ∧ Below w.heap.size w w' := by
  have hI : ¬ ((200 : Int) < len) := by omega
  go_enter Tryd.func38, Tryd.ntmps38
  go_wp2_with fail
  go_returns
  exact ⟨rfl, Below.refl _ _⟩

theorem loFrom_bad (a : Option Addr) (len cap : Nat) (i : Int) (w : World) (h : len ≤ 200) (h1 : i < 1 ∨ (len : Int) < i) :
    Calls Tryd.prog 38 #[.slice a len cap, .int .i64 i] w fun e w' => e = .returned (.tuple #[.slice none 0 0, .int .i64 1]) ∧ Below w.heap.size w w' := by
  by_cases hl : i < 1
  · exact loFrom_low a len cap i w h hl
  · exact loFrom_high a len cap i w h hl (by omega)

set_option maxHeartbeats 4000000 in
set_option maxRecDepth 100000 in
theorem loFrom_good (a : Option Addr) (len cap : Nat) (ts : List (List Int)) (i : Nat) (w : World) (hT : TextsAt w a len cap ts) (h : len ≤ 200) (hi1 : 1 ≤ i) (hi : i ≤ len) (hs : sumLen ts ≤ 1000000) (tab : ShaTab w) :
    Calls Tryd.prog 38 #[.slice a len cap, .int .i64 i] w fun e w' => ∃ v, e = .returned (.tuple #[v, .int .i64 0]) ∧ Below w.heap.size w w' ∧ OwnD w' w.heap.size 23 v (growL len ts i false) := by
  have hI : ¬ ((200 : Int) < len) := by omega
  have hI1 : ¬ ((i : Int) < 1) := by omega
  have hI2 : ¬ ((len : Int) < (i : Int)) := by omega
  have CP := hid (fun (W : World) (h1 : TextsAt W a len cap ts) (t : ShaTab W) => logrown_any len a len cap ts i false W h1 hi1 hi (Nat.le_refl _) (by omega) (by omega) hs t)
  go_enter Tryd.func38, Tryd.ntmps38
  go_wp2_with fail
  refine (CP.out _ hT tab).mono ?_
  rintro e w1 ⟨v, rfl, b1, o1⟩
  have HB1 := hid b1
  have HO1 := hid o1
  clear b1 o1
  go_wp2_with fail
  go_returns
  exact ⟨_, rfl, HB1.out, HO1.out⟩
end Go.Proofs.YthaicocfbmpnmaaDoor
