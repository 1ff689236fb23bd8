/-
  Layer 19: whether a log can have grown so, by the program.
-/
import Derived.Test.YthaicocfbmpnmaaDoorLLogM
namespace Go.Proofs.YthaicocfbmpnmaaDoor
open Go.ChangeShapes Go.WideShapes Go.ChangeAt Go.RowKit

theorem size_f101 : (Tryd.prog.info? 101).map (·.size) = some 1 := by kernel_rfl

set_option maxHeartbeats 4000000 in
set_option maxRecDepth 100000 in
theorem grows_noa (A B : List Int) (m n : Int) (ya : Option Addr) (yn yc : Nat) (w : World) (_hA : Dg A) (_hB : Dg B) (h : m < 1) :
    Calls Tryd.prog 44 #[.agg (A.map (Value.int .u8)).toArray, .int .i64 m, .agg (B.map (Value.int .u8)).toArray, .int .i64 n, .slice ya yn yc] w fun e w' => e = .returned (.bool false) ∧ Below w.heap.size w w' := by
  have b1 := (Below.refl w.heap.size w).alloc (Nat.le_refl _) (.cells (A.map (Value.int .u8)).toArray 23 (0, 0))
  have b2 := b1.alloc b1.size (.cells (B.map (Value.int .u8)).toArray 23 (0, 0))
  have Ka := hid ((Blk.new (w := w) (n := w.heap.size) rfl (A.map (Value.int .u8)).toArray 23).old (.cells (B.map (Value.int .u8)).toArray 23 (0, 0)))
  have Kb := hid (Blk.new (w := (w.alloc (.cells (A.map (Value.int .u8)).toArray 23 (0, 0)))) (n := w.heap.size + 1) (by simp only [World.size_alloc]) (B.map (Value.int .u8)).toArray 23)
  have Hb := hid b2
  have hbz := b2.size
  have Hbs := hid (show w.heap.size + 1 + 1 = ((w.alloc (.cells (A.map (Value.int .u8)).toArray 23 (0, 0))).alloc (.cells (B.map (Value.int .u8)).toArray 23 (0, 0))).heap.size by simp only [World.size_alloc])
  clear b1 b2 
  go_enter Tryd.func44, Tryd.ntmps44
  go_wp2_with fail
  go_returns
  exact ⟨rfl, Hb.out⟩

set_option maxHeartbeats 4000000 in
set_option maxRecDepth 100000 in
theorem grows_nob (A B : List Int) (m n : Int) (ya : Option Addr) (yn yc : Nat) (w : World) (_hA : Dg A) (_hB : Dg B) (h1 : ¬ m < 1) (h : n < m) :
    Calls Tryd.prog 44 #[.agg (A.map (Value.int .u8)).toArray, .int .i64 m, .agg (B.map (Value.int .u8)).toArray, .int .i64 n, .slice ya yn yc] w fun e w' => e = .returned (.bool false) ∧ Below w.heap.size w w' := by
  have b1 := (Below.refl w.heap.size w).alloc (Nat.le_refl _) (.cells (A.map (Value.int .u8)).toArray 23 (0, 0))
  have b2 := b1.alloc b1.size (.cells (B.map (Value.int .u8)).toArray 23 (0, 0))
  have Ka := hid ((Blk.new (w := w) (n := w.heap.size) rfl (A.map (Value.int .u8)).toArray 23).old (.cells (B.map (Value.int .u8)).toArray 23 (0, 0)))
  have Kb := hid (Blk.new (w := (w.alloc (.cells (A.map (Value.int .u8)).toArray 23 (0, 0)))) (n := w.heap.size + 1) (by simp only [World.size_alloc]) (B.map (Value.int .u8)).toArray 23)
  have Hb := hid b2
  have hbz := b2.size
  have Hbs := hid (show w.heap.size + 1 + 1 = ((w.alloc (.cells (A.map (Value.int .u8)).toArray 23 (0, 0))).alloc (.cells (B.map (Value.int .u8)).toArray 23 (0, 0))).heap.size by simp only [World.size_alloc])
  clear b1 b2 
  go_enter Tryd.func44, Tryd.ntmps44
  go_wp2_with fail
  go_returns
  exact ⟨rfl, Hb.out⟩

set_option maxHeartbeats 4000000 in
set_option maxRecDepth 100000 in
theorem grows_noc (A B : List Int) (m n : Int) (ya : Option Addr) (yn yc : Nat) (w : World) (_hA : Dg A) (_hB : Dg B) (h1 : ¬ m < 1) (h2 : ¬ n < m) (h : 200 < n) :
    Calls Tryd.prog 44 #[.agg (A.map (Value.int .u8)).toArray, .int .i64 m, .agg (B.map (Value.int .u8)).toArray, .int .i64 n, .slice ya yn yc] w fun e w' => e = .returned (.bool false) ∧ Below w.heap.size w w' := by
  have b1 := (Below.refl w.heap.size w).alloc (Nat.le_refl _) (.cells (A.map (Value.int .u8)).toArray 23 (0, 0))
  have b2 := b1.alloc b1.size (.cells (B.map (Value.int .u8)).toArray 23 (0, 0))
  have Ka := hid ((Blk.new (w := w) (n := w.heap.size) rfl (A.map (Value.int .u8)).toArray 23).old (.cells (B.map (Value.int .u8)).toArray 23 (0, 0)))
  have Kb := hid (Blk.new (w := (w.alloc (.cells (A.map (Value.int .u8)).toArray 23 (0, 0)))) (n := w.heap.size + 1) (by simp only [World.size_alloc]) (B.map (Value.int .u8)).toArray 23)
  have Hb := hid b2
  have hbz := b2.size
  have Hbs := hid (show w.heap.size + 1 + 1 = ((w.alloc (.cells (A.map (Value.int .u8)).toArray 23 (0, 0))).alloc (.cells (B.map (Value.int .u8)).toArray 23 (0, 0))).heap.size by simp only [World.size_alloc])
  clear b1 b2 
  go_enter Tryd.func44, Tryd.ntmps44
  go_wp2_with fail
  go_returns
  exact ⟨rfl, Hb.out⟩

theorem grows_bad (A B : List Int) (m n : Int) (ya : Option Addr) (yn yc : Nat) (w : World) (hA : Dg A) (hB : Dg B) (h : m < 1 ∨ n < m ∨ 200 < n) :
    Calls Tryd.prog 44 #[.agg (A.map (Value.int .u8)).toArray, .int .i64 m, .agg (B.map (Value.int .u8)).toArray, .int .i64 n, .slice ya yn yc] w fun e w' => e = .returned (.bool false) ∧ Below w.heap.size w w' := by
  by_cases h1 : m < 1
  · exact grows_noa A B m n ya yn yc w hA hB h1
  · by_cases h2 : n < m
    · exact grows_nob A B m n ya yn yc w hA hB h1 h2
    · exact grows_noc A B m n ya yn yc w hA hB h1 h2 (by omega)

set_option maxHeartbeats 4000000 in
set_option maxRecDepth 100000 in
theorem grows_good (A B : List Int) (m n : Nat) (ya : Option Addr) (yn yc : Nat) (ds : List (List Int)) (w : World) (hA : Dg A) (hB : Dg B) (hm1 : 1 ≤ m) (hmn : m ≤ n) (hn2 : n ≤ 200) (hW : DigsAt w ya yn yc ds) (hyn : yn ≤ 1000000) (tab : ShaTab w) :
    Calls Tryd.prog 44 #[.agg (A.map (Value.int .u8)).toArray, .int .i64 m, .agg (B.map (Value.int .u8)).toArray, .int .i64 n, .slice ya yn yc] w fun e w' => e = .returned (.bool (decide ((groZ n A m n false ds yn).2 = 0) && decide ((groZ n A m n false ds yn).1.1 = A) && decide ((groZ n A m n false ds yn).1.2 = B))) ∧ Below w.heap.size w w' := by
  have hI1 : ¬ ((m : Int) < 1) := by omega
  have hI2 : ¬ ((n : Int) < (m : Int)) := by omega
  have hI3 : ¬ ((200 : Int) < (n : Int)) := by omega
  have CT := hid (fun (W : World) (k : Nat) (hk : W.heap.size = k) => (hk ▸ taker_any ya yn yc W : Calls Tryd.prog 67 #[.slice ya yn yc] W fun e w' => e = .returned (.tuple #[.func (.func 87) #[] #[.pointer (some ⟨k + 1, 0, none⟩), .pointer (some ⟨k, 0, none⟩)], .func (.func 88) #[] #[.pointer (some ⟨k + 1, 0, none⟩)]]) ∧ Below W.heap.size W w' ∧ Blk w' (k + 1) #[.int .i64 yn] 3 ∧ Blk w' k #[.slice ya yn yc] 27))
  have CA := hid (fun (W : World) (ba bt bs bl bw : Nat) (h : GEnv W ba bt bs bl bw A ya yn yc ds) (k : Blk W bl #[.int .i64 (yn : Int)] 3) => gro_any n m n false (yn : Int) ba bt bs bl bw A ya yn yc ds W h k hA hm1 hmn (Nat.le_refl _) hn2 (by omega) (by omega) hyn)
  have hwl := hW.length
  have hG := Dg.groZ hA hW.each n m n false (yn : Int) (by omega)
  have HX1 := hid hG.1
  have HX2 := hid hG.2
  clear hG hwl
  generalize (groZ n A m n false ds yn).1.1 = X1 at *
  generalize (groZ n A m n false ds yn).1.2 = X2 at *
  generalize (groZ n A m n false ds yn).2 = L2 at *
  have b1 := (Below.refl w.heap.size w).alloc (Nat.le_refl _) (.cells (A.map (Value.int .u8)).toArray 23 (0, 0))
  have b2 := b1.alloc b1.size (.cells (B.map (Value.int .u8)).toArray 23 (0, 0))
  have Ka := hid ((Blk.new (w := w) (n := w.heap.size) rfl (A.map (Value.int .u8)).toArray 23).old (.cells (B.map (Value.int .u8)).toArray 23 (0, 0)))
  have Kb := hid (Blk.new (w := (w.alloc (.cells (A.map (Value.int .u8)).toArray 23 (0, 0)))) (n := w.heap.size + 1) (by simp only [World.size_alloc]) (B.map (Value.int .u8)).toArray 23)
  have Hb := hid b2
  have hbz := b2.size
  have Hbs := hid (show w.heap.size + 1 + 1 = ((w.alloc (.cells (A.map (Value.int .u8)).toArray 23 (0, 0))).alloc (.cells (B.map (Value.int .u8)).toArray 23 (0, 0))).heap.size by simp only [World.size_alloc])
  have Htab := hid tab
  clear b1 b2 tab 
  go_enter Tryd.func44, Tryd.ntmps44
  go_wp2_with fail
  refine (CT.out _ (w.heap.size + 1 + 1) (by simp only [World.size_alloc])).mono ?_
  rintro e w1 ⟨rfl, b1, kl1, kw1⟩
  have Kl1 := hid kl1
  have Kw1 := hid kw1
  have HBw1 := hid (Below.on Hb.out b1)
  have hsw1 := HBw1.out.size
  have Kaw1 := hid (Ka.out.below b1)
  have Kbw1 := hid (Kb.out.below b1)
  have hs11 : w.heap.size + 1 + 1 + 1 < w1.heap.size := kl1.lt
  clear b1 kl1 kw1
  go_wp2_with (first
     | (
        refine wpList_store_cell rfl 96 _ _ rfl (w1.heap.size) 0 (.func (.func 87) #[] #[.pointer (some ⟨w.heap.size + 1 + 1 + 1, 0, none⟩), .pointer (some ⟨w.heap.size + 1 + 1, 0, none⟩)]) rfl rfl rfl rfl #[.nilFunc] 96 (Blk.new rfl #[.nilFunc] 96) (by simp) size_f96 ?_
        intro w2 hb2 hk2
        have h2 := hb2.below ((Below.refl w1.heap.size w1).alloc (Nat.le_refl _) _) (by simp only [World.size_alloc]; omega) (Nat.le_refl _)
        have HB2 := hid (Below.on HBw1.out h2)
        have Kt2 := hid (show Blk w2 w1.heap.size #[.func (.func 87) #[] #[.pointer (some ⟨w.heap.size + 1 + 1 + 1, 0, none⟩), .pointer (some ⟨w.heap.size + 1 + 1, 0, none⟩)]] 96 from hk2)
        have Ka2 := hid (Kaw1.out.below h2)
        have Kb2 := hid (Kbw1.out.below h2)
        have Kl2 := hid (Kl1.out.below h2)
        have Kw2 := hid (Kw1.out.below h2)
        have hs2 := Kt2.out.lt
        clear hb2 hk2 h2)
     | (
        refine wpList_store_cell rfl 101 _ _ rfl (w2.heap.size) 0 (.func (.func 71) #[] #[.pointer (some ⟨w.heap.size, 0, none⟩), .pointer (some ⟨w1.heap.size, 0, none⟩), .pointer (some ⟨w2.heap.size, 0, none⟩)]) rfl rfl rfl rfl #[.nilFunc] 101 (Blk.new rfl #[.nilFunc] 101) (by simp) size_f101 ?_
        intro w3 hb3 hk3
        have h3 := hb3.below ((Below.refl w2.heap.size w2).alloc (Nat.le_refl _) _) (by simp only [World.size_alloc]; omega) (Nat.le_refl _)
        have HB3 := hid (Below.on HB2.out h3)
        have Kg3 := hid (show Blk w3 w2.heap.size #[.func (.func 71) #[] #[.pointer (some ⟨w.heap.size, 0, none⟩), .pointer (some ⟨w1.heap.size, 0, none⟩), .pointer (some ⟨w2.heap.size, 0, none⟩)]] 101 from hk3)
        have Ka3 := hid (Ka2.out.below h3)
        have Kb3 := hid (Kb2.out.below h3)
        have Kt3 := hid (Kt2.out.below h3)
        have Kl3 := hid (Kl2.out.below h3)
        have Kw3 := hid (Kw2.out.below h3)
        have HE3 := hid (GEnv.mk (w := w3) (ba := w.heap.size) (bt := w1.heap.size) (bs := w2.heap.size) (bl := w.heap.size + 1 + 1 + 1) (bw := w.heap.size + 1 + 1) Ka3.out Kt3.out Kg3.out Kw3.out (hW.below HB3.out) (Htab.out.below HB3.out) (by omega) (by omega) (by omega) (by omega))
        have ca3 : w3.cell? ⟨w2.heap.size, 0, none⟩ = some (.func (.func 71) #[] #[.pointer (some ⟨w.heap.size, 0, none⟩), .pointer (some ⟨w1.heap.size, 0, none⟩), .pointer (some ⟨w2.heap.size, 0, none⟩)]) := by rw [Kg3.out.cell]; rfl
        clear hb3 hk3 h3))
  refine (CA.out _ _ _ _ _ _ HE3.out Kl3.out).mono ?_
  rintro e w4 ⟨rfl, b4, k4⟩
  have HB4 := hid (b4.below HB3.out HB3.out.size (by omega))
  have Ka4 := hid (b4.blk Ka3.out (by omega))
  have Kb4 := hid (b4.blk Kb3.out (by omega))
  have Kl4 := hid k4
  have hs4 := b4.size
  clear b4 k4
  go_wp2_with (first
     | (
        refine wpList_store_blk rfl 23 _ _ rfl (w4.heap.size) (X1.map (Value.int .u8)).toArray rfl rfl _ 23 ((Blk.new rfl (byteCells 32 []) _).old _) 32 size_digest zsize HX1.out.size (ints_one _ _) ?_
        intro w5 hb5 hk5
        have h5 := hb5.below (((Below.refl w4.heap.size w4).alloc (Nat.le_refl _) _).alloc (by simp only [World.size_alloc]; omega) _) (by simp only [World.size_alloc]; omega) (Nat.le_refl _)
        have H5 := hid h5
        have Ku5 := hid hk5
        have Kv5 := hid (hb5.blk (Blk.new (n := w4.heap.size + 1) (by simp only [World.size_alloc]) (byteCells 32 []) 23) (by omega))
        clear hb5 hk5 h5)
     | (
        refine wpList_store_blk rfl 23 _ _ rfl (w4.heap.size + 1) (X2.map (Value.int .u8)).toArray rfl rfl _ 23 Kv5.out 32 size_digest zsize HX2.out.size (ints_one _ _) ?_
        intro w6 hb6 hk6
        have h6 := hb6.below H5.out H5.out.size (by omega)
        have HB6 := hid (Below.on HB4.out h6)
        have Ku6 := hid (hb6.blk Ku5.out (by omega))
        have Kv6 := hid hk6
        have Ka6 := hid (Ka4.out.below h6)
        have Kb6 := hid (Kb4.out.below h6)
        have Kl6 := hid (Kl4.out.below h6)
        clear hb6 hk6 h6))
  refine (done_any (w.heap.size + 1 + 1 + 1) L2 _ Kl6.out).mono ?_
  rintro e wz ⟨rfl, hwz⟩
  have hwz := hwz.symm
  subst hwz
  by_cases hz : L2 = 0
  · rw [decide_eq_true hz]
    by_cases hx : X1 = A
    · have q1 := fun W => eqD X1 A HX1.out.len hA.len W
      have q2 := fun W => eqD X2 B HX2.out.len hB.len W
      rw [decide_eq_true hx] at q1
      have HXX := hid hx
      clear hx
      go_wp2_with (first | (refine wpList_load_blk_if (by first | rfl | go_simp) 23 _ rfl (w4.heap.size) rfl _ 23 Ku6.out _ Tryd.underlying23 rfl 32 size_digest HX1.out.size ?_) | (refine wpList_load_blk_if (by first | rfl | go_simp) 23 _ rfl (w.heap.size) rfl _ 23 Ka6.out _ Tryd.underlying23 rfl 32 size_digest hA.size ?_) | (refine wpList_load_blk_if (by first | rfl | go_simp) 23 _ rfl (w4.heap.size + 1) rfl _ 23 Kv6.out _ Tryd.underlying23 rfl 32 size_digest HX2.out.size ?_) | (refine wpList_load_blk_if (by first | rfl | go_simp) 23 _ rfl (w.heap.size + 1) rfl _ 23 Kb6.out _ Tryd.underlying23 rfl 32 size_digest hB.size ?_))
      go_returns
      exact ⟨by first | rfl | simp [hz, HXX.out], HB6.out⟩
    · have q1 := fun W => eqD X1 A HX1.out.len hA.len W
      rw [decide_eq_false hx] at q1
      go_wp2_with (first | (refine wpList_load_blk_if (by first | rfl | go_simp) 23 _ rfl (w4.heap.size) rfl _ 23 Ku6.out _ Tryd.underlying23 rfl 32 size_digest HX1.out.size ?_) | (refine wpList_load_blk_if (by first | rfl | go_simp) 23 _ rfl (w.heap.size) rfl _ 23 Ka6.out _ Tryd.underlying23 rfl 32 size_digest hA.size ?_))
      go_returns
      exact ⟨by first | rfl | simp [hz, hx], HB6.out⟩
  · rw [decide_eq_false hz]
    go_wp2_with (fail)
    go_returns
    exact ⟨by first | rfl | simp [hz], HB6.out⟩
end Go.Proofs.YthaicocfbmpnmaaDoor
