/-
  Layer 11: shapes, and keys.
-/
import Derived.Test.YtjkfbeillmeomaaGreatDoorSZPBuild
import Derived.ChangeSame
namespace Go.Proofs.YtjkfbeillmeomaaGreatDoor
set_option maxRecDepth 100000
open Go.ChangeShapes Go.WideShapes Go.ChangeAt Go.RowKit
/-- Is a shape right? -/
def rightS (L V : Int) : Bool := decide (1 ≤ L ∧ L ≤ 4 ∧ 1 ≤ V ∧ V ≤ 4)
def shC (L V : Int) : Array Value := #[.int .i64 L, .int .i64 V]
theorem size_shape : (Tryz.prog.info? 23).map (·.size) = some 2 := by kernel_rfl
set_option maxHeartbeats 4000000 in
theorem hright_any (L V : Int) (w : World) : Calls Tryz.prog 17 #[.agg (shC L V)] w fun e w' => e = .returned (.bool (rightS L V)) ∧ Below w.heap.size w w' := by
  unfold shC
  by_cases h1 : 1 ≤ L
  · by_cases h2 : L ≤ 4
    · by_cases h3 : 1 ≤ V
      · by_cases h4 : V ≤ 4
        · go_enter Tryz.func17, Tryz.ntmps17
          go_wp2
          go_returns
          exact ⟨by simp [rightS, *] <;> omega, by go_grown⟩
        · have h4b : 4 < V := by omega
          go_enter Tryz.func17, Tryz.ntmps17
          go_wp2
          go_returns
          exact ⟨by simp [rightS, *] <;> omega, by go_grown⟩
      · have h3b : V < 1 := by omega
        go_enter Tryz.func17, Tryz.ntmps17
        go_wp2
        go_returns
        exact ⟨by simp [rightS, *] <;> omega, by go_grown⟩
    · have h2b : 4 < L := by omega
      go_enter Tryz.func17, Tryz.ntmps17
      go_wp2
      go_returns
      exact ⟨by simp [rightS, *] <;> omega, by go_grown⟩
  · have h1b : L < 1 := by omega
    go_enter Tryz.func17, Tryz.ntmps17
    go_wp2
    go_returns
    exact ⟨by simp [rightS, *] <;> omega, by go_grown⟩
set_option maxHeartbeats 4000000 in
theorem refright_any (L V : Int) (w : World) : Calls Tryz.prog 8 #[.agg (shC L V)] w fun e w' => e = .returned (.bool (rightS L V)) ∧ Below w.heap.size w w' := by
  unfold shC
  by_cases h1 : 1 ≤ L
  · by_cases h2 : L ≤ 4
    · by_cases h3 : 1 ≤ V
      · by_cases h4 : V ≤ 4
        · go_enter Tryz.func8, Tryz.ntmps8
          go_wp2
          go_returns
          exact ⟨by simp [rightS, *] <;> omega, by go_grown⟩
        · have h4b : 4 < V := by omega
          go_enter Tryz.func8, Tryz.ntmps8
          go_wp2
          go_returns
          exact ⟨by simp [rightS, *] <;> omega, by go_grown⟩
      · have h3b : V < 1 := by omega
        go_enter Tryz.func8, Tryz.ntmps8
        go_wp2
        go_returns
        exact ⟨by simp [rightS, *] <;> omega, by go_grown⟩
    · have h2b : 4 < L := by omega
      go_enter Tryz.func8, Tryz.ntmps8
      go_wp2
      go_returns
      exact ⟨by simp [rightS, *] <;> omega, by go_grown⟩
  · have h1b : L < 1 := by omega
    go_enter Tryz.func8, Tryz.ntmps8
    go_wp2
    go_returns
    exact ⟨by simp [rightS, *] <;> omega, by go_grown⟩
set_option maxHeartbeats 4000000 in
theorem power_any (n : Nat) (hn : n ≤ 40) (w : World) : Calls Tryz.prog 13 #[.int .i64 (n : Int)] w fun e w' => e = .returned (.int .i64 ((2 ^ n : Nat) : Int)) ∧ Below w.heap.size w w' := by
  go_enter Tryz.func13, Tryz.ntmps13
  go_wp2_with fail
  go_loopw [3, 4] (fun mv iv wr => ∃ k p : Nat, k ≤ n ∧ p = 2 ^ k ∧ mv = .int .i64 (p : Int) ∧ iv = .int .i64 k ∧ Below w.heap.size w wr) (fun _ iv _ => n - (intOf iv).toNat)
  case atStart => exact ⟨0, 1, Nat.zero_le _, rfl, rfl, rfl, Below.refl _ _⟩
  case round =>
    obtain ⟨k, p, hk, hp, rfl, rfl, bel⟩ := hrel
    have hp40 : p ≤ 1099511627776 := by
      rw [hp]
      exact Nat.le_trans (Nat.pow_le_pow_right (by omega) (show k ≤ 40 by omega)) (by decide)
    have Hp := hid hp
    clear hp
    by_cases hlt : k < n
    · have hc0 : (k : Int) < n := by omega
      go_wp2_with fail
      exact ⟨⟨k + 1, p * 2, by omega, by rw [Hp.out, Nat.pow_succ], by go_num, by go_num, bel⟩, by simp [intOf]; omega⟩
    · obtain rfl : k = n := by omega
      have hc0 : ¬ ((k : Int) < k) := by omega
      go_wp2_with fail
      go_returns
      exact ⟨by simp [Hp.out], bel⟩
/-- How many indices a shape has. -/
def manyS (L V : Int) : Int := if rightS L V = true then ((2 ^ (L * V).toNat : Nat) : Int) else 0
theorem manyS_bad {L V : Int} (h : rightS L V = false) : manyS L V = 0 := by simp [manyS, h]
theorem hright_b (L V : Int) (b : Bool) (hb : rightS L V = b) (w : World) : Calls Tryz.prog 17 #[.agg (shC L V)] w fun e w' => e = .returned (.bool b) ∧ Below w.heap.size w w' := by
  rw [← hb]; exact hright_any L V w
theorem refright_b (L V : Int) (b : Bool) (hb : rightS L V = b) (w : World) : Calls Tryz.prog 8 #[.agg (shC L V)] w fun e w' => e = .returned (.bool b) ∧ Below w.heap.size w w' := by
  rw [← hb]; exact refright_any L V w
theorem wrap_pow16 {n : Nat} (h : n ≤ 16) : wrap64 ((2 : Int) ^ n) = ((2 ^ n : Nat) : Int) := (by decide +kernel : ∀ i : Fin 17, wrap64 ((2 : Int) ^ i.val) = ((2 ^ i.val : Nat) : Int)) ⟨n, by omega⟩
set_option maxHeartbeats 4000000 in
theorem many_bad (L V : Int) (w : World) (hr : rightS L V = false) : Calls Tryz.prog 15 #[.agg (shC L V)] w fun e w' => e = .returned (.int .i64 (manyS L V)) ∧ Below w.heap.size w w' := by
  have b1 := (Below.refl w.heap.size w).alloc (Nat.le_refl _) (.cells (shC L V) 23 (0, 0))
  have Ksh := hid (Blk.new (w := w) (n := w.heap.size) rfl (shC L V) 23)
  have Hb := hid b1
  have Hsz2 := hid (show (shC L V).size = 2 from rfl)
  have c0 : (w.alloc (.cells (shC L V) 23 (0, 0))).cell? ⟨w.heap.size, 0, none⟩ = some (.int .i64 L) := by rw [Ksh.out.cell]; rfl
  have c1 : (w.alloc (.cells (shC L V) 23 (0, 0))).cell? ⟨w.heap.size, 1, none⟩ = some (.int .i64 V) := by rw [Ksh.out.cell]; rfl
  clear b1
  go_enter Tryz.func15, Tryz.ntmps15
  go_wp2_with (refine wpList_load_blk rfl 23 _ rfl (w.heap.size) rfl _ 23 Ksh.out _ Tryz.underlying23 rfl 2 size_shape Hsz2.out ?_)
  refine (hright_b L V false hr _).mono ?_
  rintro e w1 ⟨rfl, bw1⟩
  have HBw1 := hid (Below.on Hb.out bw1)
  have hsw1 := HBw1.out.size
  have Kshw1 := hid (Ksh.out.below bw1)
  clear bw1
  go_wp2_with fail
  go_returns
  exact ⟨by rw [manyS_bad hr]; rfl, HBw1.out⟩
set_option maxHeartbeats 4000000 in
theorem many_good (L V : Int) (w : World) (hr : rightS L V = true) : Calls Tryz.prog 15 #[.agg (shC L V)] w fun e w' => e = .returned (.int .i64 (manyS L V)) ∧ Below w.heap.size w w' := by
  have hr2 := hr
  simp only [rightS, decide_eq_true_eq] at hr2
  obtain ⟨n, hn⟩ : ∃ n : Nat, L * V = (n : Int) := ⟨(L * V).toNat, by have := Int.mul_nonneg (show 0 ≤ L by omega) (show 0 ≤ V by omega); omega⟩
  have hm16 : n ≤ 16 := by
    have h1 : L * V ≤ 4 * 4 := Int.mul_le_mul (by omega) (by omega) (by omega) (by omega)
    omega
  have hmz : manyS L V = ((2 ^ n : Nat) : Int) := by rw [manyS, if_pos hr, hn]; rfl
  rw [hmz]
  have b1 := (Below.refl w.heap.size w).alloc (Nat.le_refl _) (.cells (shC L V) 23 (0, 0))
  have Ksh := hid (Blk.new (w := w) (n := w.heap.size) rfl (shC L V) 23)
  have Hb := hid b1
  have Hsz2 := hid (show (shC L V).size = 2 from rfl)
  have c0 : (w.alloc (.cells (shC L V) 23 (0, 0))).cell? ⟨w.heap.size, 0, none⟩ = some (.int .i64 L) := by rw [Ksh.out.cell]; rfl
  have c1 : (w.alloc (.cells (shC L V) 23 (0, 0))).cell? ⟨w.heap.size, 1, none⟩ = some (.int .i64 V) := by rw [Ksh.out.cell]; rfl
  clear b1
  go_enter Tryz.func15, Tryz.ntmps15
  go_wp2_with (refine wpList_load_blk rfl 23 _ rfl (w.heap.size) rfl _ 23 Ksh.out _ Tryz.underlying23 rfl 2 size_shape Hsz2.out ?_)
  refine (hright_b L V true hr _).mono ?_
  rintro e w1 ⟨rfl, bw1⟩
  have HBw1 := hid (Below.on Hb.out bw1)
  have hsw1 := HBw1.out.size
  have Kshw1 := hid (Ksh.out.below bw1)
  clear bw1
  have d0 : w1.cell? ⟨w.heap.size, 0, none⟩ = some (.int .i64 L) := by rw [Kshw1.out.cell]; rfl
  have d1 : w1.cell? ⟨w.heap.size, 1, none⟩ = some (.int .i64 V) := by rw [Kshw1.out.cell]; rfl
  have hw := wrap_pow16 hm16
  go_wp2_with fail
  go_returns
  exact ⟨by simp [hw], HBw1.out⟩
theorem many_any (L V : Int) (w : World) : Calls Tryz.prog 15 #[.agg (shC L V)] w fun e w' => e = .returned (.int .i64 (manyS L V)) ∧ Below w.heap.size w w' := by
  cases hr : rightS L V with
  | false => exact many_bad L V w hr
  | true => exact many_good L V w hr
set_option maxHeartbeats 4000000 in
theorem refmany_bad (L V : Int) (w : World) (hr : rightS L V = false) : Calls Tryz.prog 9 #[.agg (shC L V)] w fun e w' => e = .returned (.int .i64 (manyS L V)) ∧ Below w.heap.size w w' := by
  have b1 := (Below.refl w.heap.size w).alloc (Nat.le_refl _) (.cells (shC L V) 23 (0, 0))
  have Ksh := hid (Blk.new (w := w) (n := w.heap.size) rfl (shC L V) 23)
  have Hb := hid b1
  have Hsz2 := hid (show (shC L V).size = 2 from rfl)
  have c0 : (w.alloc (.cells (shC L V) 23 (0, 0))).cell? ⟨w.heap.size, 0, none⟩ = some (.int .i64 L) := by rw [Ksh.out.cell]; rfl
  have c1 : (w.alloc (.cells (shC L V) 23 (0, 0))).cell? ⟨w.heap.size, 1, none⟩ = some (.int .i64 V) := by rw [Ksh.out.cell]; rfl
  clear b1
  go_enter Tryz.func9, Tryz.ntmps9
  go_wp2_with (refine wpList_load_blk rfl 23 _ rfl (w.heap.size) rfl _ 23 Ksh.out _ Tryz.underlying23 rfl 2 size_shape Hsz2.out ?_)
  refine (refright_b L V false hr _).mono ?_
  rintro e w1 ⟨rfl, bw1⟩
  have HBw1 := hid (Below.on Hb.out bw1)
  have hsw1 := HBw1.out.size
  have Kshw1 := hid (Ksh.out.below bw1)
  clear bw1
  go_wp2_with fail
  go_returns
  exact ⟨by rw [manyS_bad hr]; rfl, HBw1.out⟩
set_option maxHeartbeats 4000000 in
theorem refmany_good (L V : Int) (w : World) (hr : rightS L V = true) : Calls Tryz.prog 9 #[.agg (shC L V)] w fun e w' => e = .returned (.int .i64 (manyS L V)) ∧ Below w.heap.size w w' := by
  have hr2 := hr
  simp only [rightS, decide_eq_true_eq] at hr2
  obtain ⟨n, hn⟩ : ∃ n : Nat, L * V = (n : Int) := ⟨(L * V).toNat, by have := Int.mul_nonneg (show 0 ≤ L by omega) (show 0 ≤ V by omega); omega⟩
  have hm16 : n ≤ 16 := by
    have h1 : L * V ≤ 4 * 4 := Int.mul_le_mul (by omega) (by omega) (by omega) (by omega)
    omega
  have hmz : manyS L V = ((2 ^ n : Nat) : Int) := by rw [manyS, if_pos hr, hn]; rfl
  rw [hmz]
  have b1 := (Below.refl w.heap.size w).alloc (Nat.le_refl _) (.cells (shC L V) 23 (0, 0))
  have Ksh := hid (Blk.new (w := w) (n := w.heap.size) rfl (shC L V) 23)
  have Hb := hid b1
  have Hsz2 := hid (show (shC L V).size = 2 from rfl)
  have c0 : (w.alloc (.cells (shC L V) 23 (0, 0))).cell? ⟨w.heap.size, 0, none⟩ = some (.int .i64 L) := by rw [Ksh.out.cell]; rfl
  have c1 : (w.alloc (.cells (shC L V) 23 (0, 0))).cell? ⟨w.heap.size, 1, none⟩ = some (.int .i64 V) := by rw [Ksh.out.cell]; rfl
  clear b1
  go_enter Tryz.func9, Tryz.ntmps9
  go_wp2_with (refine wpList_load_blk rfl 23 _ rfl (w.heap.size) rfl _ 23 Ksh.out _ Tryz.underlying23 rfl 2 size_shape Hsz2.out ?_)
  refine (refright_b L V true hr _).mono ?_
  rintro e w1 ⟨rfl, bw1⟩
  have HBw1 := hid (Below.on Hb.out bw1)
  have hsw1 := HBw1.out.size
  have Kshw1 := hid (Ksh.out.below bw1)
  clear bw1
  have d0 : w1.cell? ⟨w.heap.size, 0, none⟩ = some (.int .i64 L) := by rw [Kshw1.out.cell]; rfl
  have d1 : w1.cell? ⟨w.heap.size, 1, none⟩ = some (.int .i64 V) := by rw [Kshw1.out.cell]; rfl
  go_wp2_with fail
  refine (power_any n (by omega) _).mono ?_
  rintro e w2 ⟨rfl, bw2⟩
  have HBw2 := hid (Below.on HBw1.out bw2)
  have hsw2 := HBw2.out.size
  have Kshw2 := hid (Kshw1.out.below bw2)
  clear bw2
  go_wp2_with fail
  go_returns
  exact ⟨rfl, HBw2.out⟩
theorem refmany_any (L V : Int) (w : World) : Calls Tryz.prog 9 #[.agg (shC L V)] w fun e w' => e = .returned (.int .i64 (manyS L V)) ∧ Below w.heap.size w w' := by
  cases hr : rightS L V with
  | false => exact refmany_bad L V w hr
  | true => exact refmany_good L V w hr
end Go.Proofs.YtjkfbeillmeomaaGreatDoor
