/-
  Layer 18: the bits of a proof's known places, by the reference; how many there are.
-/
import Derived.Test.YthaicocfbmpnmaaDoorPtG
import Derived.Lib.BitFns
namespace Go.Proofs.YthaicocfbmpnmaaDoor
open Go.ChangeShapes Go.WideShapes Go.ChangeAt Go.RowKit

/-- Is a place's sibling known? -/
def knB (d : List Int) (k : Nat) : Bool := decide (d.getD (k / 8) 0 / 2 ^ (k % 8) % 2 = 1)
/-- How many of the first places' siblings are known. -/
def knN (d : List Int) : Nat → Nat
  | 0 => 0
  | k + 1 => knN d k + (if knB d k then 1 else 0)
theorem knN_le (d : List Int) (k : Nat) : knN d k ≤ k := by
  induction k with
  | zero => exact Nat.le_refl _
  | succ k ih => unfold knN; split <;> omega
theorem knN_mono (d : List Int) {j k : Nat} (h : j ≤ k) : knN d j ≤ knN d k := by
  induction h with
  | refl => exact Nat.le_refl _
  | step _ ih => exact Nat.le_trans ih (by rw [knN]; omega)
def onesB (x : Int) : Nat := (if x / 2 ^ 0 % 2 = 1 then 1 else 0) + (if x / 2 ^ 1 % 2 = 1 then 1 else 0) + (if x / 2 ^ 2 % 2 = 1 then 1 else 0) + (if x / 2 ^ 3 % 2 = 1 then 1 else 0) + (if x / 2 ^ 4 % 2 = 1 then 1 else 0) + (if x / 2 ^ 5 % 2 = 1 then 1 else 0) + (if x / 2 ^ 6 % 2 = 1 then 1 else 0) + (if x / 2 ^ 7 % 2 = 1 then 1 else 0)
theorem pop8_ones (x : Int) (h0 : 0 ≤ x) (h1 : x ≤ 255) : Lib.pop8 x = (onesB x : Int) := by
  obtain ⟨n, rfl⟩ := Int.eq_ofNat_of_zero_le h0
  exact (by decide +kernel : ∀ i : Fin 256, Lib.pop8 ((i.val : Nat) : Int) = (onesB ((i.val : Nat) : Int) : Int)) ⟨n, by omega⟩
theorem onesB_le (x : Int) : onesB x ≤ 8 := by
  unfold onesB
  repeat' split
  all_goals omega
theorem knN_step (d : List Int) (i : Nat) : knN d (8 * (i + 1)) = knN d (8 * i) + onesB (d.getD i 0) := by
  have h (j : Nat) (hj : j < 8) : knB d (8 * i + j) = decide (d.getD i 0 / 2 ^ j % 2 = 1) := by
    unfold knB
    rw [show (8 * i + j) / 8 = i by omega, show (8 * i + j) % 8 = j by omega]
  have h0 := h 0 (by omega)
  rw [Nat.add_zero] at h0
  rw [show 8 * (i + 1) = 8 * i + 1 + 1 + 1 + 1 + 1 + 1 + 1 + 1 by omega]
  simp only [knN]
  rw [h0, h 1 (by omega), h 2 (by omega), h 3 (by omega), h 4 (by omega), h 5 (by omega), h 6 (by omega), h 7 (by omega)]
  simp only [decide_eq_true_eq]
  unfold onesB
  omega

section
variable {P : Program} {ops : Array Oper} {rest : List Oper} {op : Oper} {a : Act} {w : World} {Q : Exit → Act → World → Prop}
theorem wpList_index_pop8 (hgd : op.guard = none) (t : TypeId) (s : ByteArray) (x : Operand) (ho : op.op = .index t (.const (.string s)) x) (hs : s = Lib.pop8tab) (ht : P.underlying t = some .string) (k : IntKind) (i : Int) (hx : a.eval x = .int k i) (h0 : 0 ≤ i) (h1 : i ≤ 255)
    (h : wpList P ops Q rest (a.put op.dst (.int .u8 (Lib.pop8 i))) w) : wpList P ops Q (op :: rest) a w :=
  wpList_plain hgd fun K hK => by
    subst hs
    unfold Oper.wp execOp
    have hc : a.eval (.const (.string Lib.pop8tab)) = .string Lib.pop8tab := rfl
    simp only [ho, hx, hc, Sem.run_bind, Sem.run_pure, Result.andThen_ok, Lib.run_index_pop8tab w t k i ht h0 h1, Oper.upon_value]
    exact hK _ _ h
end
set_option maxHeartbeats 4000000 in
set_option maxRecDepth 100000 in
theorem ones_any (x : Int) (w : World) (h0 : 0 ≤ x) (h1 : x < 256) : Calls Tryd.prog 85 #[.int .u8 x] w fun e w' => e = .returned (.int .i64 (onesB x)) ∧ w' = w := by
  have h6 : wrap64 (Lib.pop8 x) = (onesB x : Int) := by
    rw [pop8_ones x h0 (by omega)]
    have := onesB_le x
    unfold wrap64
    omega
  go_enter Tryd.func85, Tryd.ntmps85
  go_wp2_with (refine wpList_index_pop8 rfl _ _ _ rfl (by kernel_rfl) Tryd.underlying9 .u8 x rfl (by omega) (by omega) ?_)
  go_ret
  exact ⟨by first | rfl | (rw [h6]; rfl) | (rw [← h6]; rfl), rfl⟩

set_option maxHeartbeats 4000000 in
set_option maxRecDepth 100000 in
theorem refkn_any (d : List Int) (k : Nat) (w : World) (hd : Dg d) (hk : k < 256) :
    Calls Tryd.prog 59 #[.agg (d.map (Value.int .u8)).toArray, .int .i64 k] w fun e w' => e = .returned (.bool (knB d k)) ∧ Below w.heap.size w w' := by
  have hxx := dg_at hd (k / 8)
  have hlen := hd.len
  have hxe : d[k / 8]? = some (d.getD (k / 8) 0) := by rw [List.getD_eq_getElem?_getD, List.getElem?_eq_getElem (by omega)]; rfl
  unfold knB
  generalize d.getD (k / 8) 0 = x at *
  have b1 := (Below.refl w.heap.size w).alloc (Nat.le_refl _) (.cells (d.map (Value.int .u8)).toArray 23 (0, 0))
  have Kd := hid (Blk.new (w := w) (n := w.heap.size) rfl (d.map (Value.int .u8)).toArray 23)
  have Hb := hid b1
  have hbz := b1.size
  have Hbs := hid (show w.heap.size + 1 = (w.alloc (.cells (d.map (Value.int .u8)).toArray 23 (0, 0))).heap.size by simp only [World.size_alloc])
  clear b1 
  go_enter Tryd.func59, Tryd.ntmps59
  go_wp2_with fail
  go_loopw [5, 6] (fun bv iv wr => ∃ j : Nat, j ≤ k % 8 ∧ iv = .int .i64 j ∧ bv = .int .u8 (x / 2 ^ j) ∧ Below w.heap.size w wr) (fun _ iv _ => 8 - (intOf iv).toNat)
  case atStart => exact ⟨0, Nat.zero_le _, rfl, by rw [Int.pow_zero, Int.ediv_one], Hb.out⟩
  case round =>
    obtain ⟨j, hj, rfl, rfl, bel⟩ := hrel
    have HBwr := hid bel
    clear bel
    have hj8 : j < 8 := by omega
    have hyy : 0 ≤ x / 2 ^ j ∧ x / 2 ^ j < 256 := ⟨Int.ediv_nonneg hxx.1 (Int.le_of_lt (Int.pow_pos (by omega))), Int.lt_of_le_of_lt (Int.ediv_le_self _ hxx.1) hxx.2⟩
    by_cases hlt : j < k % 8
    · skip
      have hc0 : (j : Int) < (k : Int) % 8 := by omega
      have HS := hid (show x / 2 ^ (j + 1) = x / 2 ^ j / 2 by rw [Int.pow_succ]; first | exact (Int.ediv_ediv_of_nonneg (Int.le_of_lt (Int.pow_pos (by omega)))).symm | (rw [Int.ediv_ediv_of_nonneg (Int.le_of_lt (Int.pow_pos (by omega)))]))
      generalize hY : x / 2 ^ j = y at *
      have HY := hid hY
      clear hY
      go_wp2_with fail
      exact ⟨⟨j + 1, by omega, by first | rfl | simp, by rw [HS.out], HBwr.out⟩, by simp [intOf]; omega⟩
    · skip
      have hk7 : j = k % 8 := by omega
      have hc0 : ¬ ((j : Int) < (k : Int) % 8) := by omega
      have HK := hid hk7
      rw [← hk7]
      clear hk7
      generalize hY : x / 2 ^ j = y at *
      have HY := hid hY
      clear hY
      go_wp2_with fail
      go_returns
      refine ⟨?_, HBwr.out⟩
      rw [← HK.out, HY.out]
      by_cases hz : y % 2 = 1
      · rw [hz]; rfl
      · rw [show ((y % 2 : Int) == 1) = false by simp [hz], decide_eq_false hz]; rfl
end Go.Proofs.YthaicocfbmpnmaaDoor
