/-
  Layer 18: siblings gives a function over the proof's block.
-/
import Derived.Test.YthaicocfbmpnmaaDoorPrX
import Derived.Test.YthaicocfbmpnmaaDoorPrE
namespace Go.Proofs.YthaicocfbmpnmaaDoor
open Go.ChangeShapes Go.WideShapes Go.ChangeAt Go.RowKit


set_option maxHeartbeats 4000000 in
set_option maxRecDepth 100000 in
theorem siblings_any (d : List Int) (ad : Option Addr) (len cap : Nat) (w : World) :
    Calls Tryd.prog 58 #[.agg (prC d (.slice ad len cap)).toArray] w fun e w' => e = .returned (.func (.func 86) #[] #[.pointer (some ⟨w.heap.size, 0, none⟩)]) ∧ Below w.heap.size w w' ∧ Blk w' w.heap.size (prC d (.slice ad len cap)).toArray 46 := by
  have b1 := (Below.refl w.heap.size w).alloc (Nat.le_refl _) (.cells (prC d (.slice ad len cap)).toArray 46 (0, 0))
  have Kp := hid (Blk.new (w := w) (n := w.heap.size) rfl (prC d (.slice ad len cap)).toArray 46)
  have Hb := hid b1
  have hbz := b1.size
  have Hbs := hid (show w.heap.size + 1 = (w.alloc (.cells (prC d (.slice ad len cap)).toArray 46 (0, 0))).heap.size by simp only [World.size_alloc])
  clear b1 
  go_enter Tryd.func58, Tryd.ntmps58
  go_wp2_with fail
  go_returns
  exact ⟨rfl, Hb.out, Kp.out⟩

theorem zD_get (j : Nat) : zD.getD j 0 = 0 := by
  rw [List.getD_eq_getElem?_getD]
  unfold zD
  rw [List.getElem?_replicate]
  split <;> rfl
theorem knB_zero (k : Nat) : knB zD k = false := by
  unfold knB
  rw [zD_get, Int.zero_ediv]
  rfl
theorem knN_zero (k : Nat) : knN zD k = 0 := by
  induction k with
  | zero => rfl
  | succ k ih => rw [knN, ih, knB_zero]; rfl
/-- Where one comes to from nothing by a proof of which nothing is known. -/
theorem climb_zero (i : List Int) (ns : List (List Int)) (k : Nat) : climbK zD i ns (emptyL 0) k = emptyL k := by
  induction k with
  | zero => rfl
  | succ k ih =>
    rw [climbK, ih, sibL, knB_zero, if_neg (by simp), stepL, show emptyL (k + 1) = nodeL (emptyL k) (emptyL k) from rfl]
    split <;> rfl
end Go.Proofs.YthaicocfbmpnmaaDoor
