/-
  Digits, DigitsRef: one text.
-/
import Derived.Test.YthaicocfbmpnmaaDoorLMBase
namespace Go.Proofs.YthaicocfbmpnmaaDoor
open Go.ChangeShapes Go.WideShapes Go.ChangeAt Go.RowKit

set_option maxRecDepth 100000 in
theorem sizeDg : (Tryd.prog.info? 23).map (·.size) = some 32 := by kernel_rfl

/-- the digits of the bytes -/
def dig (ds : List Int) : List Int := ds.flatMap fun x => [x / 16, x % 16]
def rowOf (ds : List Int) (k : Nat) : List Int := dig (ds.take k) ++ List.replicate (67 - 2 * k) 0

set_option maxRecDepth 100000 in
theorem dig_length (ds : List Int) : (dig ds).length = 2 * ds.length := by
  induction ds with
  | nil => rfl
  | cons x ds ih => simp only [dig, List.flatMap_cons, List.length_append, List.length_cons, List.length_nil] at *; omega
set_option maxRecDepth 100000 in
theorem rowOf_length (ds : List Int) (hl : ds.length = 32) (k : Nat) (hk : k ≤ 32) : (rowOf ds k).length = 67 := by
  simp [rowOf, dig_length]; omega

set_option maxRecDepth 100000 in
theorem dig_append (a b : List Int) : dig (a ++ b) = dig a ++ dig b := by simp [dig]
set_option maxRecDepth 100000 in
theorem set_two (l : List Int) (m : Nat) (a b : Int) (n : Nat) (hn : l.length = n) : ((l ++ List.replicate (m + 2) 0).set n a).set (n + 1) b = l ++ [a, b] ++ List.replicate m 0 := by
  subst hn
  rw [List.replicate_succ, List.replicate_succ, List.set_append_right _ _ (by omega), List.set_append_right _ _ (by omega)]
  simp
set_option maxRecDepth 100000 in
theorem rowOf_step (ds : List Int) (hl : ds.length = 32) (k : Nat) (hk : k < 32) : (((rowOf ds k).set (2 * k) (ds.getD k 0 / 16)).set (2 * k + 1) (ds.getD k 0 % 16)) = rowOf ds (k + 1) := by
  have h1 : (dig (ds.take k)).length = 2 * k := by rw [dig_length]; simp; omega
  have h2 : ds.take (k + 1) = ds.take k ++ [ds.getD k 0] := by
    rw [List.take_succ_eq_append_getElem (by omega)]
    simp [show k < ds.length by omega]
  unfold rowOf
  rw [h2, dig_append, show 67 - 2 * k = (67 - 2 * (k + 1)) + 2 by omega, set_two _ _ _ _ _ h1]
  simp [dig]
set_option maxRecDepth 100000 in
theorem rowOf_zero (ds : List Int) (hl : ds.length = 32) (k j : Nat) (h1 : 2 * k ≤ j) (h2 : j < 67) (hk : k ≤ 32) : (rowOf ds k)[j]? = some 0 := by
  have h3 : (dig (ds.take k)).length = 2 * k := by rw [dig_length]; simp; omega
  unfold rowOf
  rw [List.getElem?_append_right (by omega), h3, List.getElem?_replicate, if_pos (by omega)]
def lacks (zs : List Int) : Int := zs.foldl (fun s x => wrap64 (s + wrap64 (15 - x))) 0
set_option maxRecDepth 100000 in
theorem lacks_snoc (zs : List Int) (x : Int) : lacks (zs ++ [x]) = wrap64 (lacks zs + wrap64 (15 - x)) := by simp [lacks]

set_option maxRecDepth 100000 in
theorem take_snoc (zs : List Int) (k : Nat) (h : k < zs.length) : zs.take (k + 1) = zs.take k ++ [zs.getD k 0] := by
  rw [List.take_succ_eq_append_getElem h]; simp [h]

/-- what numbers from 0 to 15 lack, without a wrap -/
def short (zs : List Int) : Int := (zs.map (15 - ·)).sum
set_option maxRecDepth 100000 in
theorem short_bounds (zs : List Int) (h : ∀ x ∈ zs, 0 ≤ x ∧ x ≤ 15) : 0 ≤ short zs ∧ short zs ≤ 15 * zs.length := by
  induction zs with
  | nil => simp [short]
  | cons x zs ih =>
    have h1 := h x (by simp)
    have h2 := ih (fun y hy => h y (by simp [hy]))
    simp only [short, List.map_cons, List.sum_cons, List.length_cons] at *
    omega
set_option maxRecDepth 100000 in
theorem short_append (a b : List Int) : short (a ++ b) = short a + short b := by simp [short]
set_option maxRecDepth 100000 in
theorem lacks_short (zs : List Int) (hl : zs.length ≤ 1000) (h : ∀ x ∈ zs, 0 ≤ x ∧ x ≤ 15) : lacks zs = short zs := by
  have key : ∀ k, k ≤ zs.length → lacks (zs.take k) = short (zs.take k) := by
    intro k
    induction k with
    | zero => intro _; simp [lacks, short]
    | succ k ih =>
      intro hk
      have hb := short_bounds (zs.take k) (fun x hx => h x (List.mem_of_mem_take hx))
      have hx := h zs[k] (List.getElem_mem _)
      rw [take_snoc zs k (by omega), lacks_snoc, ih (by omega), short_append]
      have hg : zs.getD k 0 = zs[k] := by simp [show k < zs.length by omega]
      have hlen : (zs.take k).length ≤ 1000 := by simp; omega
      rw [hg]
      simp only [short, List.map_cons, List.map_nil, List.sum_cons, List.sum_nil] at *
      unfold wrap64
      omega
  have := key zs.length (Nat.le_refl _)
  simpa using this
set_option maxRecDepth 100000 in
theorem dig_small (ds : List Int) (hb : ∀ x ∈ ds, 0 ≤ x ∧ x < 256) : ∀ x ∈ dig ds, 0 ≤ x ∧ x ≤ 15 := by
  intro x hx
  simp only [dig, List.mem_flatMap, List.mem_cons, List.not_mem_nil, or_false] at hx
  obtain ⟨y, hy, h⟩ := hx
  have := hb y hy
  rcases h with rfl | rfl <;> omega
/-- the digits of a digest -/
def digits (ds : List Int) : List Int := dig ds ++ [short (dig ds) / 16 / 16 % 16, short (dig ds) / 16 % 16, short (dig ds) % 16]
set_option maxRecDepth 100000 in
theorem digits_length (ds : List Int) (hl : ds.length = 32) : (digits ds).length = 67 := by simp [digits, dig_length, hl]
set_option maxRecDepth 100000 in
theorem row_full (ds : List Int) (hl : ds.length = 32) : rowOf ds 32 = dig ds ++ [0, 0, 0] := by
  unfold rowOf
  rw [List.take_of_length_le (by omega)]
  rfl
set_option maxRecDepth 100000 in
theorem set_three (ds : List Int) (hl : ds.length = 32) (a b c : Int) : (((rowOf ds 32).set 66 a).set 65 b).set 64 c = dig ds ++ [c, b, a] := by
  have h1 : (dig ds).length = 64 := by rw [dig_length, hl]
  rw [row_full ds hl, List.set_append_right _ _ (by omega), List.set_append_right _ _ (by omega), List.set_append_right _ _ (by omega), h1]
  simp

end Go.Proofs.YthaicocfbmpnmaaDoor

namespace Go.Proofs.YthaicocfbmpnmaaDoor
open Go.ChangeShapes Go.WideShapes Go.ChangeAt Go.RowKit
set_option maxRecDepth 100000 in
theorem infoInt : (Tryd.prog.info? 3).map (fun i => (i.zero, i.size, i.bytes)) = some (some (.int .i64 0), 1, 8) := by kernel_rfl

set_option maxRecDepth 100000 in
theorem dig_take (ds : List Int) (k : Nat) (h : k < ds.length) : dig (ds.take (k + 1)) = dig (ds.take k) ++ [ds.getD k 0 / 16, ds.getD k 0 % 16] := by
  rw [take_snoc ds k h, dig_append]; simp [dig]
set_option maxRecDepth 100000 in
theorem short_take (ds : List Int) (k : Nat) (h : k < ds.length) : short (dig (ds.take (k + 1))) = short (dig (ds.take k)) + 30 - ds.getD k 0 / 16 - ds.getD k 0 % 16 := by
  rw [dig_take ds k h, short_append]; simp [short]; omega

end Go.Proofs.YthaicocfbmpnmaaDoor
