/-
  Layer 19: climbing along a text's own way.
-/
import Derived.Test.YthaicocfbmpnmaaDoorLLogN
namespace Go.Proofs.YthaicocfbmpnmaaDoor
open Go.ChangeShapes Go.WideShapes Go.ChangeAt Go.RowKit

theorem takeZ_last (l : List (List Int)) (x : List Int) : takeZ (l ++ [x]) ((l.length : Int) + 1) = x := by
  rw [take_at]
  simp [List.getD]
theorem takeZ_front (l : List (List Int)) (x : List Int) (q : Int) (hq : q ≤ l.length) : takeZ (l ++ [x]) q = takeZ l q := by
  unfold takeZ
  split
  · rfl
  · simp only [List.getD]
    rw [List.getElem?_append_left (by omega)]

/-- Climbing looks at no digest behind those that are left. -/
theorem upZ_front (X : List Int) (l : List (List Int)) (x : List Int) (f : Nat) : ∀ (n i : Nat) (left : Int), left ≤ l.length → upZ f X n i (l ++ [x]) left = upZ f X n i l left := by
  induction f with
  | zero => intro n i left _; rfl
  | succ f ih =>
    intro n i left hl
    unfold Go.Proofs.YthaicocfbmpnmaaDoor.upZ
    rw [takeZ_front l x left hl]
    split
    · rfl
    · split
      · rw [ih _ _ _ (by omega)]
      · rename_i h1 h2
        rw [show ((i : Int) - (halfN n : Int)) = ((i - halfN n : Nat) : Int) by omega, ih _ _ _ (by omega)]

theorem upZ_path (f : Nat) : ∀ (ts : List (List Int)) (i : Nat), 1 ≤ ts.length → ts.length ≤ f → i < ts.length →
    upZ f (leafL (ts.getD i [])) ts.length i (pathL f ts i) (pathL f ts i).length = (rootL f ts, 0) := by
  induction f with
  | zero => intro ts i h1 h2; omega
  | succ f ih =>
    intro ts i h1 h2 h3
    rcases Nat.eq_or_lt_of_le h1 with he | hlt
    · obtain rfl : i = 0 := by omega
      rw [pathL, if_pos (by omega), upZ, if_pos (by omega), rootL, if_neg (by omega), if_pos (by omega)]
      rfl
    · obtain ⟨hk1, hk2⟩ := halfN_lt (n := ts.length) (by omega)
      rw [pathL, if_neg (by omega), rootL_many f (by omega), upZ, if_neg (by omega)]
      by_cases hik : i < halfN ts.length
      · rw [if_pos hik, if_pos (by omega)]
        have hlen : (ts.take (halfN ts.length)).length = halfN ts.length := by rw [List.length_take]; omega
        have h := ih (ts.take (halfN ts.length)) i (by omega) (by omega) (by omega)
        rw [hlen] at h
        have hg : (ts.take (halfN ts.length)).getD i [] = ts.getD i [] := by simp [List.getD, hik]
        rw [hg] at h
        rw [List.length_append, List.length_singleton, Int.natCast_add]
        show (nodeL (upZ f _ _ _ _ ((((pathL f (ts.take (halfN ts.length)) i).length : Int) + 1) - 1)).1 (takeZ _ (((pathL f (ts.take (halfN ts.length)) i).length : Int) + 1)), (upZ f _ _ _ _ ((((pathL f (ts.take (halfN ts.length)) i).length : Int) + 1) - 1)).2) = _
        rw [takeZ_last, Int.add_sub_cancel, upZ_front _ _ _ _ _ _ _ (Int.le_refl _), h]
      · rw [if_neg hik, if_neg (by omega)]
        have hlen : (ts.drop (halfN ts.length)).length = ts.length - halfN ts.length := by rw [List.length_drop]
        have h := ih (ts.drop (halfN ts.length)) (i - halfN ts.length) (by omega) (by omega) (by omega)
        rw [hlen] at h
        have hg : (ts.drop (halfN ts.length)).getD (i - halfN ts.length) [] = ts.getD i [] := by
          simp only [List.getD, List.getElem?_drop]
          rw [show halfN ts.length + (i - halfN ts.length) = i by omega]
        rw [hg] at h
        rw [show ((i : Int) - (halfN ts.length : Int)) = ((i - halfN ts.length : Nat) : Int) by omega]
        rw [List.length_append, List.length_singleton, Int.natCast_add]
        show (nodeL (takeZ _ (((pathL f (ts.drop (halfN ts.length)) (i - halfN ts.length)).length : Int) + 1)) (upZ f _ _ _ _ ((((pathL f (ts.drop (halfN ts.length)) (i - halfN ts.length)).length : Int) + 1) - 1)).1, (upZ f _ _ _ _ ((((pathL f (ts.drop (halfN ts.length)) (i - halfN ts.length)).length : Int) + 1) - 1)).2) = _
        rw [takeZ_last, Int.add_sub_cancel, upZ_front _ _ _ _ _ _ _ (Int.le_refl _), h]

theorem rootL_more (f : Nat) : ∀ (ts : List (List Int)), ts.length ≤ f → rootL (f + 1) ts = rootL f ts := by
  induction f with
  | zero =>
    intro ts h
    obtain rfl : ts = [] := List.eq_nil_of_length_eq_zero (by omega)
    rfl
  | succ f ih =>
    intro ts h
    by_cases h0 : ts.length = 0
    · rw [rootL, if_pos h0, rootL, if_pos h0]
    · by_cases h1 : ts.length = 1
      · rw [rootL, if_neg h0, if_pos h1, rootL, if_neg h0, if_pos h1]
      · obtain ⟨hk1, hk2⟩ := halfN_lt (n := ts.length) (by omega)
        rw [rootL_many (f + 1) (ts := ts) (by omega), rootL_many f (ts := ts) (by omega), ih _ (by rw [List.length_take]; omega), ih _ (by rw [List.length_drop]; omega)]

theorem halfN_mid {m n : Nat} (h2 : 2 ≤ n) (h : halfN n < m) (hm : m ≤ n) : halfN m = halfN n := by
  unfold halfN at *
  have hp : 1 ≤ 2 ^ Nat.log2 (n - 1) := Nat.one_le_two_pow
  have a : Nat.log2 (n - 1) ≤ Nat.log2 (m - 1) := (Nat.le_log2 (by omega)).2 (by omega)
  have b : Nat.log2 (m - 1) ≤ Nat.log2 (n - 1) := (Nat.le_log2 (by omega)).2 (Nat.le_trans (Nat.log2_self_le (by omega)) (by omega))
  rw [Nat.le_antisymm b a]

theorem groZ_front (A : List Int) (l : List (List Int)) (x : List Int) (f : Nat) : ∀ (m n : Nat) (cut : Bool) (left : Int), left ≤ l.length → groZ f A m n cut (l ++ [x]) left = groZ f A m n cut l left := by
  induction f with
  | zero => intro m n cut left _; rfl
  | succ f ih =>
    intro m n cut left hl
    unfold Go.Proofs.YthaicocfbmpnmaaDoor.groZ
    rw [takeZ_front l x left hl, ih _ _ _ _ (by omega), ih _ _ _ _ (by omega)]

theorem groZ_grow (A : List Int) (f : Nat) : ∀ (ts : List (List Int)) (m : Nat) (cut : Bool), 1 ≤ m → m ≤ ts.length → ts.length ≤ f → (cut = false → A = rootL f (ts.take m)) →
    groZ f A m ts.length cut (growL f ts m cut) (growL f ts m cut).length = ((rootL f (ts.take m), rootL f ts), 0) := by
  induction f with
  | zero => intro ts m cut h1 h2 h3; omega
  | succ f ih =>
    intro ts m cut h1 h2 h3 hA
    by_cases hm : m = ts.length
    · have ht : ts.take m = ts := by rw [hm, List.take_length]
      rw [growL, if_pos hm, groZ, if_pos hm, ht]
      cases cut with
      | true =>
        rw [if_pos rfl, if_pos rfl]
        have := takeZ_last [] (rootL (f + 1) ts)
        simp only [List.nil_append, List.length_nil] at this
        simp only [List.length_singleton]
        rw [show (((1 : Nat) : Int)) = ((0 : Nat) : Int) + 1 by rfl, this]
        rfl
      | false =>
        rw [ht] at hA
        rw [if_neg (by simp), if_neg (by simp), hA rfl]
        rfl
    · obtain ⟨hk1, hk2⟩ := halfN_lt (n := ts.length) (by omega)
      rw [growL, if_neg hm, groZ, if_neg hm, rootL_many f (ts := ts) (by omega)]
      by_cases hik : m ≤ halfN ts.length
      · rw [if_pos hik, if_pos hik]
        have hlen : (ts.take (halfN ts.length)).length = halfN ts.length := by rw [List.length_take]; omega
        have htt : (ts.take (halfN ts.length)).take m = ts.take m := by rw [List.take_take, Nat.min_eq_left hik]
        have hmore := rootL_more f (ts.take m) (by rw [List.length_take]; omega)
        have h := ih (ts.take (halfN ts.length)) m cut h1 (by omega) (by omega) (fun hc => by rw [htt, ← hmore]; exact hA hc)
        rw [hlen, htt] at h
        rw [List.length_append, List.length_singleton, Int.natCast_add, hmore]
        generalize growL f (ts.take (halfN ts.length)) m cut = G at *
        show (((groZ f A m (halfN ts.length) cut _ (((G.length : Int) + 1) - 1)).1.1, nodeL (groZ f A m (halfN ts.length) cut _ (((G.length : Int) + 1) - 1)).1.2 (takeZ _ ((G.length : Int) + 1))), (groZ f A m (halfN ts.length) cut _ (((G.length : Int) + 1) - 1)).2) = _
        rw [takeZ_last, Int.add_sub_cancel, groZ_front _ _ _ _ _ _ _ _ (Int.le_refl _), h]
      · rw [if_neg hik, if_neg hik]
        have hlen : (ts.drop (halfN ts.length)).length = ts.length - halfN ts.length := by rw [List.length_drop]
        have hlm : (ts.take m).length = m := by rw [List.length_take]; omega
        have hmid := halfN_mid (m := m) (n := ts.length) (by omega) (by omega) h2
        have h := ih (ts.drop (halfN ts.length)) (m - halfN ts.length) true (by omega) (by omega) (by omega) (fun hc => by cases hc)
        rw [hlen] at h
        rw [rootL_many f (ts := ts.take m) (by omega), hlm, hmid, List.take_take, Nat.min_eq_left (by omega), List.drop_take]
        rw [List.length_append, List.length_singleton, Int.natCast_add]
        generalize growL f (ts.drop (halfN ts.length)) (m - halfN ts.length) true = G at *
        show ((nodeL (takeZ _ ((G.length : Int) + 1)) (groZ f A (m - halfN ts.length) (ts.length - halfN ts.length) true _ (((G.length : Int) + 1) - 1)).1.1, nodeL (takeZ _ ((G.length : Int) + 1)) (groZ f A (m - halfN ts.length) (ts.length - halfN ts.length) true _ (((G.length : Int) + 1) - 1)).1.2), (groZ f A (m - halfN ts.length) (ts.length - halfN ts.length) true _ (((G.length : Int) + 1) - 1)).2) = _
        rw [takeZ_last, Int.add_sub_cancel, groZ_front _ _ _ _ _ _ _ _ (Int.le_refl _), h]
end Go.Proofs.YthaicocfbmpnmaaDoor
