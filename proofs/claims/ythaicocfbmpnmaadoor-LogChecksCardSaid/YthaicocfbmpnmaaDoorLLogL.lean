/-
  Layer 19: the program's climbing and the reference's are one.
-/
import Derived.Test.YthaicocfbmpnmaaDoorLLogK
namespace Go.Proofs.YthaicocfbmpnmaaDoor
open Go.ChangeShapes Go.WideShapes Go.ChangeAt Go.RowKit

theorem upZ_le (X : List Int) (f : Nat) : ∀ (n i : Nat) (ds : List (List Int)) (left : Int), (upZ f X n i ds left).2 ≤ left := by
  induction f with
  | zero => intro n i ds left; exact Int.le_refl _
  | succ f ih =>
    intro n i ds left
    unfold Go.Proofs.YthaicocfbmpnmaaDoor.upZ
    split
    · exact Int.le_refl _
    · split
      · have := ih (halfN n) i ds (left - 1); simp only; omega
      · rename_i h1 h2
        have := ih (n - halfN n) (i - halfN n) ds (left - 1)
        rw [show ((i : Int) - (halfN n : Int)) = ((i - halfN n : Nat) : Int) by omega]
        simp only; omega

theorem take_at (ds : List (List Int)) (q : Nat) : takeZ ds ((q : Int) + 1) = ds.getD q [] := by
  unfold takeZ
  rw [if_neg (by omega), show ((q : Int) + 1 - 1).toNat = q by omega]

theorem getD_take (ds : List (List Int)) (q : Nat) : (ds.take (q + 1)).getD q [] = ds.getD q [] := by
  simp [List.getD]

theorem upR_upZ (X : List Int) (f : Nat) : ∀ (n i : Nat) (ds : List (List Int)) (left : Nat), left ≤ ds.length → 1 ≤ n → n ≤ f → i < n →
    (upR f X n i (ds.take left)).2 = decide ((upZ f X n i ds left).2 = 0) ∧ ((upR f X n i (ds.take left)).2 = true → (upR f X n i (ds.take left)).1 = (upZ f X n i ds left).1) := by
  induction f with
  | zero => intro n i ds left _ h1 h2; omega
  | succ f ih =>
    intro n i ds left hl h1 h2 h3
    have hlen : (ds.take left).length = left := by rw [List.length_take]; omega
    rcases Nat.eq_or_lt_of_le h1 with rfl | hlt
    · rw [upR, upZ, if_pos rfl, if_pos rfl, hlen]
      refine ⟨?_, fun _ => rfl⟩
      simp only [decide_eq_decide]
      omega
    · obtain ⟨hk1, hk2⟩ := halfN_lt (n := n) hlt
      rw [upR, upZ, if_neg (show ¬ n = 1 by omega), if_neg (show ¬ n = 1 by omega), hlen]
      cases left with
      | zero =>
        rw [if_pos rfl]
        refine ⟨?_, fun h => by cases h⟩
        symm
        rw [decide_eq_false_iff_not]
        split
        · have := upZ_le X f (halfN n) i ds ((0 : Nat) - 1); simp only; omega
        · have := upZ_le X f (n - halfN n) (i - halfN n) ds ((0 : Nat) - 1)
          rw [show ((i : Int) - (halfN n : Int)) = ((i - halfN n : Nat) : Int) by omega]
          simp only; omega
      | succ q =>
        rw [if_neg (show ¬ q + 1 = 0 by omega), show q + 1 - 1 = q by omega, List.take_take, show min q (q + 1) = q by omega, getD_take]
        rw [show (((q + 1 : Nat) : Int)) = (q : Int) + 1 by omega, take_at, show (q : Int) + 1 - 1 = (q : Int) by omega]
        by_cases hik : i < halfN n
        · have h := ih (halfN n) i ds q (by omega) hk1 (by omega) hik
          rw [if_pos hik, if_pos (by omega)]
          exact ⟨h.1, fun hh => by simp only; rw [h.2 hh]⟩
        · have h := ih (n - halfN n) (i - halfN n) ds q (by omega) (by omega) (by omega) (by omega)
          rw [if_neg hik, if_neg (by omega), show ((i : Int) - (halfN n : Int)) = ((i - halfN n : Nat) : Int) by omega]
          exact ⟨h.1, fun hh => by simp only; rw [h.2 hh]⟩

theorem holds_same (X root : List Int) (n i : Nat) (ds : List (List Int)) (k : Nat) (h1 : 1 ≤ n) (h2 : i < n) (hk : ds.length = k) :
    ((upR n X n i ds).2 && decide ((upR n X n i ds).1 = root)) = (decide ((upZ n X n i ds k).2 = 0) && decide ((upZ n X n i ds k).1 = root)) := by
  subst hk
  have h := upR_upZ X n n i ds ds.length (Nat.le_refl _) h1 (Nat.le_refl _) h2
  rw [List.take_length] at h
  rw [← h.1]
  cases hb : (upR n X n i ds).2 with
  | false => rfl
  | true => rw [h.2 hb]
end Go.Proofs.YthaicocfbmpnmaaDoor
