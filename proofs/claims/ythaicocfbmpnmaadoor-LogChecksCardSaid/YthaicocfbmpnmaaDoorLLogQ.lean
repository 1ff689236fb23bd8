/-
  Layer 19: climbing from a beginning: the reference's way and the program's are one.
-/
import Derived.Test.YthaicocfbmpnmaaDoorLLogO
namespace Go.Proofs.YthaicocfbmpnmaaDoor
open Go.ChangeShapes Go.WideShapes Go.ChangeAt Go.RowKit

/-- Climbing from a beginning, as the reference does it: with the digests that are left. -/
def bothR : Nat → List Int → Nat → Nat → Bool → List (List Int) → (List Int × List Int) × Bool
  | 0, A, _, _, _, _ => ((A, A), false)
  | f + 1, A, m, n, cut, ds => if m = n then (if cut then (if ds.length = 1 then ((ds.getD 0 [], ds.getD 0 []), true) else ((A, A), false)) else ((A, A), decide (ds.length = 0)))
    else if ds.length = 0 then ((A, A), false)
    else if m ≤ halfN n then (((bothR f A m (halfN n) cut (ds.take (ds.length - 1))).1.1, nodeL (bothR f A m (halfN n) cut (ds.take (ds.length - 1))).1.2 (ds.getD (ds.length - 1) [])), (bothR f A m (halfN n) cut (ds.take (ds.length - 1))).2)
    else ((nodeL (ds.getD (ds.length - 1) []) (bothR f A (m - halfN n) (n - halfN n) true (ds.take (ds.length - 1))).1.1, nodeL (ds.getD (ds.length - 1) []) (bothR f A (m - halfN n) (n - halfN n) true (ds.take (ds.length - 1))).1.2), (bothR f A (m - halfN n) (n - halfN n) true (ds.take (ds.length - 1))).2)

theorem Dg.bothR {A : List Int} (hA : Dg A) (f : Nat) : ∀ (m n : Nat) (cut : Bool) (ds : List (List Int)), (∀ d ∈ ds, Dg d) → Dg (bothR f A m n cut ds).1.1 ∧ Dg (bothR f A m n cut ds).1.2 := by
  induction f with
  | zero => intro m n cut ds _; exact ⟨hA, hA⟩
  | succ f ih =>
    intro m n cut ds hd
    unfold Go.Proofs.YthaicocfbmpnmaaDoor.bothR
    split
    · split
      · split
        · rename_i h
          have : Dg (ds.getD 0 []) := by
            rw [List.getD_eq_getElem?_getD, List.getElem?_eq_getElem (by omega)]
            exact hd _ (List.getElem_mem _)
          exact ⟨this, this⟩
        · exact ⟨hA, hA⟩
      · exact ⟨hA, hA⟩
    · split
      · exact ⟨hA, hA⟩
      · split
        · exact ⟨(ih _ _ _ _ (fun d hm => hd d (List.mem_of_mem_take hm))).1, Dg.nodeL _ _⟩
        · exact ⟨Dg.nodeL _ _, Dg.nodeL _ _⟩

theorem groZ_le (A : List Int) (f : Nat) : ∀ (m n : Nat) (cut : Bool) (ds : List (List Int)) (left : Int), (groZ f A m n cut ds left).2 ≤ left := by
  induction f with
  | zero => intro m n cut ds left; exact Int.le_refl _
  | succ f ih =>
    intro m n cut ds left
    unfold Go.Proofs.YthaicocfbmpnmaaDoor.groZ
    split
    · split
      · simp only; omega
      · exact Int.le_refl _
    · split
      · have := ih m (halfN n) cut ds (left - 1); simp only; omega
      · have := ih (m - halfN n) (n - halfN n) true ds (left - 1); simp only; omega

theorem bothR_groZ (A : List Int) (f : Nat) : ∀ (m n : Nat) (cut : Bool) (ds : List (List Int)) (left : Nat), left ≤ ds.length → 1 ≤ m → m ≤ n → n ≤ f →
    (bothR f A m n cut (ds.take left)).2 = decide ((groZ f A m n cut ds left).2 = 0) ∧ ((bothR f A m n cut (ds.take left)).2 = true → (bothR f A m n cut (ds.take left)).1 = (groZ f A m n cut ds left).1) := by
  induction f with
  | zero => intro m n cut ds left _ h1 h2 h3; omega
  | succ f ih =>
    intro m n cut ds left hl h1 h2 h3
    have hlen : (ds.take left).length = left := by rw [List.length_take]; omega
    by_cases hm : m = n
    · rw [bothR, groZ, if_pos hm, if_pos hm, hlen]
      cases cut with
      | false =>
        rw [if_neg (by simp), if_neg (by simp)]
        refine ⟨?_, fun _ => rfl⟩
        simp only [decide_eq_decide]
        omega
      | true =>
        rw [if_pos rfl, if_pos rfl]
        by_cases hl1 : left = 1
        · subst hl1
          rw [if_pos rfl]
          have ht := take_at ds 0
          rw [show (((0 : Nat) : Int) + 1) = ((1 : Nat) : Int) by rfl] at ht
          refine ⟨?_, fun _ => ?_⟩
          · symm
            rw [decide_eq_true_iff]
            simp only; omega
          · simp only
            rw [ht, getD_take ds 0]
        · rw [if_neg hl1]
          refine ⟨?_, fun h => by cases h⟩
          symm
          rw [decide_eq_false_iff_not]
          simp only; omega
    · obtain ⟨hk1, hk2⟩ := halfN_lt (n := n) (by omega)
      rw [bothR, groZ, if_neg hm, if_neg hm, hlen]
      cases left with
      | zero =>
        rw [if_pos rfl]
        refine ⟨?_, fun h => by cases h⟩
        symm
        rw [decide_eq_false_iff_not]
        split
        · have := groZ_le A f m (halfN n) cut ds ((0 : Nat) - 1); simp only; omega
        · have := groZ_le A f (m - halfN n) (n - halfN n) true ds ((0 : Nat) - 1); simp only; omega
      | succ q =>
        rw [if_neg (show ¬ q + 1 = 0 by omega), show q + 1 - 1 = q by omega, List.take_take, show min q (q + 1) = q by omega, getD_take]
        rw [show (((q + 1 : Nat) : Int)) = (q : Int) + 1 by omega, take_at, show (q : Int) + 1 - 1 = (q : Int) by omega]
        by_cases hik : m ≤ halfN n
        · have h := ih m (halfN n) cut ds q (by omega) h1 hik (by omega)
          rw [if_pos hik, if_pos hik]
          exact ⟨h.1, fun hh => by simp only; rw [h.2 hh]⟩
        · have h := ih (m - halfN n) (n - halfN n) true ds q (by omega) (by omega) (by omega) (by omega)
          rw [if_neg hik, if_neg hik]
          exact ⟨h.1, fun hh => by simp only; rw [h.2 hh]⟩

theorem grows_same (A B : List Int) (m n : Nat) (ds : List (List Int)) (k : Nat) (h1 : 1 ≤ m) (h2 : m ≤ n) (hk : ds.length = k) :
    ((bothR n A m n false ds).2 && decide ((bothR n A m n false ds).1.1 = A) && decide ((bothR n A m n false ds).1.2 = B)) = (decide ((groZ n A m n false ds k).2 = 0) && decide ((groZ n A m n false ds k).1.1 = A) && decide ((groZ n A m n false ds k).1.2 = B)) := by
  subst hk
  have h := bothR_groZ A n m n false ds ds.length (Nat.le_refl _) h1 h2 (Nat.le_refl _)
  rw [List.take_length] at h
  rw [← h.1]
  cases hb : (bothR n A m n false ds).2 with
  | false => rfl
  | true => rw [h.2 hb]
end Go.Proofs.YthaicocfbmpnmaaDoor
