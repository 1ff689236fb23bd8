/-
  The reference for the least marks.
-/
import Derived.Test.YtkiaeepdpmcafaaFenceMore
import Derived.Test.YtkiaeepdpmcafaaPhases

namespace Go.Proofs.Ytkiaeepdpmcafaa
open Go.ChangeShapes Go.WideShapes Go.ChangeAt Go.RowKit

set_option maxHeartbeats 2000000 in
theorem refleast_any (g k h g' k' h' : Int) (w : World) :
    Calls Try.prog 22 #[.agg #[.int .i64 g, .int .i64 k, .int .i64 h], .agg #[.int .i64 g', .int .i64 k', .int .i64 h']] w fun e w' => e = .returned (.agg #[.int .i64 (max g g'), .int .i64 (lk k h k' h').1, .int .i64 (lk k h k' h').2]) ∧ Below w.heap.size w w' := by
  have hg : (max g g' = g' ∧ g < g') ∨ (max g g' = g ∧ ¬ g < g') := by omega
  have hk : (lk k h k' h' = (k', h') ∧ ((k < k') ∨ (¬ k < k' ∧ (k' == k) = true ∧ h < h'))) ∨ (lk k h k' h' = (k, h) ∧ ¬ k < k' ∧ ((k' == k) = false ∨ ((k' == k) = true ∧ ¬ h < h'))) := by
    simp only [lk, beq_iff_eq, beq_eq_false_iff_ne]
    by_cases h1 : k < k'
    · left; simp [h1]; omega
    · by_cases h2 : k' = k
      · subst h2
        by_cases h3 : h < h'
        · left; simp [h3]; omega
        · right; simp [h3]; omega
      · right
        have h4 : k' < k := by omega
        simp [h4, h2, h1]
  rcases hg with ⟨hg, h1⟩ | ⟨hg, h1⟩ <;> rcases hk with ⟨hk, h2 | ⟨h2, h3, h4⟩⟩ | ⟨hk, h2, h3 | ⟨h3, h4⟩⟩ <;> rw [hg, hk] <;> clear hg hk
  all_goals
    go_enter Try.func22, Try.ntmps22
    go_wp2
    go_returns
    exact ⟨rfl, by go_grown⟩
end Go.Proofs.Ytkiaeepdpmcafaa
