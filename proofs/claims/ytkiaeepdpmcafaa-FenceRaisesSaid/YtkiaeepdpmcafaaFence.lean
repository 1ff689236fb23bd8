/-
  Contracts of package fence, and of its reference: what each call answers, and that it changes no memory that was there.
-/
import Derived.Test.YtkiaeepdpmcafaaBase
namespace Go.Proofs.Ytkiaeepdpmcafaa
open Go.ChangeShapes Go.WideShapes Go.ChangeAt Go.RowKit
theorem least_gt (g k h g' k' h' : Int) (w : World) (hk : k' < k) :
    Calls Try.prog 20 #[.agg #[.int .i64 g, .int .i64 k, .int .i64 h], .agg #[.int .i64 g', .int .i64 k', .int .i64 h']] w fun e w' => e = .returned (.agg #[.int .i64 (max g g'), .int .i64 k, .int .i64 h]) ∧ Below w.heap.size w w' := by
  go_enter Try.func20, Try.ntmps20
  go_wp2
  all_goals
    go_returns
    refine ⟨?_, by go_grown⟩
    congr; omega

theorem least_lt (g k h g' k' h' : Int) (w : World) (hk : k < k') :
    Calls Try.prog 20 #[.agg #[.int .i64 g, .int .i64 k, .int .i64 h], .agg #[.int .i64 g', .int .i64 k', .int .i64 h']] w fun e w' => e = .returned (.agg #[.int .i64 (max g g'), .int .i64 k', .int .i64 h']) ∧ Below w.heap.size w w' := by
  have hk' : ¬ k' < k := by omega
  go_enter Try.func20, Try.ntmps20
  go_wp2
  all_goals
    go_returns
    refine ⟨?_, by go_grown⟩
    congr; omega

theorem least_eq (g k h g' h' : Int) (w : World) :
    Calls Try.prog 20 #[.agg #[.int .i64 g, .int .i64 k, .int .i64 h], .agg #[.int .i64 g', .int .i64 k, .int .i64 h']] w fun e w' => e = .returned (.agg #[.int .i64 (max g g'), .int .i64 k, .int .i64 (max h h')]) ∧ Below w.heap.size w w' := by
  go_enter Try.func20, Try.ntmps20
  go_wp2
  all_goals
    go_returns
    refine ⟨?_, by go_grown⟩
    congr <;> omega

theorem as_any (g k h : Int) (w : World) :
    Calls Try.prog 19 #[.agg #[.int .i64 g, .int .i64 k, .int .i64 h]] w fun e w' => e = .returned (.agg #[.int .i64 g, .int .i64 k, .int .i64 h]) ∧ Below w.heap.size w w' := by
  go_enter Try.func19, Try.ntmps19
  go_wp2
  go_returns
  exact ⟨rfl, by go_grown⟩

def highB (g k h g' k' h' : Int) : Bool := decide (g' ≤ g) && (decide (k' < k) || (k == k' && decide (h' ≤ h)))

theorem high_any (g k h g' k' h' : Int) (w : World) :
    Calls Try.prog 24 #[.agg #[.int .i64 g, .int .i64 k, .int .i64 h], .agg #[.int .i64 g', .int .i64 k', .int .i64 h']] w fun e w' => e = .returned (.bool (highB g k h g' k' h')) ∧ Below w.heap.size w w' := by
  by_cases h1 : g' ≤ g
  · by_cases h2 : k' < k
    · go_enter Try.func24, Try.ntmps24
      go_wp2
      go_returns
      exact ⟨by simp [highB, h1, h2], by go_grown⟩
    · by_cases h3 : k = k'
      · subst h3
        by_cases h4 : h' ≤ h
        · go_enter Try.func24, Try.ntmps24
          go_wp2
          go_returns
          exact ⟨by simp [highB, h1, h4], by go_grown⟩
        · go_enter Try.func24, Try.ntmps24
          go_wp2
          go_returns
          exact ⟨by simp [highB, h4], by go_grown⟩
      · go_enter Try.func24, Try.ntmps24
        go_wp2
        go_returns
        exact ⟨by simp [highB, h2, h3], by go_grown⟩
  · go_enter Try.func24, Try.ntmps24
    go_wp2
    go_returns
    exact ⟨by simp [highB]; omega, by go_grown⟩

/-- plain -/
def lk (k h k' h' : Int) : Int × Int := if k' < k then (k, h) else if k < k' then (k', h') else (k, max h h')
theorem least_any (g k h g' k' h' : Int) (w : World) :
    Calls Try.prog 20 #[.agg #[.int .i64 g, .int .i64 k, .int .i64 h], .agg #[.int .i64 g', .int .i64 k', .int .i64 h']] w fun e w' => e = .returned (.agg #[.int .i64 (max g g'), .int .i64 (lk k h k' h').1, .int .i64 (lk k h k' h').2]) ∧ Below w.heap.size w w' := by
  by_cases h1 : k' < k
  · simpa [lk, h1] using least_gt g k h g' k' h' w h1
  · by_cases h2 : k < k'
    · simpa [lk, h1, h2] using least_lt g k h g' k' h' w h2
    · obtain rfl : k = k' := by omega
      simpa [lk] using least_eq g k h g' h' w


end Go.Proofs.Ytkiaeepdpmcafaa
