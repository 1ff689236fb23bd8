/-
  Contracts of package adrs: the addresses that its calls answer; they change no memory that was there.
-/
import Derived.Test.YtkiaeepdpmcafaaBase
namespace Go.Proofs.Ytkiaeepdpmcafaa
open Go.ChangeShapes Go.WideShapes Go.ChangeAt Go.RowKit

theorem made_any (kd la tr le : Int) (w : World) (h0 : 0 ≤ tr) (h1 : tr < 18446744073709551616) :
    Calls Try.prog 48 #[.int .u32 kd, .int .u32 la, .int .u64 tr, .int .u32 le] w fun e w' => e = .returned (.agg #[.int .u32 la, .int .u32 (tr / 4294967296), .int .u32 (tr % 4294967296), .int .u32 kd, .int .u32 le, .int .u32 0, .int .u32 0, .int .u32 0]) ∧ Below w.heap.size w w' := by
  go_enter Try.func48, Try.ntmps48
  go_wp2
  go_returns
  exact ⟨rfl, by go_grown⟩
theorem ots_any (la tr le : Int) (w : World) (h0 : 0 ≤ tr) (h1 : tr < 18446744073709551616) :
    Calls Try.prog 25 #[.int .u32 la, .int .u64 tr, .int .u32 le] w fun e w' => e = .returned (.agg #[.int .u32 la, .int .u32 (tr / 4294967296), .int .u32 (tr % 4294967296), .int .u32 0, .int .u32 le, .int .u32 0, .int .u32 0, .int .u32 0]) ∧ Below w.heap.size w w' := by
  go_enter Try.func25, Try.ntmps25
  go_wp2
  go_returns
  exact ⟨rfl, by go_grown⟩
theorem ltree_any (la tr le : Int) (w : World) (h0 : 0 ≤ tr) (h1 : tr < 18446744073709551616) :
    Calls Try.prog 27 #[.int .u32 la, .int .u64 tr, .int .u32 le] w fun e w' => e = .returned (.agg #[.int .u32 la, .int .u32 (tr / 4294967296), .int .u32 (tr % 4294967296), .int .u32 1, .int .u32 le, .int .u32 0, .int .u32 0, .int .u32 0]) ∧ Below w.heap.size w w' := by
  go_enter Try.func27, Try.ntmps27
  go_wp2
  go_returns
  exact ⟨rfl, by go_grown⟩
theorem tree_any (la tr : Int) (w : World) (h0 : 0 ≤ tr) (h1 : tr < 18446744073709551616) :
    Calls Try.prog 28 #[.int .u32 la, .int .u64 tr] w fun e w' => e = .returned (.agg #[.int .u32 la, .int .u32 (tr / 4294967296), .int .u32 (tr % 4294967296), .int .u32 2, .int .u32 0, .int .u32 0, .int .u32 0, .int .u32 0]) ∧ Below w.heap.size w w' := by
  go_enter Try.func28, Try.ntmps28
  go_wp2
  go_returns
  exact ⟨rfl, by go_grown⟩
theorem at_any (a0 a1 a2 a3 a4 a5 a6 a7 f s : Int) (w : World) :
    Calls Try.prog 29 #[.agg #[.int .u32 a0, .int .u32 a1, .int .u32 a2, .int .u32 a3, .int .u32 a4, .int .u32 a5, .int .u32 a6, .int .u32 a7], .int .u32 f, .int .u32 s] w fun e w' => e = .returned (.agg #[.int .u32 a0, .int .u32 a1, .int .u32 a2, .int .u32 a3, .int .u32 a4, .int .u32 f, .int .u32 s, .int .u32 0]) ∧ Below w.heap.size w w' := by
  go_enter Try.func29, Try.ntmps29
  go_wp2
  go_returns
  exact ⟨rfl, by go_grown⟩
theorem for_any (a0 a1 a2 a3 a4 a5 a6 a7 f : Int) (w : World) :
    Calls Try.prog 31 #[.agg #[.int .u32 a0, .int .u32 a1, .int .u32 a2, .int .u32 a3, .int .u32 a4, .int .u32 a5, .int .u32 a6, .int .u32 a7], .int .u32 f] w fun e w' => e = .returned (.agg #[.int .u32 a0, .int .u32 a1, .int .u32 a2, .int .u32 a3, .int .u32 a4, .int .u32 a5, .int .u32 a6, .int .u32 f]) ∧ Below w.heap.size w w' := by
  go_enter Try.func31, Try.ntmps31
  go_wp2
  go_returns
  exact ⟨rfl, by go_grown⟩
end Go.Proofs.Ytkiaeepdpmcafaa
