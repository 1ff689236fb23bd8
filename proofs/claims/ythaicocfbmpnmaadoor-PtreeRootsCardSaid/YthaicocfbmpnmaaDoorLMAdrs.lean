/-
  AdrsBytes, Adrs, AdrsRef, AdrsRefCap: one text.
-/
import Derived.Test.YthaicocfbmpnmaaDoorLMNum
import Derived.Test.YthaicocfbmpnmaaDoorLMBase
namespace Go.Proofs.YthaicocfbmpnmaaDoor
open Go.ChangeShapes Go.WideShapes Go.ChangeAt Go.RowKit

/-- the bytes of words -/
def wordBytes (xs : List Int) : List Int := xs.flatMap (be 4)
set_option maxRecDepth 100000 in
theorem wordBytes_small (xs : List Int) : ∀ x ∈ wordBytes xs, 0 ≤ x ∧ x < 256 := by
  intro x hx
  unfold wordBytes at hx
  rw [List.mem_flatMap] at hx
  obtain ⟨y, _, hx⟩ := hx
  exact be_small 4 y x hx
set_option maxRecDepth 100000 in
theorem wordBytes_length (xs : List Int) : (wordBytes xs).length = 4 * xs.length := by
  induction xs with
  | nil => rfl
  | cons x xs ih => simp only [wordBytes, List.flatMap_cons, List.length_append, be_length, List.length_cons] at *; omega
set_option maxRecDepth 100000 in
theorem wordBytes_take (xs : List Int) (k : Nat) (h : k < xs.length) : wordBytes (xs.take (k + 1)) = wordBytes (xs.take k) ++ be 4 (xs.getD k 0) := by
  rw [List.take_succ_eq_append_getElem h]
  simp only [wordBytes, List.flatMap_append, List.flatMap_cons, List.flatMap_nil, List.append_nil]
  simp [h]

end Go.Proofs.YthaicocfbmpnmaaDoor

namespace Go.Proofs.YthaicocfbmpnmaaDoor
open Go.ChangeShapes Go.WideShapes Go.ChangeAt Go.RowKit

end Go.Proofs.YthaicocfbmpnmaaDoor

namespace Go.Proofs.YthaicocfbmpnmaaDoor
open Go.ChangeShapes Go.WideShapes Go.ChangeAt Go.RowKit


set_option maxRecDepth 100000 in
theorem be_four (x : Int) (h0 : 0 ≤ x) (h1 : x < 4294967296) : be 4 x = [x / 16777216, x / 65536 % 256, x / 256 % 256, x % 256] := by
  simp only [be, List.nil_append, List.cons_append, List.cons.injEq, and_true]
  omega

end Go.Proofs.YthaicocfbmpnmaaDoor

namespace Go.Proofs.YthaicocfbmpnmaaDoor
open Go.ChangeShapes Go.WideShapes Go.ChangeAt Go.RowKit

end Go.Proofs.YthaicocfbmpnmaaDoor
