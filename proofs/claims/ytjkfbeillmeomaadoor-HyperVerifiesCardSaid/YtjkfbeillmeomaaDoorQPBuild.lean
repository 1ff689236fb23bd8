/-
  BuildT, BuildP, TRows, Way, BuildLaws: one text.
-/
import Derived.Test.YtjkfbeillmeomaaDoorQPStack
import Derived.Test.YtjkfbeillmeomaaDoorQPClimb
import Derived.Deep.Strs
namespace Go.Proofs.YtjkfbeillmeomaaDoor
set_option maxRecDepth 100000
open Go.ChangeShapes Go.WideShapes Go.ChangeAt Go.RowKit
/-- What the first leaves come to. -/
def addAll (pub ad : List Int) (leaf n : Nat) (lf : Nat → List Int) : Nat → List Nod × List (List Int)
  | 0 => ([], List.replicate n zD)
  | k + 1 => addR pub ad leaf (addAll pub ad leaf n lf k).1 (pickM leaf (addAll pub ad leaf n lf k).2 ⟨lf k, 0, k⟩) ⟨lf k, 0, k⟩
/-- The node of a level, at a number. -/
def nodeZ (pub ad : List Int) (lf : Nat → List Int) : Nat → Nat → List Int
  | 0, j => lf j
  | k + 1, j => joinZ (nodeZ pub ad lf k (2 * j)) (nodeZ pub ad lf k (2 * j + 1)) pub (setAd ad (k : Nat) (j : Nat) 0)
def wayZ (pub ad : List Int) (lf : Nat → List Int) (leaf n : Nat) : List (List Int) := (List.range n).map fun k => nodeZ pub ad lf k (sibN leaf k)
/-- A world in which a builder may have changed but for its path's slice. -/
structure ButBld (b r : Nat) (a c : World) : Prop where
  inn : FlowB.ButIn [b, r] a c
  cell : b < a.heap.size → c.cell? ⟨b, 42, none⟩ = a.cell? ⟨b, 42, none⟩
end Go.Proofs.YtjkfbeillmeomaaDoor
namespace Go.Proofs.YtjkfbeillmeomaaDoor
set_option maxRecDepth 100000
open Go.ChangeShapes Go.WideShapes Go.ChangeAt Go.RowKit
end Go.Proofs.YtjkfbeillmeomaaDoor
namespace Go.Proofs.YtjkfbeillmeomaaDoor
set_option maxRecDepth 100000
open Go.ChangeShapes Go.WideShapes Go.ChangeAt Go.RowKit
def rowN (pub ad : List Int) (lf : Nat → List Int) (k m : Nat) : List (List Int) := (List.range m).map (nodeZ pub ad lf k)
/-- The rows, wherever they lie. -/
def RowsV (pub ad : List Int) (lf : Nat → List Int) (n : Nat) (v : Value) (w : World) : Prop := ∃ g cap, v = .slice (some ⟨g, 0, none⟩) (n + 1) cap ∧ n + 1 ≤ cap ∧ g < w.heap.size ∧ ∀ j, j ≤ n → ∃ u, w.cell? ⟨g, j, none⟩ = some u ∧ RowV (2 ^ (n - j)) (rowN pub ad lf j (2 ^ (n - j))) u w
end Go.Proofs.YtjkfbeillmeomaaDoor
namespace Go.Proofs.YtjkfbeillmeomaaDoor
set_option maxRecDepth 100000
open Go.ChangeShapes Go.WideShapes Go.ChangeAt Go.RowKit
end Go.Proofs.YtjkfbeillmeomaaDoor
namespace Go.Proofs.YtjkfbeillmeomaaDoor
set_option maxRecDepth 100000
open Go.ChangeShapes Go.WideShapes Go.ChangeAt Go.RowKit
end Go.Proofs.YtjkfbeillmeomaaDoor
