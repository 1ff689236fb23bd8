/-
  Signatures in memory: a row of parts, each of them two rows of digests; such as come in.
-/
import Derived.Test.YtjkfbeillmeomaaDoorRHyper2
import Derived.Deep.SlicePairs
import Derived.Deep.Slices
namespace Go.Proofs.YtjkfbeillmeomaaDoor
set_option maxRecDepth 100000
open Go.ChangeShapes Go.WideShapes Go.ChangeAt Go.RowKit
/-- A part: its one-time signature, and its way. -/
abbrev Prt := List (List Int) × List (List Int)
/-- Parts, in memory that was there. -/
structure PartsAt (w : World) (a : Option Addr) (len cap : Nat) (ps : List Prt) : Prop where
  length : ps.length = len
  le : len ≤ cap
  max : cap ≤ 9223372036854775807
  mem : (a = none ∧ len = 0 ∧ cap = 0) ∨ ∃ x o s, a = some ⟨x, o, s⟩ ∧ ∀ j, j < len → s = none ∧ x < w.heap.size ∧ ∃ u v, w.cell? ⟨x, o + j * 2, none⟩ = some u ∧ w.cell? ⟨x, o + j * 2 + 1, none⟩ = some v ∧ RowV (ps.getD j ([], [])).1.length (ps.getD j ([], [])).1 u w ∧ RowV (ps.getD j ([], [])).2.length (ps.getD j ([], [])).2 v w
theorem PartsAt.below {w w' : World} {a : Option Addr} {len cap : Nat} {ps : List Prt} (h : PartsAt w a len cap ps) (hb : Below w.heap.size w w') : PartsAt w' a len cap ps := by
  obtain ⟨h1, h2, h3, h | ⟨x, o, s, rfl, hc⟩⟩ := h
  · exact ⟨h1, h2, h3, .inl h⟩
  · refine ⟨h1, h2, h3, .inr ⟨x, o, s, rfl, fun j hj => ?_⟩⟩
    obtain ⟨q0, q1, u, v, q2, q3, q4, q5⟩ := hc j hj
    exact ⟨q0, Nat.lt_of_lt_of_le q1 hb.size, u, v, by rw [hb.cell (p := ⟨x, o + j * 2, none⟩) q1]; exact q2, by rw [hb.cell (p := ⟨x, o + j * 2 + 1, none⟩) q1]; exact q3, q4.below hb, q5.below hb⟩
theorem PartsAt.nil (w : World) : PartsAt w none 0 0 [] := ⟨rfl, Nat.le_refl _, by omega, .inl ⟨rfl, rfl, rfl⟩⟩
theorem PartsAt.at_ {w : World} {a : Option Addr} {len cap : Nat} {ps : List Prt} (h : PartsAt w a len cap ps) (h0 : 0 < len) : ∃ x o, a = some ⟨x, o, none⟩ ∧ x < w.heap.size ∧ ∀ j, j < len → ∃ u v, w.cell? ⟨x, o + j * 2, none⟩ = some u ∧ w.cell? ⟨x, o + j * 2 + 1, none⟩ = some v ∧ RowV (ps.getD j ([], [])).1.length (ps.getD j ([], [])).1 u w ∧ RowV (ps.getD j ([], [])).2.length (ps.getD j ([], [])).2 v w := by
  obtain ⟨h1, h2, h3, ⟨_, h, _⟩ | ⟨x, o, s, rfl, hc⟩⟩ := h
  · omega
  · obtain ⟨rfl, hx, _⟩ := hc 0 h0
    exact ⟨x, o, rfl, hx, fun j hj => (hc j hj).2.2⟩
end Go.Proofs.YtjkfbeillmeomaaDoor
