/-
  Signatures in memory: a row of parts, each of them two rows of digests; such as come in.
-/
import Derived.Test.YtjkfbeillmeomaaGreatDoorSZHyper2
import Derived.Deep.SlicePairs
import Derived.Deep.Slices
namespace Go.Proofs.YtjkfbeillmeomaaGreatDoor
set_option maxRecDepth 100000
open Go.ChangeShapes Go.WideShapes Go.ChangeAt Go.RowKit
/-- A part: its one-time signature, and its way. -/
abbrev Prt := List (List Int) × List (List Int)
/-- Parts, in memory that was there. -/
structure PartsAt (w : World) (a : Option Addr) (len cap : Nat) (ps : List Prt) : Prop where
  length : ps.length = len
  le : len ≤ cap
  max : cap ≤ 9223372036854775807
  mem : (a = none ∧ len = 0 ∧ cap = 0) ∨ ∃ x o s, a = some ⟨x, o, s⟩ ∧ ∀ j, j < len → s = none ∧ x < w.heap.size ∧ ∃ u v, w.cell? ⟨x, o + j * 2, none⟩ = some u ∧ w.cell? ⟨x, o + j * 2 + 1, none⟩ = some v ∧ RowV (ps.getD j ([], [])).1.length (ps.getD j ([], [])).1 u w ∧ RowV (ps.getD j ([], [])).2.length (ps.getD j ([], [])).2 v w
theorem PartsAt.below {w w' : World} {a : Option Addr} {len cap : Nat} {ps : List Prt} (h : PartsAt w a len cap ps) (hb : Below w.heap.size w w') : PartsAt w' a len cap ps := by
  obtain ⟨h1, h2, h3, h | ⟨x, o, s, rfl, hc⟩⟩ := h
  · exact ⟨h1, h2, h3, .inl h⟩
  · refine ⟨h1, h2, h3, .inr ⟨x, o, s, rfl, fun j hj => ?_⟩⟩
    obtain ⟨q0, q1, u, v, q2, q3, q4, q5⟩ := hc j hj
    exact ⟨q0, Nat.lt_of_lt_of_le q1 hb.size, u, v, by rw [hb.cell (p := ⟨x, o + j * 2, none⟩) q1]; exact q2, by rw [hb.cell (p := ⟨x, o + j * 2 + 1, none⟩) q1]; exact q3, q4.below hb, q5.below hb⟩
theorem PartsAt.nil (w : World) : PartsAt w none 0 0 [] := ⟨rfl, Nat.le_refl _, by omega, .inl ⟨rfl, rfl, rfl⟩⟩
theorem PartsAt.at_ {w : World} {a : Option Addr} {len cap : Nat} {ps : List Prt} (h : PartsAt w a len cap ps) (h0 : 0 < len) : ∃ x o, a = some ⟨x, o, none⟩ ∧ x < w.heap.size ∧ ∀ j, j < len → ∃ u v, w.cell? ⟨x, o + j * 2, none⟩ = some u ∧ w.cell? ⟨x, o + j * 2 + 1, none⟩ = some v ∧ RowV (ps.getD j ([], [])).1.length (ps.getD j ([], [])).1 u w ∧ RowV (ps.getD j ([], [])).2.length (ps.getD j ([], [])).2 v w := by
  obtain ⟨h1, h2, h3, ⟨_, h, _⟩ | ⟨x, o, s, rfl, hc⟩⟩ := h
  · omega
  · obtain ⟨rfl, hx, _⟩ := hc 0 h0
    exact ⟨x, o, rfl, hx, fun j hj => (hc j hj).2.2⟩
/-- A key, as it comes in. -/
theorem open_pub {H : Type} {enc : TypeId × Value → H} {W : World} {base : Nat} {v : Value} {d : DataW H} {p : List MemPlace} (hv : Value.okWide Tryz.prog W .any base 27 v) (h : DataW.Trod enc Tryz.prog W 0 (fun _ => true) true 27 v d p) :
    ∃ (L V : Int) (root pub : List Int), v = .agg (pubC L V root pub).toArray ∧ (Lit.int .i64 L).wf = true ∧ (Lit.int .i64 V).wf = true ∧ Dg root ∧ Dg pub := by
  obtain ⟨f0, f1, f2, hu, t0, t1, t2, o0, o1, o2⟩ : ∃ f0 f1 f2 : Field, Tryz.prog.underlying 27 = some (.struct #[f0, f1, f2]) ∧ f0.type = 23 ∧ f1.type = 25 ∧ f2.type = 25 ∧ f0.offset = 0 ∧ f1.offset = 2 ∧ f2.offset = 34 := ⟨_, _, _, Tryz.underlying27, rfl, rfl, rfl, rfl, rfl, rfl⟩
  obtain ⟨g0, g1, hs, s0, s1, p0, p1⟩ : ∃ f0 f1 : Field, Tryz.prog.underlying 23 = some (.struct #[f0, f1]) ∧ f0.type = 3 ∧ f1.type = 3 ∧ f0.offset = 0 ∧ f1.offset = 1 := ⟨_, _, Tryz.underlying23, rfl, rfl, rfl, rfl⟩
  have c32 : Tryz.prog.cellsOf 25 = 32 := by kernel_rfl
  have c66 : Tryz.prog.cellsOf 27 = 66 := by kernel_rfl
  have c1 : Tryz.prog.cellsOf 5 = 1 := by kernel_rfl
  have ci : Tryz.prog.cellsOf 3 = 1 := by kernel_rfl
  have c2 : Tryz.prog.cellsOf 23 = 2 := by kernel_rfl
  unfold Value.okWide at hv
  rw [hu] at hv
  obtain ⟨cs, rfl, hsz, _⟩ := hv
  obtain ⟨fuel, hf⟩ := h
  have hf : DataW.trod enc Tryz.prog W 0 (fun _ => true) true fuel 27 cs.toList = some (d, p) := hf
  obtain ⟨y0, y1, y2, n, _, hl, q0, q1, q2⟩ := Go.Deep.trod_struct3 hu hf
  rw [t0, o0, c2] at q0
  rw [t1, o1, c32] at q1
  rw [t2, o2, c32] at q2
  obtain ⟨z0, z1, m, _, hl2, r0, r1⟩ := trod_struct2 hs q0
  rw [s0, p0, ci] at r0
  rw [s1, p1, ci] at r1
  obtain ⟨x, e0, _, w0⟩ := DataW.trod_int Tryz.underlying3 r0
  obtain ⟨y, e1, _, w1⟩ := DataW.trod_int Tryz.underlying3 r1
  obtain ⟨root, k1, e2⟩ := digest_cells Tryz.underlying25 Tryz.underlying5 c32 c1 q1
  obtain ⟨pub, k2, e3⟩ := digest_cells Tryz.underlying25 Tryz.underlying5 c32 c1 q2
  refine ⟨x, y, root, pub, ?_, w0, w1, k1, k2⟩
  refine congrArg Value.agg ?_
  apply Array.ext'
  rw [c66] at hl
  rw [c2] at hl2
  have h2 : (cs.toList.drop 0).take 2 = [.int .i64 x, .int .i64 y] := by
    obtain ⟨a, b, hab⟩ : ∃ a b, (cs.toList.drop 0).take 2 = [a, b] := by
      match (cs.toList.drop 0).take 2, hl2 with
      | [a, b], _ => exact ⟨a, b, rfl⟩
    rw [hab] at e0 e1 ⊢
    simp at e0 e1
    rw [e0, e1]
  have h3 : cs.toList = (cs.toList.drop 0).take 2 ++ ((cs.toList.drop 2).take 32 ++ (cs.toList.drop 34).take 32) := by
    rw [List.take_of_length_le (l := cs.toList.drop 34) (by rw [List.length_drop]; omega)]
    rw [show cs.toList.drop 34 = (cs.toList.drop 2).drop 32 by rw [List.drop_drop], List.take_append_drop, List.drop_zero, List.take_append_drop]
  rw [h3, h2, e2, e3]
  rfl
end Go.Proofs.YtjkfbeillmeomaaGreatDoor
