/-
  FenceLeast returns true for any three marks, and leaves all that was there. No condition.
-/
import Derived.Test.YtkiaeepdpmcafaaRows
import Derived.Test.YtkiaeepdpmcafaaFrame
import Derived.Test.YtkiaeepdpmcafaaLeastWalk
import Derived.Lib.SmallJoins
namespace Go.Proofs.Ytkiaeepdpmcafaa.fenceLeast
open Go.ChangeShapes Go.WideShapes Go.ChangeAt Go.RowKit

theorem own : ownKnob Try.prog.godebug = none := by kernel_rfl
theorem laidOut : laidOutB Try.prog = true := by kernel_rfl
theorem cells38 : Try.prog.cellsOf 38 = 3 := by kernel_rfl

/-- marks that come in are three numbers -/
theorem open_marks {H : Type} {enc : TypeId × Value → H} {W : World} {base : Nat} {v : Value} {d : DataW H} {p : List MemPlace} (hv : Value.okWide Try.prog W .any base 38 v)
    (h : DataW.Trod enc Try.prog W 0 (fun _ => true) true 38 v d p) : ∃ g k h : Int, v = .agg #[.int .i64 g, .int .i64 k, .int .i64 h] := by
  obtain ⟨c0, c1, c2, y0, y1, y2, m, rfl, rfl, rfl, h0, h1, h2⟩ := Go.Joins.open_agg3 Try.underlying38 (by kernel_rfl) cells38 hv h
  obtain ⟨a, e0, rfl, wa⟩ := DataW.trod_int Try.underlying3 h0
  obtain ⟨b, e1, rfl, wb⟩ := DataW.trod_int Try.underlying3 h1
  obtain ⟨c, e2, rfl, wc⟩ := DataW.trod_int Try.underlying3 h2
  simp at e0 e1 e2
  subst e0 e1 e2
  exact ⟨_, _, _, rfl⟩

set_option maxRecDepth 100000 in
theorem lifted (os : Os) (started : os.Started) (H : Type) (enc : TypeId × Value → H) :
    ReturnsInHanded {} Try.checked os 6 .any (Rows.fenceLeastSpec.pre6 enc Try.prog Try.f6 Rows.fenceLeastRow.domain false) (Rows.fenceLeastSpec.post enc Try.prog Try.f6 false true false false) := by
  refine lift_law (C := Try.checked) own started (by kernel_rfl) Try.func6 laidOut rfl (by kernel_rfl) (by kernel_rfl : Try.f6.resultTypes = #[4]) Try.underlying4
    (fun ds hds => by
      match ds, hds with
      | [a, b, c], _ => exact ⟨rfl, rfl, rfl⟩)
    (ChangeSpec.witness6 (enc := enc) (C := Try.checked) false ⟨#[], #[.agg #[.int .i64 0, .int .i64 0, .int .i64 0], .agg #[.int .i64 0, .int .i64 0, .int .i64 0], .agg #[.int .i64 0, .int .i64 0, .int .i64 0]], []⟩ 8 (by kernel_rfl) (by kernel_rfl) (by kernel_rfl) (by kernel_rfl)) ?_
  intro W base args ds p hval hA
  have hval : ∀ (j : Nat) t v, Try.f6.params[j]? = some t → args[j]? = some v → Value.okWide Try.prog W .any base t v := hval
  have hA : DataW.TrodAll enc Try.prog W 0 (fun _ => true) true Try.f6.params.toList args.toList ds p := hA
  rw [Try.params6] at hA hval
  obtain ⟨v0, v1, v2, d0, d1, d2, p0, p1, p2, rfl, rfl, rfl, h0, h1, h2⟩ := trodAll_three hA
  obtain ⟨_, _, _, rfl⟩ := open_marks (hval 0 38 v0 rfl rfl) h0
  obtain ⟨_, _, _, rfl⟩ := open_marks (hval 1 38 v1 rfl rfl) h1
  obtain ⟨_, _, _, rfl⟩ := open_marks (hval 2 38 v2 rfl rfl) h2
  exact law_walk _ _ _ _ _ _ _ _ _ W

theorem over : Rows.fenceLeastRow.holds Try.pinned (OpenSpec.ofChange Rows.fenceLeastSpec) :=
  OpenClaim.holds_of_wide 6 Try.f6 rfl rfl rfl rfl rfl rfl rfl ⟨rfl, rfl, rfl, rfl, rfl⟩ rfl rfl rfl rfl rfl (by kernel_rfl) Try.func6 (by kernel_rfl)
    (of_decide_eq_true (by kernel_rfl)) (by unfold Func.isWrapper; first | (rw [if_pos (by decide +kernel)]; kernel_rfl) | (rw [if_neg (by decide +kernel)]; exact ⟨rfl, rfl⟩))
    (fun os started H enc _ => lifted os started H enc)

theorem proved : Rows.FenceLeastSaid := over
#print axioms proved
end Go.Proofs.Ytkiaeepdpmcafaa.fenceLeast
