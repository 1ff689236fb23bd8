/-
  AdrsMakes returns true for any layer, tree, leaf, address and last word, and leaves all that was there. No condition.
-/
import Derived.Test.YtkiaeepdpmcafaaRows
import Derived.Test.YtkiaeepdpmcafaaFive
import Derived.Test.YtkiaeepdpmcafaaOpens
import Derived.Test.YtkiaeepdpmcafaaMakesWalk
namespace Go.Proofs.Ytkiaeepdpmcafaa.adrsMakes
open Go.ChangeShapes Go.WideShapes Go.ChangeAt Go.RowKit

theorem own : ownKnob Try.prog.godebug = none := by kernel_rfl
theorem laidOut : laidOutB Try.prog = true := by kernel_rfl

set_option maxRecDepth 100000 in
theorem lifted (os : Os) (started : os.Started) (H : Type) (enc : TypeId × Value → H) :
    ReturnsInHanded {} Try.checked os 7 .any (Rows.adrsMakesSpec.pre6 enc Try.prog Try.f7 Rows.adrsMakesRow.domain false) (Rows.adrsMakesSpec.post enc Try.prog Try.f7 false true false false) := by
  refine lift_law (C := Try.checked) own started (by kernel_rfl) Try.func7 laidOut rfl (by kernel_rfl) (by kernel_rfl : Try.f7.resultTypes = #[4]) Try.underlying4
    (fun ds hds => by
      match ds, hds with
      | [a, b, c, d, e], _ => exact ⟨rfl, rfl, rfl⟩)
    (ChangeSpec.witness6 (enc := enc) (C := Try.checked) false ⟨#[], #[.int .u32 0, .int .u64 0, .int .u32 0, .agg #[.int .u32 0, .int .u32 0, .int .u32 0, .int .u32 0, .int .u32 0, .int .u32 0, .int .u32 0, .int .u32 0], .int .u32 0], []⟩ 8 (by kernel_rfl) (by kernel_rfl) (by kernel_rfl) (by kernel_rfl)) ?_
  intro W base args ds p hval hA
  have hval : ∀ (j : Nat) t v, Try.f7.params[j]? = some t → args[j]? = some v → Value.okWide Try.prog W .any base t v := hval
  have hA : DataW.TrodAll enc Try.prog W 0 (fun _ => true) true Try.f7.params.toList args.toList ds p := hA
  rw [Try.params7] at hA hval
  obtain ⟨v0, v1, v2, v3, v4, d0, d1, d2, d3, d4, p0, p1, p2, p3, p4, rfl, rfl, rfl, h0, h1, h2, h3, h4⟩ := trodAll_five hA
  obtain ⟨la, rfl, rfl, rfl, _⟩ := open_int Try.underlying46 (hval 0 46 v0 rfl rfl) h0
  obtain ⟨tr, rfl, rfl, rfl, w1⟩ := open_int Try.underlying47 (hval 1 47 v1 rfl rfl) h1
  obtain ⟨le, rfl, rfl, rfl, _⟩ := open_int Try.underlying46 (hval 2 46 v2 rfl rfl) h2
  obtain ⟨xs, hx, rfl, wx⟩ := open_array_ints Try.underlying49 Try.underlying46 (by kernel_rfl) (by kernel_rfl) (hval 3 49 v3 rfl rfl) h3
  obtain ⟨s, rfl, rfl, rfl, _⟩ := open_int Try.underlying46 (hval 4 46 v4 rfl rfl) h4
  have hb : ∀ x ∈ xs, 0 ≤ x ∧ x < 4294967296 := fun x h => wf_u32 (wx x h)
  match xs, hx with
  | [a0, a1, a2, a3, a4, a5, a6, a7], _ =>
    exact makes_walk la tr le s a0 a1 a2 a3 a4 a5 a6 a7 W (wf_u64 w1).1 (wf_u64 w1).2 hb

theorem over : Rows.adrsMakesRow.holds Try.pinned (OpenSpec.ofChange Rows.adrsMakesSpec) :=
  OpenClaim.holds_of_wide 7 Try.f7 rfl rfl rfl rfl rfl rfl rfl ⟨rfl, rfl, rfl, rfl, rfl⟩ rfl rfl rfl rfl rfl (by kernel_rfl) Try.func7 (by kernel_rfl)
    (of_decide_eq_true (by kernel_rfl)) (by unfold Func.isWrapper; first | (rw [if_pos (by decide +kernel)]; kernel_rfl) | (rw [if_neg (by decide +kernel)]; exact ⟨rfl, rfl⟩))
    (fun os started H enc _ => lifted os started H enc)

theorem proved : Rows.AdrsMakesSaid := over
#print axioms proved
end Go.Proofs.Ytkiaeepdpmcafaa.adrsMakes
