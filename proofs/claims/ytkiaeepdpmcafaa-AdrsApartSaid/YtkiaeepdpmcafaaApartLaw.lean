/-
  AdrsApart returns true for any two numbers and any two lists of five words, and leaves all that was there. No condition.
-/
import Derived.Test.YtkiaeepdpmcafaaRows
import Derived.Test.YtkiaeepdpmcafaaFrame
import Derived.Test.YtkiaeepdpmcafaaOpens
import Derived.Test.YtkiaeepdpmcafaaApartWalk
namespace Go.Proofs.Ytkiaeepdpmcafaa.adrsApart
open Go.ChangeShapes Go.WideShapes Go.ChangeAt Go.RowKit

theorem own : ownKnob Try.prog.godebug = none := by kernel_rfl
theorem laidOut : laidOutB Try.prog = true := by kernel_rfl

set_option maxRecDepth 100000 in
theorem lifted (os : Os) (started : os.Started) (H : Type) (enc : TypeId × Value → H) :
    ReturnsInHanded {} Try.checked os 9 .any (Rows.adrsApartSpec.pre6 enc Try.prog Try.f9 Rows.adrsApartRow.domain false) (Rows.adrsApartSpec.post enc Try.prog Try.f9 false true false false) := by
  refine lift_law (C := Try.checked) own started (by kernel_rfl) Try.func9 laidOut rfl (by kernel_rfl) (by kernel_rfl : Try.f9.resultTypes = #[4]) Try.underlying4
    (fun ds hds => by
      match ds, hds with
      | [a, b, c, d], _ => exact ⟨rfl, rfl, rfl⟩)
    (ChangeSpec.witness6 (enc := enc) (C := Try.checked) false ⟨#[], #[.int .u64 0, .int .u64 0, .agg #[.int .u32 0, .int .u32 0, .int .u32 0, .int .u32 0, .int .u32 0], .agg #[.int .u32 0, .int .u32 0, .int .u32 0, .int .u32 0, .int .u32 0]], []⟩ 8 (by kernel_rfl) (by kernel_rfl) (by kernel_rfl) (by kernel_rfl)) ?_
  intro W base args ds p hval hA
  have hval : ∀ (j : Nat) t v, Try.f9.params[j]? = some t → args[j]? = some v → Value.okWide Try.prog W .any base t v := hval
  have hA : DataW.TrodAll enc Try.prog W 0 (fun _ => true) true Try.f9.params.toList args.toList ds p := hA
  rw [Try.params9] at hA hval
  obtain ⟨v0, v1, v2, v3, d0, d1, d2, d3, p0, p1, p2, p3, rfl, rfl, rfl, h0, h1, h2, h3⟩ := trodAll_four hA
  obtain ⟨tr, rfl, rfl, rfl, w0⟩ := open_int Try.underlying47 (hval 0 47 v0 rfl rfl) h0
  obtain ⟨ot, rfl, rfl, rfl, w1⟩ := open_int Try.underlying47 (hval 1 47 v1 rfl rfl) h1
  obtain ⟨xs, hx, rfl, _⟩ := open_array_ints Try.underlying64 Try.underlying46 (by kernel_rfl) (by kernel_rfl) (hval 2 64 v2 rfl rfl) h2
  obtain ⟨ys, hy, rfl, _⟩ := open_array_ints Try.underlying64 Try.underlying46 (by kernel_rfl) (by kernel_rfl) (hval 3 64 v3 rfl rfl) h3
  match xs, hx, ys, hy with
  | [a0, a1, a2, a3, a4], _, [b0, b1, b2, b3, b4], _ =>
    exact apart_walk tr ot a0 a1 a2 a3 a4 b0 b1 b2 b3 b4 W (wf_u64 w0).1 (wf_u64 w0).2 (wf_u64 w1).1 (wf_u64 w1).2

theorem over : Rows.adrsApartRow.holds Try.pinned (OpenSpec.ofChange Rows.adrsApartSpec) :=
  OpenClaim.holds_of_wide 9 Try.f9 rfl rfl rfl rfl rfl rfl rfl ⟨rfl, rfl, rfl, rfl, rfl⟩ rfl rfl rfl rfl rfl (by kernel_rfl) Try.func9 (by kernel_rfl)
    (of_decide_eq_true (by kernel_rfl)) (by unfold Func.isWrapper; first | (rw [if_pos (by decide +kernel)]; kernel_rfl) | (rw [if_neg (by decide +kernel)]; exact ⟨rfl, rfl⟩))
    (fun os started H enc _ => lifted os started H enc)

theorem proved : Rows.AdrsApartSaid := over
#print axioms proved
end Go.Proofs.Ytkiaeepdpmcafaa.adrsApart
