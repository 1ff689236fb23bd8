/-
  AdrsParses returns true for every input, and leaves all that was there. No condition.
-/
import Derived.Test.YtkiaeepdpmcafaaRows
import Derived.Test.YtkiaeepdpmcafaaFrame
import Derived.Test.YtkiaeepdpmcafaaText
import Derived.Test.YtkiaeepdpmcafaaParsesWalk
namespace Go.Proofs.Ytkiaeepdpmcafaa.adrsParses
open Go.ChangeShapes Go.WideShapes Go.ChangeAt Go.RowKit

theorem own : ownKnob Try.prog.godebug = none := by kernel_rfl
theorem laidOut : laidOutB Try.prog = true := by kernel_rfl

set_option maxRecDepth 100000 in
theorem lifted (os : Os) (started : os.Started) (H : Type) (enc : TypeId × Value → H) :
    ReturnsInHanded {} Try.checked os 8 .any (Rows.adrsParsesSpec.pre6 enc Try.prog Try.f8 Rows.adrsParsesRow.domain false) (Rows.adrsParsesSpec.post enc Try.prog Try.f8 false true false false) := by
  refine lift_sized (C := Try.checked) own started (by kernel_rfl) Try.func8 laidOut rfl (by kernel_rfl) (by kernel_rfl : Try.f8.resultTypes = #[4]) Try.underlying4
    (fun ds hds => by
      match ds, hds with
      | [d0, d1], _ => exact ⟨rfl, rfl, rfl⟩)
    (ChangeSpec.witness6 (enc := enc) (C := Try.checked) false ⟨#[], #[.agg #[.int .u32 0, .int .u32 0, .int .u32 0, .int .u32 0, .int .u32 0, .int .u32 0, .int .u32 0, .int .u32 0], .slice none 0 0], []⟩ 8 (by kernel_rfl) (by kernel_rfl) (by kernel_rfl) (by kernel_rfl)) ?_
  intro W base args ds p hval hA hsz
  have hval : ∀ (j : Nat) t v, Try.f8.params[j]? = some t → args[j]? = some v → Value.okWide Try.prog W .any base t v := hval
  have hA : DataW.TrodAll enc Try.prog W 0 (fun _ => true) true Try.f8.params.toList args.toList ds p := hA
  have hsz : (DataW.weightsEach Try.prog Try.f8.params.toList ds).all (· ≤ reachBytes) = true := hsz
  rw [Try.params8] at hA hval hsz
  obtain ⟨v0, v1, d0, d1, p0, p1, rfl, rfl, rfl, h0, h1⟩ := trodAll_two hA
  obtain ⟨hw0, hsz⟩ := weights_cons hsz
  have hw1 := (weights_cons hsz).1
  obtain ⟨xs0, hx0, rfl, wf0⟩ := open_array_ints Try.underlying49 Try.underlying46 (by kernel_rfl) (by kernel_rfl) (hval 0 49 v0 rfl rfl) h0
  have wf0 := fun x h => wf_u32 (wf0 x h)
  obtain ⟨a1, len1, cap1, bs1, rfl, hT1, hR1⟩ := open_text Try.underlying56 Try.underlying5 (by kernel_rfl) (hval 1 56 v1 rfl rfl) h1
  have hR1 := hR1 (by kernel_rfl) hw1
  by_cases h : 100 < len1
  · exact parses_long xs0 a1 len1 cap1 bs1 W hT1 h
  · exact parses_walk xs0 hx0 wf0 a1 len1 cap1 bs1 W hT1 (by omega)

theorem over : Rows.adrsParsesRow.holds Try.pinned (OpenSpec.ofChange Rows.adrsParsesSpec) :=
  OpenClaim.holds_of_wide 8 Try.f8 rfl rfl rfl rfl rfl rfl rfl ⟨rfl, rfl, rfl, rfl, rfl⟩ rfl rfl rfl rfl rfl (by kernel_rfl) Try.func8 (by kernel_rfl)
    (of_decide_eq_true (by kernel_rfl)) (by unfold Func.isWrapper; first | (rw [if_pos (by decide +kernel)]; kernel_rfl) | (rw [if_neg (by decide +kernel)]; exact ⟨rfl, rfl⟩))
    (fun os started H enc _ => lifted os started H enc)

theorem proved : Rows.AdrsParsesSaid := over
#print axioms proved
end Go.Proofs.Ytkiaeepdpmcafaa.adrsParses
