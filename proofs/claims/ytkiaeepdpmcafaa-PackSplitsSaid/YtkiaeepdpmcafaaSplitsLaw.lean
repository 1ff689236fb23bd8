/-
  PackSplits returns true for every input, and leaves all that was there. No condition.
-/
import Derived.Test.YtkiaeepdpmcafaaRows
import Derived.Test.YtkiaeepdpmcafaaFrame
import Derived.Test.YtkiaeepdpmcafaaText
import Derived.Test.YtkiaeepdpmcafaaSplitsWalk
namespace Go.Proofs.Ytkiaeepdpmcafaa.packSplits
open Go.ChangeShapes Go.WideShapes Go.ChangeAt Go.RowKit

theorem own : ownKnob Try.prog.godebug = none := by kernel_rfl
theorem laidOut : laidOutB Try.prog = true := by kernel_rfl

set_option maxRecDepth 100000 in
theorem lifted (os : Os) (started : os.Started) (H : Type) (enc : TypeId × Value → H) :
    ReturnsInHanded {} Try.checked os 12 .any (Rows.packSplitsSpec.pre6 enc Try.prog Try.f12 Rows.packSplitsRow.domain false) (Rows.packSplitsSpec.post enc Try.prog Try.f12 false true false false) := by
  refine lift_sized (C := Try.checked) own started (by kernel_rfl) Try.func12 laidOut rfl (by kernel_rfl) (by kernel_rfl : Try.f12.resultTypes = #[4]) Try.underlying4
    (fun ds hds => by
      match ds, hds with
      | [d0, d1], _ => exact ⟨rfl, rfl, rfl⟩)
    (ChangeSpec.witness6 (enc := enc) (C := Try.checked) false ⟨#[], #[.slice none 0 0, .int .u32 0], []⟩ 8 (by kernel_rfl) (by kernel_rfl) (by kernel_rfl) (by kernel_rfl)) ?_
  intro W base args ds p hval hA hsz
  have hval : ∀ (j : Nat) t v, Try.f12.params[j]? = some t → args[j]? = some v → Value.okWide Try.prog W .any base t v := hval
  have hA : DataW.TrodAll enc Try.prog W 0 (fun _ => true) true Try.f12.params.toList args.toList ds p := hA
  have hsz : (DataW.weightsEach Try.prog Try.f12.params.toList ds).all (· ≤ reachBytes) = true := hsz
  rw [Try.params12] at hA hval hsz
  obtain ⟨v0, v1, d0, d1, p0, p1, rfl, rfl, rfl, h0, h1⟩ := trodAll_two hA
  obtain ⟨hw0, hsz⟩ := weights_cons hsz
  have hw1 := (weights_cons hsz).1
  obtain ⟨a0, len0, cap0, bs0, rfl, hT0, hR0⟩ := open_text Try.underlying56 Try.underlying5 (by kernel_rfl) (hval 0 56 v0 rfl rfl) h0
  have hR0 := hR0 (by kernel_rfl) hw0
  obtain ⟨x1, rfl, rfl, rfl, wf1⟩ := open_int Try.underlying46 (hval 1 46 v1 rfl rfl) h1
  have wf1 := wf_u32 wf1
  by_cases h : 3000 < len0 ∨ 70000 < x1
  · exact splits_big a0 len0 cap0 bs0 x1 W hT0 h
  · exact splits_walk a0 len0 cap0 bs0 x1 W hT0 (by omega) wf1.1 (by omega)

theorem over : Rows.packSplitsRow.holds Try.pinned (OpenSpec.ofChange Rows.packSplitsSpec) :=
  OpenClaim.holds_of_wide 12 Try.f12 rfl rfl rfl rfl rfl rfl rfl ⟨rfl, rfl, rfl, rfl, rfl⟩ rfl rfl rfl rfl rfl (by kernel_rfl) Try.func12 (by kernel_rfl)
    (of_decide_eq_true (by kernel_rfl)) (by unfold Func.isWrapper; first | (rw [if_pos (by decide +kernel)]; kernel_rfl) | (rw [if_neg (by decide +kernel)]; exact ⟨rfl, rfl⟩))
    (fun os started H enc _ => lifted os started H enc)

theorem proved : Rows.PackSplitsSaid := over
#print axioms proved
end Go.Proofs.Ytkiaeepdpmcafaa.packSplits
