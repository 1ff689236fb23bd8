/-
  SlotsKeep returns true for every input, and leaves all that was there. No condition.
-/
import Derived.Test.YtmpgnpkodapidaaRows
import Derived.Test.YtmpgnpkodapidaaFrame
import Derived.Test.YtmpgnpkodapidaaSkN
namespace Go.Proofs.Ytmpgnpkodapidaa.slotsKeep
open Go.ChangeShapes Go.WideShapes Go.ChangeAt Go.RowKit

theorem own : ownKnob Try.prog.godebug = none := by kernel_rfl
theorem laidOut : laidOutB Try.prog = true := by kernel_rfl

set_option maxRecDepth 100000 in
theorem lifted (os : Os) (started : os.Started) (H : Type) (enc : TypeId × Value → H) :
    ReturnsInHanded {} Try.checked os 5 .any (Rows.slotsKeepSpec.pre6 enc Try.prog Try.f5 Rows.slotsKeepRow.domain false) (Rows.slotsKeepSpec.post enc Try.prog Try.f5 false true false false) := by
  refine lift_sized (C := Try.checked) own started (by kernel_rfl) Try.func5 laidOut rfl (by kernel_rfl) (by kernel_rfl : Try.f5.resultTypes = #[4]) Try.underlying4
    (fun ds hds => by
      match ds, hds with
      | [d0], _ => exact ⟨rfl, rfl, rfl⟩)
    (ChangeSpec.witness6 (enc := enc) (C := Try.checked) false ⟨#[], #[.slice none 0 0], []⟩ 8 (by kernel_rfl) (by kernel_rfl) (by kernel_rfl) (by kernel_rfl)) ?_
  intro W base args ds p hval hA hsz
  have hval : ∀ (j : Nat) t v, Try.f5.params[j]? = some t → args[j]? = some v → Value.okWide Try.prog W .any base t v := hval
  have hA : DataW.TrodAll enc Try.prog W 0 (fun _ => true) true Try.f5.params.toList args.toList ds p := hA
  have hsz : (DataW.weightsEach Try.prog Try.f5.params.toList ds).all (· ≤ reachBytes) = true := hsz
  rw [Try.params5] at hA hval hsz
  obtain ⟨v0, d0, rfl, rfl, h0⟩ := trodAll_one hA
  have hw0 := (weights_cons hsz).1
  obtain ⟨a0, len0, cap0, ds0, rfl, hc0, hD0⟩ := open_deeds (hval 0 46 v0 rfl rfl) h0
  exact slotsKeep_any a0 len0 cap0 ds0 W hD0

theorem over : Rows.slotsKeepRow.holds Try.pinned (OpenSpec.ofChange Rows.slotsKeepSpec) :=
  OpenClaim.holds_of_wide 5 Try.f5 rfl rfl rfl rfl rfl rfl rfl ⟨rfl, rfl, rfl, rfl, rfl⟩ rfl rfl rfl rfl rfl (by kernel_rfl) Try.func5 (by kernel_rfl)
    (of_decide_eq_true (by kernel_rfl)) (by unfold Func.isWrapper; first | (rw [if_pos (by decide +kernel)]; kernel_rfl) | (rw [if_neg (by decide +kernel)]; exact ⟨rfl, rfl⟩))
    (fun os started H enc _ => lifted os started H enc)

theorem proved : Rows.SlotsKeepSaid := over
#print axioms proved
end Go.Proofs.Ytmpgnpkodapidaa.slotsKeep
