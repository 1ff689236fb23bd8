/-
  FenceRaises returns true for any list of marks, and leaves all that was there. No condition.
-/
import Derived.Test.YtkiaeepdpmcafaaRows
import Derived.Test.YtkiaeepdpmcafaaFrame
import Derived.Test.YtkiaeepdpmcafaaTrips
import Derived.Test.YtkiaeepdpmcafaaRaisesWalk
namespace Go.Proofs.Ytkiaeepdpmcafaa.fenceRaises
open Go.ChangeShapes Go.WideShapes Go.ChangeAt Go.RowKit

theorem own : ownKnob Try.prog.godebug = none := by kernel_rfl
theorem laidOut : laidOutB Try.prog = true := by kernel_rfl

set_option maxRecDepth 100000 in
theorem lifted (os : Os) (started : os.Started) (H : Type) (enc : TypeId × Value → H) :
    ReturnsInHanded {} Try.checked os 5 .any (Rows.fenceRaisesSpec.pre6 enc Try.prog Try.f5 Rows.fenceRaisesRow.domain false) (Rows.fenceRaisesSpec.post enc Try.prog Try.f5 false true false false) := by
  refine lift_law (C := Try.checked) own started (by kernel_rfl) Try.func5 laidOut rfl (by kernel_rfl) (by kernel_rfl : Try.f5.resultTypes = #[4]) Try.underlying4
    (fun ds hds => by
      match ds, hds with
      | [a], _ => exact ⟨rfl, rfl, rfl⟩)
    (ChangeSpec.witness6 (enc := enc) (C := Try.checked) false ⟨#[], #[.slice none 0 0], []⟩ 8 (by kernel_rfl) (by kernel_rfl) (by kernel_rfl) (by kernel_rfl)) ?_
  intro W base args ds p hval hA
  have hval : ∀ (j : Nat) t v, Try.f5.params[j]? = some t → args[j]? = some v → Value.okWide Try.prog W .any base t v := hval
  have hA : DataW.TrodAll enc Try.prog W 0 (fun _ => true) true Try.f5.params.toList args.toList ds p := hA
  rw [Try.params5] at hA hval
  obtain ⟨v0, d0, rfl, rfl, h0⟩ := trodAll_one hA
  obtain ⟨a, len, cap, X, Y, Z, rfl, hlc, hcm, hrow⟩ := open_row_trips Try.underlying32 Try.underlying38 (by kernel_rfl) rfl rfl rfl (by kernel_rfl) (by kernel_rfl) (by kernel_rfl) Try.underlying3 Try.underlying3 Try.underlying3 (hval 0 32 v0 rfl rfl) h0
  by_cases hlong : 100 < len
  · exact raises_long a len cap W hlong (by unfold maxLen at hcm; omega)
  · by_cases h0 : len = 0
    · subst h0
      exact raises_zero a cap W
    · rcases hrow with ⟨_, h⟩ | ⟨b, off, s, rfl, hc⟩
      · exact absurd h h0
      · obtain ⟨rfl, hb, _⟩ := hc 0 (by omega)
        exact raises_walk b off X Y Z len cap W hlong (fun _ => hb) (fun i hi => (hc i hi).2.2)

theorem over : Rows.fenceRaisesRow.holds Try.pinned (OpenSpec.ofChange Rows.fenceRaisesSpec) :=
  OpenClaim.holds_of_wide 5 Try.f5 rfl rfl rfl rfl rfl rfl rfl ⟨rfl, rfl, rfl, rfl, rfl⟩ rfl rfl rfl rfl rfl (by kernel_rfl) Try.func5 (by kernel_rfl)
    (of_decide_eq_true (by kernel_rfl)) (by unfold Func.isWrapper; first | (rw [if_pos (by decide +kernel)]; kernel_rfl) | (rw [if_neg (by decide +kernel)]; exact ⟨rfl, rfl⟩))
    (fun os started H enc _ => lifted os started H enc)

theorem proved : Rows.FenceRaisesSaid := over
#print axioms proved
end Go.Proofs.Ytkiaeepdpmcafaa.fenceRaises
