/-
  PackRows returns true for every input, and leaves all that was there. No condition.
-/
import Derived.Test.YtkiaeepdpmcafaaRows
import Derived.Test.YtkiaeepdpmcafaaFrame
import Derived.Test.YtkiaeepdpmcafaaText
import Derived.Test.YtkiaeepdpmcafaaRowsWalk
namespace Go.Proofs.Ytkiaeepdpmcafaa.packRows
open Go.ChangeShapes Go.WideShapes Go.ChangeAt Go.RowKit

theorem own : ownKnob Try.prog.godebug = none := by kernel_rfl
theorem laidOut : laidOutB Try.prog = true := by kernel_rfl

set_option maxRecDepth 100000 in
theorem lifted (os : Os) (started : os.Started) (H : Type) (enc : TypeId × Value → H) :
    ReturnsInHanded {} Try.checked os 11 .any (Rows.packRowsSpec.pre6 enc Try.prog Try.f11 Rows.packRowsRow.domain false) (Rows.packRowsSpec.post enc Try.prog Try.f11 false true false false) := by
  refine lift_sized (C := Try.checked) own started (by kernel_rfl) Try.func11 laidOut rfl (by kernel_rfl) (by kernel_rfl : Try.f11.resultTypes = #[4]) Try.underlying4
    (fun ds hds => by
      match ds, hds with
      | [d0], _ => exact ⟨rfl, rfl, rfl⟩)
    (ChangeSpec.witness6 (enc := enc) (C := Try.checked) false ⟨#[], #[.slice none 0 0], []⟩ 8 (by kernel_rfl) (by kernel_rfl) (by kernel_rfl) (by kernel_rfl)) ?_
  intro W base args ds p hval hA hsz
  have hval : ∀ (j : Nat) t v, Try.f11.params[j]? = some t → args[j]? = some v → Value.okWide Try.prog W .any base t v := hval
  have hA : DataW.TrodAll enc Try.prog W 0 (fun _ => true) true Try.f11.params.toList args.toList ds p := hA
  have hsz : (DataW.weightsEach Try.prog Try.f11.params.toList ds).all (· ≤ reachBytes) = true := hsz
  rw [Try.params11] at hA hval hsz
  obtain ⟨v0, d0, rfl, rfl, h0⟩ := trodAll_one hA
  have hw0 := (weights_cons hsz).1
  obtain ⟨a0, len0, cap0, ts0, rfl, hT0, hR0⟩ := open_texts Try.underlying71 Try.underlying56 Try.underlying5 (by kernel_rfl) (by kernel_rfl) (hval 0 71 v0 rfl rfl) h0
  have hR0 := hR0 (by kernel_rfl) (by kernel_rfl) hw0
  cases hf : fewB ts0 3000 with
  | true => exact rows_walk a0 len0 cap0 ts0 W hT0 hR0.2 hf
  | false => exact rows_not a0 len0 cap0 ts0 W hT0 hR0.2 hf

theorem over : Rows.packRowsRow.holds Try.pinned (OpenSpec.ofChange Rows.packRowsSpec) :=
  OpenClaim.holds_of_wide 11 Try.f11 rfl rfl rfl rfl rfl rfl rfl ⟨rfl, rfl, rfl, rfl, rfl⟩ rfl rfl rfl rfl rfl (by kernel_rfl) Try.func11 (by kernel_rfl)
    (of_decide_eq_true (by kernel_rfl)) (by unfold Func.isWrapper; first | (rw [if_pos (by decide +kernel)]; kernel_rfl) | (rw [if_neg (by decide +kernel)]; exact ⟨rfl, rfl⟩))
    (fun os started H enc _ => lifted os started H enc)

theorem proved : Rows.PackRowsSaid := over
#print axioms proved
end Go.Proofs.Ytkiaeepdpmcafaa.packRows
