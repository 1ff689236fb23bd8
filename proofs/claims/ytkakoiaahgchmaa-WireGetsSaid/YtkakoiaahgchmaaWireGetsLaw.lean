/-
  WireGets returns true for every input, and leaves all that was there. No condition.
-/
import Derived.Test.YtkakoiaahgchmaaRows
import Derived.Test.YtkakoiaahgchmaaFrame
import Derived.Test.YtkakoiaahgchmaaGP9
namespace Go.Proofs.Ytkakoiaahgchmaa.wireGets
open Go.ChangeShapes Go.WideShapes Go.ChangeAt Go.RowKit

theorem own : ownKnob Try.prog.godebug = none := by kernel_rfl
theorem laidOut : laidOutB Try.prog = true := by kernel_rfl

set_option maxRecDepth 100000 in
theorem lifted (os : Os) (started : os.Started) (H : Type) (enc : TypeId × Value → H) :
    ReturnsInHanded {} Try.checked os 4 .any (Rows.wireGetsSpec.pre6 enc Try.prog Try.f4 Rows.wireGetsRow.domain false) (Rows.wireGetsSpec.post enc Try.prog Try.f4 false true false false) := by
  refine lift_sized (C := Try.checked) own started (by kernel_rfl) Try.func4 laidOut rfl (by kernel_rfl) (by kernel_rfl : Try.f4.resultTypes = #[4]) Try.underlying4
    (fun ds hds => by
      match ds, hds with
      | [d0, d1], _ => exact ⟨rfl, rfl, rfl⟩)
    (ChangeSpec.witness6 (enc := enc) (C := Try.checked) false ⟨#[], #[.agg #[.int .i64 0, .int .i64 0], .slice none 0 0], []⟩ 8 (by kernel_rfl) (by kernel_rfl) (by kernel_rfl) (by kernel_rfl)) ?_
  intro W base args ds p hval hA hsz
  have hval : ∀ (j : Nat) t v, Try.f4.params[j]? = some t → args[j]? = some v → Value.okWide Try.prog W .any base t v := hval
  have hA : DataW.TrodAll enc Try.prog W 0 (fun _ => true) true Try.f4.params.toList args.toList ds p := hA
  have hsz : (DataW.weightsEach Try.prog Try.f4.params.toList ds).all (· ≤ reachBytes) = true := hsz
  rw [Try.params4] at hA hval hsz
  obtain ⟨v0, v1, d0, d1, p0, p1, rfl, rfl, rfl, h0, h1⟩ := trodAll_two hA
  obtain ⟨hw0, hsz⟩ := weights_cons hsz
  have hw1 := (weights_cons hsz).1
  obtain ⟨L0, V0, rfl, wL0, wV0⟩ := open_shape (hval 0 23 v0 rfl rfl) h0
  obtain ⟨a1, len1, cap1, bs1, rfl, hT1, hR1⟩ := open_text Try.underlying31 Try.underlying5 (by kernel_rfl) (hval 1 31 v1 rfl rfl) h1
  have hR1 := hR1 (by kernel_rfl) hw1
  exact wireGets_any L0 V0 a1 len1 cap1 bs1 W hT1

theorem over : Rows.wireGetsRow.holds Try.pinned (OpenSpec.ofChange Rows.wireGetsSpec) :=
  OpenClaim.holds_of_wide 4 Try.f4 rfl rfl rfl rfl rfl rfl rfl ⟨rfl, rfl, rfl, rfl, rfl⟩ rfl rfl rfl rfl rfl (by kernel_rfl) Try.func4 (by kernel_rfl)
    (of_decide_eq_true (by kernel_rfl)) (by unfold Func.isWrapper; first | (rw [if_pos (by decide +kernel)]; kernel_rfl) | (rw [if_neg (by decide +kernel)]; exact ⟨rfl, rfl⟩))
    (fun os started H enc _ => lifted os started H enc)

theorem proved : Rows.WireGetsSaid := over
#print axioms proved
end Go.Proofs.Ytkakoiaahgchmaa.wireGets
