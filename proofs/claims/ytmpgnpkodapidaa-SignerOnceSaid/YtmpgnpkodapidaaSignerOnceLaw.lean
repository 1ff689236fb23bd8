/-
  SignerOnce returns true for every input, and leaves all that was there. No condition.
-/
import Derived.Test.YtmpgnpkodapidaaRows
import Derived.Test.YtmpgnpkodapidaaFrame
import Derived.Test.YtmpgnpkodapidaaSoN
namespace Go.Proofs.Ytmpgnpkodapidaa.signerOnce
open Go.ChangeShapes Go.WideShapes Go.ChangeAt Go.RowKit

theorem own : ownKnob Try.prog.godebug = none := by kernel_rfl
theorem laidOut : laidOutB Try.prog = true := by kernel_rfl

set_option maxRecDepth 100000 in
theorem lifted (os : Os) (started : os.Started) (H : Type) (enc : TypeId × Value → H) :
    ReturnsInHanded {} Try.checked os 6 .any (Rows.signerOnceSpec.pre6 enc Try.prog Try.f6 Rows.signerOnceRow.domain false) (Rows.signerOnceSpec.post enc Try.prog Try.f6 false true false false) := by
  refine lift_sized (C := Try.checked) own started (by kernel_rfl) Try.func6 laidOut rfl (by kernel_rfl) (by kernel_rfl : Try.f6.resultTypes = #[4]) Try.underlying4
    (fun ds hds => by
      match ds, hds with
      | [d0, d1, d2], _ => exact ⟨rfl, rfl, rfl⟩)
    (ChangeSpec.witness6 (enc := enc) (C := Try.checked) false ⟨#[], #[.int .u16 0, .int .u8 0, .slice none 0 0], []⟩ 8 (by kernel_rfl) (by kernel_rfl) (by kernel_rfl) (by kernel_rfl)) ?_
  intro W base args ds p hval hA hsz
  have hval : ∀ (j : Nat) t v, Try.f6.params[j]? = some t → args[j]? = some v → Value.okWide Try.prog W .any base t v := hval
  have hA : DataW.TrodAll enc Try.prog W 0 (fun _ => true) true Try.f6.params.toList args.toList ds p := hA
  have hsz : (DataW.weightsEach Try.prog Try.f6.params.toList ds).all (· ≤ reachBytes) = true := hsz
  rw [Try.params6] at hA hval hsz
  obtain ⟨v0, v1, v2, d0, d1, d2, p0, p1, p2, rfl, rfl, rfl, h0, h1, h2⟩ := trodAll_three hA
  obtain ⟨hw0, hsz⟩ := weights_cons hsz
  obtain ⟨hw1, hsz⟩ := weights_cons hsz
  have hw2 := (weights_cons hsz).1
  obtain ⟨x0, rfl, rfl, rfl, wf0⟩ := open_int Try.underlying55 (hval 0 55 v0 rfl rfl) h0
  have wf0 := wf_u16 wf0
  obtain ⟨x1, rfl, rfl, rfl, wf1⟩ := open_int Try.underlying5 (hval 1 5 v1 rfl rfl) h1
  have wf1 := wf_u8 wf1
  obtain ⟨a2, len2, cap2, ds2, rfl, hc2, hD2⟩ := open_deeds15 (hval 2 56 v2 rfl rfl) h2
  exact signerOnce_any x0 x1 a2 len2 cap2 ds2 W wf0 wf1 hD2 (by have := hD2.le; omega)

theorem over : Rows.signerOnceRow.holds Try.pinned (OpenSpec.ofChange Rows.signerOnceSpec) :=
  OpenClaim.holds_of_wide 6 Try.f6 rfl rfl rfl rfl rfl rfl rfl ⟨rfl, rfl, rfl, rfl, rfl⟩ rfl rfl rfl rfl rfl (by kernel_rfl) Try.func6 (by kernel_rfl)
    (of_decide_eq_true (by kernel_rfl)) (by unfold Func.isWrapper; first | (rw [if_pos (by decide +kernel)]; kernel_rfl) | (rw [if_neg (by decide +kernel)]; exact ⟨rfl, rfl⟩))
    (fun os started H enc _ => lifted os started H enc)

theorem proved : Rows.SignerOnceSaid := over
#print axioms proved
end Go.Proofs.Ytmpgnpkodapidaa.signerOnce
