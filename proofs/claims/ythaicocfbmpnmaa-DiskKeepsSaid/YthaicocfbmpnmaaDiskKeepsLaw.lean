/-
  DiskKeeps returns true for every input, and leaves all that was there. No condition.
-/
import Derived.Test.YthaicocfbmpnmaaRows
import Derived.Test.YthaicocfbmpnmaaFrame
import Derived.Test.YthaicocfbmpnmaaDkH
namespace Go.Proofs.Ythaicocfbmpnmaa.diskKeeps
open Go.ChangeShapes Go.WideShapes Go.ChangeAt Go.RowKit

theorem own : ownKnob Try.prog.godebug = none := by kernel_rfl
theorem laidOut : laidOutB Try.prog = true := by kernel_rfl

set_option maxRecDepth 100000 in
theorem lifted (os : Os) (started : os.Started) (H : Type) (enc : TypeId × Value → H) :
    ReturnsInHanded {} Try.checked os 4 .any (Rows.diskKeepsSpec.pre6 enc Try.prog Try.f4 Rows.diskKeepsRow.domain false) (Rows.diskKeepsSpec.post enc Try.prog Try.f4 false true false false) := by
  refine lift_sized (C := Try.checked) own started (by kernel_rfl) Try.func4 laidOut rfl (by kernel_rfl) (by kernel_rfl : Try.f4.resultTypes = #[4]) Try.underlying4
    (fun ds hds => by
      match ds, hds with
      | [d0, d1, d2, d3, d4, d5], _ => exact ⟨rfl, rfl, rfl⟩)
    (ChangeSpec.witness6 (enc := enc) (C := Try.checked) false ⟨#[], #[.int .u8 0, .int .u8 0, .int .u8 0, .slice none 0 0, .slice none 0 0, .int .i64 0], []⟩ 8 (by kernel_rfl) (by kernel_rfl) (by kernel_rfl) (by kernel_rfl)) ?_
  intro W base args ds p hval hA hsz
  have hval : ∀ (j : Nat) t v, Try.f4.params[j]? = some t → args[j]? = some v → Value.okWide Try.prog W .any base t v := hval
  have hA : DataW.TrodAll enc Try.prog W 0 (fun _ => true) true Try.f4.params.toList args.toList ds p := hA
  have hsz : (DataW.weightsEach Try.prog Try.f4.params.toList ds).all (· ≤ reachBytes) = true := hsz
  rw [Try.params4] at hA hval hsz
  obtain ⟨v0, v1, v2, v3, v4, v5, d0, d1, d2, d3, d4, d5, p0, p1, p2, p3, p4, p5, rfl, rfl, rfl, h0, h1, h2, h3, h4, h5⟩ := trodAll_six hA
  obtain ⟨hw0, hsz⟩ := weights_cons hsz
  obtain ⟨hw1, hsz⟩ := weights_cons hsz
  obtain ⟨hw2, hsz⟩ := weights_cons hsz
  obtain ⟨hw3, hsz⟩ := weights_cons hsz
  obtain ⟨hw4, hsz⟩ := weights_cons hsz
  have hw5 := (weights_cons hsz).1
  obtain ⟨x0, rfl, rfl, rfl, wf0⟩ := open_int Try.underlying5 (hval 0 5 v0 rfl rfl) h0
  have wf0 := wf_u8 wf0
  obtain ⟨x1, rfl, rfl, rfl, wf1⟩ := open_int Try.underlying5 (hval 1 5 v1 rfl rfl) h1
  have wf1 := wf_u8 wf1
  obtain ⟨x2, rfl, rfl, rfl, wf2⟩ := open_int Try.underlying5 (hval 2 5 v2 rfl rfl) h2
  have wf2 := wf_u8 wf2
  obtain ⟨a3, len3, cap3, bs3, rfl, hT3, hR3⟩ := open_text Try.underlying31 Try.underlying5 (by kernel_rfl) (hval 3 31 v3 rfl rfl) h3
  have hR3 := hR3 (by kernel_rfl) hw3
  obtain ⟨a4, len4, cap4, bs4, rfl, hT4, hR4⟩ := open_text Try.underlying31 Try.underlying5 (by kernel_rfl) (hval 4 31 v4 rfl rfl) h4
  have hR4 := hR4 (by kernel_rfl) hw4
  obtain ⟨x5, rfl, rfl, rfl, wf5⟩ := open_int Try.underlying3 (hval 5 3 v5 rfl rfl) h5
  have hl3 := hT3.length
  have hl4 := hT4.length
  have hc3 := hT3.le
  have hc4 := hT4.le
  have hx5 := wf_i64 wf5
  exact diskKeeps_any x0 x1 x2 x5 a3 len3 cap3 bs3 a4 len4 cap4 bs4 W hT3 hT4 (by omega) (by omega) wf0 wf1 wf2 (by omega)

theorem over : Rows.diskKeepsRow.holds Try.pinned (OpenSpec.ofChange Rows.diskKeepsSpec) :=
  OpenClaim.holds_of_wide 4 Try.f4 rfl rfl rfl rfl rfl rfl rfl ⟨rfl, rfl, rfl, rfl, rfl⟩ rfl rfl rfl rfl rfl (by kernel_rfl) Try.func4 (by kernel_rfl)
    (of_decide_eq_true (by kernel_rfl)) (by unfold Func.isWrapper; first | (rw [if_pos (by decide +kernel)]; kernel_rfl) | (rw [if_neg (by decide +kernel)]; exact ⟨rfl, rfl⟩))
    (fun os started H enc _ => lifted os started H enc)

theorem proved : Rows.DiskKeepsSaid := over
#print axioms proved
end Go.Proofs.Ythaicocfbmpnmaa.diskKeeps
