/-
  PackNumbers returns true for any number, any size and any bytes, and leaves all that was there. No condition.
-/
import Derived.Test.YtkiaeepdpmcafaaRows
import Derived.Test.YtkiaeepdpmcafaaFrame
import Derived.Test.YtkiaeepdpmcafaaOpens
import Derived.Test.YtkiaeepdpmcafaaNumbersShort
namespace Go.Proofs.Ytkiaeepdpmcafaa.packNumbers
open Go.ChangeShapes Go.WideShapes Go.ChangeAt Go.RowKit

theorem own : ownKnob Try.prog.godebug = none := by kernel_rfl
theorem laidOut : laidOutB Try.prog = true := by kernel_rfl

set_option maxRecDepth 100000 in
theorem lifted (os : Os) (started : os.Started) (H : Type) (enc : TypeId × Value → H) :
    ReturnsInHanded {} Try.checked os 10 .any (Rows.packNumbersSpec.pre6 enc Try.prog Try.f10 Rows.packNumbersRow.domain false) (Rows.packNumbersSpec.post enc Try.prog Try.f10 false true false false) := by
  refine lift_law (C := Try.checked) own started (by kernel_rfl) Try.func10 laidOut rfl (by kernel_rfl) (by kernel_rfl : Try.f10.resultTypes = #[4]) Try.underlying4
    (fun ds hds => by
      match ds, hds with
      | [a, b, c], _ => exact ⟨rfl, rfl, rfl⟩)
    (ChangeSpec.witness6 (enc := enc) (C := Try.checked) false ⟨#[], #[.int .u64 0, .int .i64 0, .slice none 0 0], []⟩ 8 (by kernel_rfl) (by kernel_rfl) (by kernel_rfl) (by kernel_rfl)) ?_
  intro W base args ds p hval hA
  have hval : ∀ (j : Nat) t v, Try.f10.params[j]? = some t → args[j]? = some v → Value.okWide Try.prog W .any base t v := hval
  have hA : DataW.TrodAll enc Try.prog W 0 (fun _ => true) true Try.f10.params.toList args.toList ds p := hA
  rw [Try.params10] at hA hval
  obtain ⟨v0, v1, v2, d0, d1, d2, p0, p1, p2, rfl, rfl, rfl, h0, h1, h2⟩ := trodAll_three hA
  obtain ⟨n, rfl, rfl, rfl, hn⟩ := open_int Try.underlying47 (hval 0 47 v0 rfl rfl) h0
  obtain ⟨s, rfl, rfl, rfl, _⟩ := open_int Try.underlying3 (hval 1 3 v1 rfl rfl) h1
  obtain ⟨a, len, cap, bs, rfl, hT⟩ := open_text Try.underlying56 Try.underlying5 (by kernel_rfl) (hval 2 56 v2 rfl rfl) h2
  have hn := wf_u64 hn
  have hmx := Nat.le_trans hT.le hT.max
  by_cases hlong : 100 < len
  · exact numbers_long n s a len cap W hlong hmx
  · by_cases h8 : 8 < len
    · rcases many_of s with ⟨hs, _⟩ | ⟨_, hs, _⟩ | ⟨_, _, k, rfl, hk, _⟩
      · exact numbers_mid_neg n s a len cap W hn.1 hn.2 hs hlong h8
      · exact numbers_mid_big n s a len cap W hn.1 hn.2 hs hlong h8
      · exact numbers_mid n k a len cap W hn.1 hn.2 hk hlong h8
    · exact numbers_short n s a len cap bs W hn.1 hn.2 (by omega) hT

theorem over : Rows.packNumbersRow.holds Try.pinned (OpenSpec.ofChange Rows.packNumbersSpec) :=
  OpenClaim.holds_of_wide 10 Try.f10 rfl rfl rfl rfl rfl rfl rfl ⟨rfl, rfl, rfl, rfl, rfl⟩ rfl rfl rfl rfl rfl (by kernel_rfl) Try.func10 (by kernel_rfl)
    (of_decide_eq_true (by kernel_rfl)) (by unfold Func.isWrapper; first | (rw [if_pos (by decide +kernel)]; kernel_rfl) | (rw [if_neg (by decide +kernel)]; exact ⟨rfl, rfl⟩))
    (fun os started H enc _ => lifted os started H enc)

theorem proved : Rows.PackNumbersSaid := over
#print axioms proved
end Go.Proofs.Ytkiaeepdpmcafaa.packNumbers
