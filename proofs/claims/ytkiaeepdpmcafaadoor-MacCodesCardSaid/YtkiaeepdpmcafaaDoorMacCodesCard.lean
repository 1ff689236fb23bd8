/-
  MacCodes returns true for every input, and leaves all that was there. No condition beside the package's tables, which the card ties to the program's text.
-/
import Derived.Test.YtkiaeepdpmcafaaDoorFrameT
import Derived.Test.YtkiaeepdpmcafaaDoorMacLaws2
namespace Go.Proofs.YtkiaeepdpmcafaaDoor.macCodes
open Go.ChangeShapes Go.WideShapes Go.ChangeAt Go.RowKit

set_option maxRecDepth 100000 in
theorem lifted (os : Os) (started : os.Started) (H : Type) (enc : TypeId × Value → H) :
    ReturnsInHanded {} Tryd.checked os 6 .any (fun w args => (Rows.macCodesSpec.pre enc Tryd.prog Tryd.f6 [] false w args ∧ laidMetH Tryd.prog laid2 w) ∧ sizedMet enc Tryd.prog Tryd.f6 (OpenSpec.ofChange Rows.macCodesSpec) false w args) (Rows.macCodesSpec.post enc Tryd.prog Tryd.f6 false true false false) := by
  refine lift_tied (conds := []) started (by kernel_rfl) Tryd.func6 rfl (by kernel_rfl) (by kernel_rfl : Tryd.f6.resultTypes = #[4]) Tryd.underlying4
    (fun ds hds => by
      match ds, hds with
      | [d0, d1, d2], _ => exact ⟨rfl, rfl, rfl⟩)
    (ChangeSpec.witness_shaped (enc := enc) (C := Tryd.checked) (os := os) (X := fun w _ => laidMetH Tryd.prog laid2 w) false (World.doorLaid Tryd.prog 19 os) #[.slice none 0 0, .slice none 0 0, .slice none 0 0] 8 rfl (World.shaped_of_RefB (by kernel_rfl) (by kernel_rfl)) (by kernel_rfl) (by kernel_rfl) (by kernel_rfl) (door_met os _)) ?_
  intro W base args ds p hval hA hsz tab
  have hval : ∀ (j : Nat) t v, Tryd.f6.params[j]? = some t → args[j]? = some v → Value.okWide Tryd.prog W .any base t v := hval
  have hA : DataW.TrodAll enc Tryd.prog W 0 (fun _ => true) true Tryd.f6.params.toList args.toList ds p := hA
  have hsz : (DataW.weightsEach Tryd.prog Tryd.f6.params.toList ds).all (· ≤ reachBytes) = true := hsz
  rw [Tryd.params6] at hA hval hsz
  obtain ⟨v0, v1, v2, d0, d1, d2, p0, p1, p2, rfl, rfl, rfl, h0, h1, h2⟩ := trodAll_three hA
  obtain ⟨hw0, hsz⟩ := weights_cons hsz
  obtain ⟨hw1, hsz⟩ := weights_cons hsz
  have hw2 := (weights_cons hsz).1
  obtain ⟨a0, len0, cap0, bs0, rfl, hT0, hR0⟩ := open_text Tryd.underlying29 Tryd.underlying5 (by kernel_rfl) (hval 0 29 v0 rfl rfl) h0
  have hR0 := hR0 (by kernel_rfl) hw0
  obtain ⟨a1, len1, cap1, ts1, rfl, hT1, hR1⟩ := open_texts Tryd.underlying22 Tryd.underlying29 Tryd.underlying5 (by kernel_rfl) (by kernel_rfl) (hval 1 22 v1 rfl rfl) h1
  have hR1 := hR1 (by kernel_rfl) (by kernel_rfl) hw1
  obtain ⟨a2, len2, cap2, bs2, rfl, hT2, hR2⟩ := open_text Tryd.underlying29 Tryd.underlying5 (by kernel_rfl) (hval 2 29 v2 rfl rfl) h2
  have hR2 := hR2 (by kernel_rfl) hw2
  by_cases h1 : len0 ≤ 1000
  · by_cases h2 : len2 ≤ 1000
    · cases hf : fewB ts1 1000 with
      | true => exact macCodes_walk a0 len0 cap0 bs0 a1 len1 cap1 ts1 a2 len2 cap2 bs2 W tab hT0 hT1 hT2 hR1.2 h1 h2 hf
      | false => exact macCodes_not a0 len0 cap0 bs0 a1 len1 cap1 ts1 a2 len2 cap2 bs2 W tab hT0 hT1 hT2 hR1.2 h1 h2 hf
    · exact macCodes_long2 a0 len0 cap0 bs0 a1 len1 cap1 a2 len2 cap2 bs2 W tab hT0 hT2 h1 (by omega)
  · exact macCodes_long a0 len0 cap0 bs0 a1 len1 cap1 a2 len2 cap2 bs2 W tab hT0 hT2 (by omega)

theorem over : Rows.macCodesRow.holds Tryd.pinned (OpenSpec.ofChange Rows.macCodesSpec) :=
  OpenClaim.holds_of_wide 6 Tryd.f6 rfl rfl rfl rfl rfl rfl rfl ⟨rfl, rfl, rfl, rfl, rfl⟩ rfl rfl rfl rfl rfl (by kernel_rfl) Tryd.func6 (by kernel_rfl)
    (of_decide_eq_true (by kernel_rfl)) (by unfold Func.isWrapper; first | (rw [if_pos (by decide +kernel)]; kernel_rfl) | (rw [if_neg (by decide +kernel)]; exact ⟨rfl, rfl⟩))
    (fun os started H enc _ => lifted os started H enc)

theorem proved : Rows.MacCodesCardSaid :=
  Claim7.holds_tied_plain_at .later [] [.data, .data] true (true, "dcd9bc4b9cdbc8b4050e4ced7aa4ae2acb6720869895b9499e61431c42bb3d58") false
    over (fun _ h => by cases h) (by kernel_rfl) (fun _ h => by cases h) macCodes_row_tie rfl ⟨rfl, rfl⟩ (by kernel_rfl) rfl
    (fun f fn hf hfn => by
      obtain rfl : f = 6 := Option.some.inj ((show Tryd.prog.funcNamed Rows.macCodesRow.func = some 6 by kernel_rfl).symm.trans hf) |>.symm
      obtain rfl : fn = Tryd.f6 := (Option.some.inj (Tryd.func6.symm.trans hfn)).symm
      exact ⟨by kernel_rfl, fun j t ht => by
        rw [Tryd.params6] at ht
        have hm : t ∈ [29, 22, 29] := by simpa using Array.mem_of_getElem? ht
        have hall : ([29, 22, 29].all fun u => !Tryd.prog.wantsStandIn u) = true := by kernel_rfl
        exact (show Tryd.prog.wantsStandIn t = false by simpa using List.all_eq_true.1 hall t hm)⟩)
    (by kernel_rfl)
#print axioms proved
end Go.Proofs.YtkiaeepdpmcafaaDoor.macCodes
