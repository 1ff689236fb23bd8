/-
  MacKeys returns true for every input, and leaves all that was there. No condition beside the package's tables, which the card ties to the program's text.
-/
import Derived.Test.YtkiaeepdpmcafaaDoorFrameT
import Derived.Test.YtkiaeepdpmcafaaDoorMacLaws2
namespace Go.Proofs.YtkiaeepdpmcafaaDoor.macKeys
open Go.ChangeShapes Go.WideShapes Go.ChangeAt Go.RowKit

set_option maxRecDepth 100000 in
theorem lifted (os : Os) (started : os.Started) (H : Type) (enc : TypeId × Value → H) :
    ReturnsInHanded {} Tryd.checked os 7 .any (fun w args => (Rows.macKeysSpec.pre enc Tryd.prog Tryd.f7 [] false w args ∧ laidMetH Tryd.prog laid2 w) ∧ sizedMet enc Tryd.prog Tryd.f7 (OpenSpec.ofChange Rows.macKeysSpec) false w args) (Rows.macKeysSpec.post enc Tryd.prog Tryd.f7 false true false false) := by
  refine lift_tied (conds := []) started (by kernel_rfl) Tryd.func7 rfl (by kernel_rfl) (by kernel_rfl : Tryd.f7.resultTypes = #[4]) Tryd.underlying4
    (fun ds hds => by
      match ds, hds with
      | [d0, d1, d2], _ => exact ⟨rfl, rfl, rfl⟩)
    (ChangeSpec.witness_shaped (enc := enc) (C := Tryd.checked) (os := os) (X := fun w _ => laidMetH Tryd.prog laid2 w) false (World.doorLaid Tryd.prog 19 os) #[.slice none 0 0, .slice none 0 0, .int .u8 0] 8 rfl (World.shaped_of_RefB (by kernel_rfl) (by kernel_rfl)) (by kernel_rfl) (by kernel_rfl) (by kernel_rfl) (door_met os _)) ?_
  intro W base args ds p hval hA hsz tab
  have hval : ∀ (j : Nat) t v, Tryd.f7.params[j]? = some t → args[j]? = some v → Value.okWide Tryd.prog W .any base t v := hval
  have hA : DataW.TrodAll enc Tryd.prog W 0 (fun _ => true) true Tryd.f7.params.toList args.toList ds p := hA
  have hsz : (DataW.weightsEach Tryd.prog Tryd.f7.params.toList ds).all (· ≤ reachBytes) = true := hsz
  rw [Tryd.params7] at hA hval hsz
  obtain ⟨v0, v1, v2, d0, d1, d2, p0, p1, p2, rfl, rfl, rfl, h0, h1, h2⟩ := trodAll_three hA
  obtain ⟨hw0, hsz⟩ := weights_cons hsz
  obtain ⟨hw1, hsz⟩ := weights_cons hsz
  have hw2 := (weights_cons hsz).1
  obtain ⟨a0, len0, cap0, bs0, rfl, hT0, hR0⟩ := open_text Tryd.underlying29 Tryd.underlying5 (by kernel_rfl) (hval 0 29 v0 rfl rfl) h0
  have hR0 := hR0 (by kernel_rfl) hw0
  obtain ⟨a1, len1, cap1, bs1, rfl, hT1, hR1⟩ := open_text Tryd.underlying29 Tryd.underlying5 (by kernel_rfl) (hval 1 29 v1 rfl rfl) h1
  have hR1 := hR1 (by kernel_rfl) hw1
  obtain ⟨x2, rfl, rfl, rfl, wf2⟩ := open_int Tryd.underlying5 (hval 2 5 v2 rfl rfl) h2
  have wf2 := wf_u8 wf2
  by_cases h1 : len0 ≤ 1000
  · by_cases h2 : len1 ≤ 1000
    · by_cases h3 : len0 ≤ 64
      · exact macKeys_small a0 len0 cap0 bs0 a1 len1 cap1 bs1 x2 W tab hT0 hT1 h2 h3 wf2
      · exact macKeys_big a0 len0 cap0 bs0 a1 len1 cap1 bs1 x2 W tab hT0 hT1 h1 h2 (by omega)
    · exact macKeys_long2 a0 len0 cap0 bs0 a1 len1 cap1 bs1 x2 W tab hT0 hT1 h1 (by omega)
  · exact macKeys_long a0 len0 cap0 bs0 a1 len1 cap1 bs1 x2 W tab hT0 hT1 (by omega)

theorem over : Rows.macKeysRow.holds Tryd.pinned (OpenSpec.ofChange Rows.macKeysSpec) :=
  OpenClaim.holds_of_wide 7 Tryd.f7 rfl rfl rfl rfl rfl rfl rfl ⟨rfl, rfl, rfl, rfl, rfl⟩ rfl rfl rfl rfl rfl (by kernel_rfl) Tryd.func7 (by kernel_rfl)
    (of_decide_eq_true (by kernel_rfl)) (by unfold Func.isWrapper; first | (rw [if_pos (by decide +kernel)]; kernel_rfl) | (rw [if_neg (by decide +kernel)]; exact ⟨rfl, rfl⟩))
    (fun os started H enc _ => lifted os started H enc)

theorem proved : Rows.MacKeysCardSaid :=
  Claim7.holds_tied_plain_at .later [] [.data, .data] true (true, "dcd9bc4b9cdbc8b4050e4ced7aa4ae2acb6720869895b9499e61431c42bb3d58") false
    over (fun _ h => by cases h) (by kernel_rfl) (fun _ h => by cases h) macKeys_row_tie rfl ⟨rfl, rfl⟩ (by kernel_rfl) rfl
    (fun f fn hf hfn => by
      obtain rfl : f = 7 := Option.some.inj ((show Tryd.prog.funcNamed Rows.macKeysRow.func = some 7 by kernel_rfl).symm.trans hf) |>.symm
      obtain rfl : fn = Tryd.f7 := (Option.some.inj (Tryd.func7.symm.trans hfn)).symm
      exact ⟨by kernel_rfl, fun j t ht => by
        rw [Tryd.params7] at ht
        have hm : t ∈ [29, 5] := by
          have := Array.mem_of_getElem? ht
          simp at this ⊢
          omega
        have hall : ([29, 5].all fun u => !Tryd.prog.wantsStandIn u) = true := by kernel_rfl
        exact (show Tryd.prog.wantsStandIn t = false by simpa using List.all_eq_true.1 hall t hm)⟩)
    (by kernel_rfl)
#print axioms proved
end Go.Proofs.YtkiaeepdpmcafaaDoor.macKeys
