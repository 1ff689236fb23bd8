/-
  LogRoots returns true for every input, and leaves all that was there. No condition beside the package's tables, which the card ties to the program's text.
-/
import Derived.Test.YthaicocfbmpnmaaDoorLMFrame
import Derived.Test.YthaicocfbmpnmaaDoorLLogG
namespace Go.Proofs.YthaicocfbmpnmaaDoor.logRoots
open Go.ChangeShapes Go.WideShapes Go.ChangeAt Go.RowKit

set_option maxRecDepth 100000 in
theorem lifted (os : Os) (started : os.Started) (H : Type) (enc : TypeId × Value → H) :
    ReturnsInHanded {} Tryd.checked os 9 .any (fun w args => (Rows.logRootsSpec.pre enc Tryd.prog Tryd.f9 [] false w args ∧ laidMetH Tryd.prog laid2 w) ∧ sizedMet enc Tryd.prog Tryd.f9 (OpenSpec.ofChange Rows.logRootsSpec) false w args) (Rows.logRootsSpec.post enc Tryd.prog Tryd.f9 false true false false) := by
  refine lift_tied (conds := []) started (by kernel_rfl) Tryd.func9 rfl (by kernel_rfl) (by kernel_rfl : Tryd.f9.resultTypes = #[4]) Tryd.underlying4
    (fun ds hds => by
      match ds, hds with
      | [d0, d1, d2], _ => exact ⟨rfl, rfl, rfl⟩)
    (ChangeSpec.witness_shaped (enc := enc) (C := Tryd.checked) (os := os) (X := fun w _ => laidMetH Tryd.prog laid2 w) false (World.doorLaid Tryd.prog 19 os) #[.slice none 0 0, .int .i64 0, .int .i64 0] 8 rfl (World.shaped_of_RefB (by kernel_rfl) (by kernel_rfl)) (by kernel_rfl) (by kernel_rfl) (by kernel_rfl) (door_met os _)) ?_
  intro W base args ds p hval hA hsz tab
  have hval : ∀ (j : Nat) t v, Tryd.f9.params[j]? = some t → args[j]? = some v → Value.okWide Tryd.prog W .any base t v := hval
  have hA : DataW.TrodAll enc Tryd.prog W 0 (fun _ => true) true Tryd.f9.params.toList args.toList ds p := hA
  have hsz : (DataW.weightsEach Tryd.prog Tryd.f9.params.toList ds).all (· ≤ reachBytes) = true := hsz
  rw [Tryd.params9] at hA hval hsz
  obtain ⟨v0, v1, v2, d0, d1, d2, p0, p1, p2, rfl, rfl, rfl, h0, h1, h2⟩ := trodAll_three hA
  obtain ⟨hw0, hsz⟩ := weights_cons hsz
  obtain ⟨hw1, hsz⟩ := weights_cons hsz
  have hw2 := (weights_cons hsz).1
  obtain ⟨a0, len0, cap0, ts0, rfl, hT0, hR0⟩ := open_texts Tryd.underlying58 Tryd.underlying67 Tryd.underlying5 (by kernel_rfl) (by kernel_rfl) (hval 0 58 v0 rfl rfl) h0
  have hR0 := hR0 (by kernel_rfl) (by kernel_rfl) hw0
  obtain ⟨x1, rfl, rfl, rfl, wf1⟩ := open_int Tryd.underlying3 (hval 1 3 v1 rfl rfl) h1
  obtain ⟨x2, rfl, rfl, rfl, wf2⟩ := open_int Tryd.underlying3 (hval 2 3 v2 rfl rfl) h2
  rcases (show (40 < len0 ∧ len0 ≤ 200) ∨ 300 < len0 ∨ (200 < len0 ∧ len0 ≤ 300) ∨ len0 ≤ 40 by omega) with ⟨hq, hq2⟩ | hq | ⟨hq, hq2⟩ | hq
  · exact logRoots_mid a0 len0 cap0 x1 x2 W hq hq2 tab
  · exact logRoots_big a0 len0 cap0 x1 x2 W hq tab
  · exact logRoots_full a0 len0 cap0 x1 x2 W hq hq2 tab
  · cases ht : fewB ts0 2000 with
    | false => exact logRoots_long a0 len0 cap0 x1 x2 W ts0 hT0 hR0.2 hq ht tab
    | true =>
      rcases (show x1 < 0 ∨ (¬ x1 < 0 ∧ (len0 : Int) ≤ x1) ∨ (0 ≤ x1 ∧ x1 < len0) by omega) with hi | ⟨hi0, hi⟩ | ⟨hi0, hi⟩
      · rcases (show x2 < 1 ∨ (¬ x2 < 1 ∧ (len0 : Int) < x2) ∨ (1 ≤ x2 ∧ x2 ≤ len0) by omega) with hm | ⟨hm0, hm⟩ | ⟨hm0, hm⟩
        · exact logRoots_low_low a0 len0 cap0 x1 x2 W ts0 hT0 hR0.2 hq ht hi hm tab
        · exact logRoots_low_high a0 len0 cap0 x1 x2 W ts0 hT0 hR0.2 hq ht hi hm0 hm tab
        · obtain ⟨m, rfl⟩ := Int.eq_ofNat_of_zero_le (show 0 ≤ x2 by omega)
          exact logRoots_low_good a0 len0 cap0 x1 m W ts0 hT0 hR0.2 hq ht hi (by omega) (by omega) tab
      · rcases (show x2 < 1 ∨ (¬ x2 < 1 ∧ (len0 : Int) < x2) ∨ (1 ≤ x2 ∧ x2 ≤ len0) by omega) with hm | ⟨hm0, hm⟩ | ⟨hm0, hm⟩
        · exact logRoots_high_low a0 len0 cap0 x1 x2 W ts0 hT0 hR0.2 hq ht hi0 hi hm tab
        · exact logRoots_high_high a0 len0 cap0 x1 x2 W ts0 hT0 hR0.2 hq ht hi0 hi hm0 hm tab
        · obtain ⟨m, rfl⟩ := Int.eq_ofNat_of_zero_le (show 0 ≤ x2 by omega)
          exact logRoots_high_good a0 len0 cap0 x1 m W ts0 hT0 hR0.2 hq ht hi0 hi (by omega) (by omega) tab
      · obtain ⟨i, rfl⟩ := Int.eq_ofNat_of_zero_le hi0
        rcases (show x2 < 1 ∨ (¬ x2 < 1 ∧ (len0 : Int) < x2) ∨ (1 ≤ x2 ∧ x2 ≤ len0) by omega) with hm | ⟨hm0, hm⟩ | ⟨hm0, hm⟩
        · exact logRoots_good_low a0 len0 cap0 i x2 W ts0 hT0 hR0.2 hq ht (by omega) hm tab
        · exact logRoots_good_high a0 len0 cap0 i x2 W ts0 hT0 hR0.2 hq ht (by omega) hm0 hm tab
        · obtain ⟨m, rfl⟩ := Int.eq_ofNat_of_zero_le (show 0 ≤ x2 by omega)
          exact logRoots_good_good a0 len0 cap0 i m W ts0 hT0 hR0.2 hq ht (by omega) (by omega) (by omega) tab

theorem over : Rows.logRootsRow.holds Tryd.pinned (OpenSpec.ofChange Rows.logRootsSpec) :=
  OpenClaim.holds_of_wide 9 Tryd.f9 rfl rfl rfl rfl rfl rfl rfl ⟨rfl, rfl, rfl, rfl, rfl⟩ rfl rfl rfl rfl rfl (by kernel_rfl) Tryd.func9 (by kernel_rfl)
    (of_decide_eq_true (by kernel_rfl)) (by unfold Func.isWrapper; first | (rw [if_pos (by decide +kernel)]; kernel_rfl) | (rw [if_neg (by decide +kernel)]; exact ⟨rfl, rfl⟩))
    (fun os started H enc _ => lifted os started H enc)

theorem proved : Rows.LogRootsCardSaid :=
  Claim7.holds_tied_plain_at .later [] [.data, .data] true (true, "5baca2cb02af66bda0e41110824c78fd8bf850e94957888c8c7ca3d1dd429cba") false
    over (fun _ h => by cases h) (by kernel_rfl) (fun _ h => by cases h) logRoots_row_tie rfl ⟨rfl, rfl⟩ (by kernel_rfl) rfl
    (fun f fn hf hfn => by
      obtain rfl : f = 9 := Option.some.inj ((show Tryd.prog.funcNamed Rows.logRootsRow.func = some 9 by kernel_rfl).symm.trans hf) |>.symm
      obtain rfl : fn = Tryd.f9 := (Option.some.inj (Tryd.func9.symm.trans hfn)).symm
      exact ⟨by kernel_rfl, fun j t ht => by
        rw [Tryd.params9] at ht
        have hm : t ∈ [58, 3, 3] := by simpa using Array.mem_of_getElem? ht
        have hall : ([58, 3, 3].all fun u => !Tryd.prog.wantsStandIn u) = true := by kernel_rfl
        exact (show Tryd.prog.wantsStandIn t = false by simpa using List.all_eq_true.1 hall t hm)⟩)
    (by kernel_rfl)
#print axioms proved
end Go.Proofs.YthaicocfbmpnmaaDoor.logRoots
