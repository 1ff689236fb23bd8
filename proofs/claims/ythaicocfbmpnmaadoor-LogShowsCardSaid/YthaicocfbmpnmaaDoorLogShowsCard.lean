/-
  LogShows returns true for every input, and leaves all that was there. No condition beside the package's tables, which the card ties to the program's text.
-/
import Derived.Test.YthaicocfbmpnmaaDoorLMFrame
import Derived.Test.YthaicocfbmpnmaaDoorLLogP
namespace Go.Proofs.YthaicocfbmpnmaaDoor.logShows
open Go.ChangeShapes Go.WideShapes Go.ChangeAt Go.RowKit

set_option maxRecDepth 100000 in
theorem lifted (os : Os) (started : os.Started) (H : Type) (enc : TypeId × Value → H) :
    ReturnsInHanded {} Tryd.checked os 11 .any (fun w args => (Rows.logShowsSpec.pre enc Tryd.prog Tryd.f11 [] false w args ∧ laidMetH Tryd.prog laid2 w) ∧ sizedMet enc Tryd.prog Tryd.f11 (OpenSpec.ofChange Rows.logShowsSpec) false w args) (Rows.logShowsSpec.post enc Tryd.prog Tryd.f11 false true false false) := by
  refine lift_tied (conds := []) started (by kernel_rfl) Tryd.func11 rfl (by kernel_rfl) (by kernel_rfl : Tryd.f11.resultTypes = #[4]) Tryd.underlying4
    (fun ds hds => by
      match ds, hds with
      | [d0, d1, d2], _ => exact ⟨rfl, rfl, rfl⟩)
    (ChangeSpec.witness_shaped (enc := enc) (C := Tryd.checked) (os := os) (X := fun w _ => laidMetH Tryd.prog laid2 w) false (World.doorLaid Tryd.prog 19 os) #[.slice none 0 0, .int .u8 0, .int .u8 0] 8 rfl (World.shaped_of_RefB (by kernel_rfl) (by kernel_rfl)) (by kernel_rfl) (by kernel_rfl) (by kernel_rfl) (door_met os _)) ?_
  intro W base args ds p hval hA hsz tab
  have hval : ∀ (j : Nat) t v, Tryd.f11.params[j]? = some t → args[j]? = some v → Value.okWide Tryd.prog W .any base t v := hval
  have hA : DataW.TrodAll enc Tryd.prog W 0 (fun _ => true) true Tryd.f11.params.toList args.toList ds p := hA
  have hsz : (DataW.weightsEach Tryd.prog Tryd.f11.params.toList ds).all (· ≤ reachBytes) = true := hsz
  rw [Tryd.params11] at hA hval hsz
  obtain ⟨v0, v1, v2, d0, d1, d2, p0, p1, p2, rfl, rfl, rfl, h0, h1, h2⟩ := trodAll_three hA
  obtain ⟨hw0, hsz⟩ := weights_cons hsz
  obtain ⟨hw1, hsz⟩ := weights_cons hsz
  have hw2 := (weights_cons hsz).1
  obtain ⟨a0, len0, cap0, ts0, rfl, hT0, hR0⟩ := open_texts Tryd.underlying58 Tryd.underlying67 Tryd.underlying5 (by kernel_rfl) (by kernel_rfl) (hval 0 58 v0 rfl rfl) h0
  have hR0 := hR0 (by kernel_rfl) (by kernel_rfl) hw0
  obtain ⟨x1, rfl, rfl, rfl, wf1⟩ := open_int Tryd.underlying5 (hval 1 5 v1 rfl rfl) h1
  have wf1 := wf_u8 wf1
  obtain ⟨x2, rfl, rfl, rfl, wf2⟩ := open_int Tryd.underlying5 (hval 2 5 v2 rfl rfl) h2
  have wf2 := wf_u8 wf2
  obtain ⟨ha1, ha2⟩ := wf1
  obtain ⟨hf1, hf2⟩ := wf2
  rcases (show len0 = 0 ∨ 40 < len0 ∨ (1 ≤ len0 ∧ len0 ≤ 40) by omega) with hq | hq | ⟨hq, hq2⟩
  · exact logShows_none a0 len0 cap0 x1 x2 W hq tab
  · exact logShows_big a0 len0 cap0 x1 x2 W hq tab
  · cases ht : fewB ts0 2000 with
    | false => exact logShows_long a0 len0 cap0 x1 x2 W ts0 hT0 hR0.2 hq hq2 ht tab
    | true => exact logShows_good a0 len0 cap0 x1 x2 W ts0 hT0 hR0.2 hq hq2 ht ha1 ha2 hf1 hf2 tab

theorem over : Rows.logShowsRow.holds Tryd.pinned (OpenSpec.ofChange Rows.logShowsSpec) :=
  OpenClaim.holds_of_wide 11 Tryd.f11 rfl rfl rfl rfl rfl rfl rfl ⟨rfl, rfl, rfl, rfl, rfl⟩ rfl rfl rfl rfl rfl (by kernel_rfl) Tryd.func11 (by kernel_rfl)
    (of_decide_eq_true (by kernel_rfl)) (by unfold Func.isWrapper; first | (rw [if_pos (by decide +kernel)]; kernel_rfl) | (rw [if_neg (by decide +kernel)]; exact ⟨rfl, rfl⟩))
    (fun os started H enc _ => lifted os started H enc)

theorem proved : Rows.LogShowsCardSaid :=
  Claim7.holds_tied_plain_at .later [] [.data, .data] true (true, "5baca2cb02af66bda0e41110824c78fd8bf850e94957888c8c7ca3d1dd429cba") false
    over (fun _ h => by cases h) (by kernel_rfl) (fun _ h => by cases h) logShows_row_tie rfl ⟨rfl, rfl⟩ (by kernel_rfl) rfl
    (fun f fn hf hfn => by
      obtain rfl : f = 11 := Option.some.inj ((show Tryd.prog.funcNamed Rows.logShowsRow.func = some 11 by kernel_rfl).symm.trans hf) |>.symm
      obtain rfl : fn = Tryd.f11 := (Option.some.inj (Tryd.func11.symm.trans hfn)).symm
      exact ⟨by kernel_rfl, fun j t ht => by
        rw [Tryd.params11] at ht
        have hm : t ∈ [58, 5, 5] := by simpa using Array.mem_of_getElem? ht
        have hall : ([58, 5, 5].all fun u => !Tryd.prog.wantsStandIn u) = true := by kernel_rfl
        exact (show Tryd.prog.wantsStandIn t = false by simpa using List.all_eq_true.1 hall t hm)⟩)
    (by kernel_rfl)
#print axioms proved
end Go.Proofs.YthaicocfbmpnmaaDoor.logShows
