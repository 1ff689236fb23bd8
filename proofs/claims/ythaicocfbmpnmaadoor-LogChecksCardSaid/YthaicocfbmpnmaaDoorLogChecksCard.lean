/-
  LogChecks returns true for every input, and leaves all that was there. No condition beside the package's tables, which the card ties to the program's text.
-/
import Derived.Test.YthaicocfbmpnmaaDoorLMFrame
import Derived.Test.YthaicocfbmpnmaaDoorLLogS
namespace Go.Proofs.YthaicocfbmpnmaaDoor.logChecks
open Go.ChangeShapes Go.WideShapes Go.ChangeAt Go.RowKit

set_option maxRecDepth 100000 in
theorem lifted (os : Os) (started : os.Started) (H : Type) (enc : TypeId × Value → H) :
    ReturnsInHanded {} Tryd.checked os 10 .any (fun w args => (Rows.logChecksSpec.pre enc Tryd.prog Tryd.f10 [] false w args ∧ laidMetH Tryd.prog laid2 w) ∧ sizedMet enc Tryd.prog Tryd.f10 (OpenSpec.ofChange Rows.logChecksSpec) false w args) (Rows.logChecksSpec.post enc Tryd.prog Tryd.f10 false true false false) := by
  refine lift_tied (conds := []) started (by kernel_rfl) Tryd.func10 rfl (by kernel_rfl) (by kernel_rfl : Tryd.f10.resultTypes = #[4]) Tryd.underlying4
    (fun ds hds => by
      match ds, hds with
      | [d0, d1, d2, d3, d4, d5], _ => exact ⟨rfl, rfl, rfl⟩)
    (ChangeSpec.witness_shaped (enc := enc) (C := Tryd.checked) (os := os) (X := fun w _ => laidMetH Tryd.prog laid2 w) false (World.doorLaid Tryd.prog 19 os) #[.agg #[.int .u8 0, .int .u8 0, .int .u8 0, .int .u8 0, .int .u8 0, .int .u8 0, .int .u8 0, .int .u8 0, .int .u8 0, .int .u8 0, .int .u8 0, .int .u8 0, .int .u8 0, .int .u8 0, .int .u8 0, .int .u8 0, .int .u8 0, .int .u8 0, .int .u8 0, .int .u8 0, .int .u8 0, .int .u8 0, .int .u8 0, .int .u8 0, .int .u8 0, .int .u8 0, .int .u8 0, .int .u8 0, .int .u8 0, .int .u8 0, .int .u8 0, .int .u8 0], .agg #[.int .u8 0, .int .u8 0, .int .u8 0, .int .u8 0, .int .u8 0, .int .u8 0, .int .u8 0, .int .u8 0, .int .u8 0, .int .u8 0, .int .u8 0, .int .u8 0, .int .u8 0, .int .u8 0, .int .u8 0, .int .u8 0, .int .u8 0, .int .u8 0, .int .u8 0, .int .u8 0, .int .u8 0, .int .u8 0, .int .u8 0, .int .u8 0, .int .u8 0, .int .u8 0, .int .u8 0, .int .u8 0, .int .u8 0, .int .u8 0, .int .u8 0, .int .u8 0], .int .i64 0, .int .i64 0, .slice none 0 0, .slice none 0 0] 8 rfl (World.shaped_of_RefB (by kernel_rfl) (by kernel_rfl)) (by kernel_rfl) (by kernel_rfl) (by kernel_rfl) (door_met os _)) ?_
  intro W base args ds p hval hA hsz tab
  have hval : ∀ (j : Nat) t v, Tryd.f10.params[j]? = some t → args[j]? = some v → Value.okWide Tryd.prog W .any base t v := hval
  have hA : DataW.TrodAll enc Tryd.prog W 0 (fun _ => true) true Tryd.f10.params.toList args.toList ds p := hA
  have hsz : (DataW.weightsEach Tryd.prog Tryd.f10.params.toList ds).all (· ≤ reachBytes) = true := hsz
  rw [Tryd.params10] at hA hval hsz
  obtain ⟨v0, v1, v2, v3, v4, v5, d0, d1, d2, d3, d4, d5, p0, p1, p2, p3, p4, p5, rfl, rfl, rfl, h0, h1, h2, h3, h4, h5⟩ := trodAll_six hA
  obtain ⟨hw0, hsz⟩ := weights_cons hsz
  obtain ⟨hw1, hsz⟩ := weights_cons hsz
  obtain ⟨hw2, hsz⟩ := weights_cons hsz
  obtain ⟨hw3, hsz⟩ := weights_cons hsz
  obtain ⟨hw4, hsz⟩ := weights_cons hsz
  have hw5 := (weights_cons hsz).1
  obtain ⟨xs0, hx0, rfl, wf0⟩ := open_array_ints Tryd.underlying23 Tryd.underlying5 (by kernel_rfl) (by kernel_rfl) (hval 0 23 v0 rfl rfl) h0
  have wf0 := fun x h => wf_u8 (wf0 x h)
  obtain ⟨xs1, hx1, rfl, wf1⟩ := open_array_ints Tryd.underlying23 Tryd.underlying5 (by kernel_rfl) (by kernel_rfl) (hval 1 23 v1 rfl rfl) h1
  have wf1 := fun x h => wf_u8 (wf1 x h)
  obtain ⟨x2, rfl, rfl, rfl, wf2⟩ := open_int Tryd.underlying3 (hval 2 3 v2 rfl rfl) h2
  obtain ⟨x3, rfl, rfl, rfl, wf3⟩ := open_int Tryd.underlying3 (hval 3 3 v3 rfl rfl) h3
  obtain ⟨a4, len4, cap4, bs4, rfl, hT4, hR4⟩ := open_text Tryd.underlying67 Tryd.underlying5 (by kernel_rfl) (hval 4 67 v4 rfl rfl) h4
  have hR4 := hR4 (by kernel_rfl) hw4
  obtain ⟨a5, len5, cap5, ds5, rfl, hD5⟩ := open_digs Tryd.underlying27 Tryd.underlying23 Tryd.underlying5 (by kernel_rfl) (by kernel_rfl) (hval 5 27 v5 rfl rfl) h5
  rcases (show 1000 < len4 ∨ (len4 ≤ 1000 ∧ 40 < len5) ∨ (len4 ≤ 1000 ∧ len5 ≤ 40) by omega) with hq | ⟨hq, hq2⟩ | ⟨hq, hq2⟩
  · exact logChecks_text xs0 xs1 x2 x3 a4 len4 cap4 a5 len5 cap5 W ⟨hx0, wf0⟩ ⟨hx1, wf1⟩ hq tab
  · exact logChecks_way xs0 xs1 x2 x3 a4 len4 cap4 a5 len5 cap5 W ⟨hx0, wf0⟩ ⟨hx1, wf1⟩ hq hq2 tab
  · exact logChecks_good xs0 xs1 x2 x3 a4 len4 cap4 a5 len5 cap5 W ⟨hx0, wf0⟩ ⟨hx1, wf1⟩ bs4 ds5 hT4 hD5 hq hq2 tab

theorem over : Rows.logChecksRow.holds Tryd.pinned (OpenSpec.ofChange Rows.logChecksSpec) :=
  OpenClaim.holds_of_wide 10 Tryd.f10 rfl rfl rfl rfl rfl rfl rfl ⟨rfl, rfl, rfl, rfl, rfl⟩ rfl rfl rfl rfl rfl (by kernel_rfl) Tryd.func10 (by kernel_rfl)
    (of_decide_eq_true (by kernel_rfl)) (by unfold Func.isWrapper; first | (rw [if_pos (by decide +kernel)]; kernel_rfl) | (rw [if_neg (by decide +kernel)]; exact ⟨rfl, rfl⟩))
    (fun os started H enc _ => lifted os started H enc)

theorem proved : Rows.LogChecksCardSaid :=
  Claim7.holds_tied_plain_at .later [] [.data, .data] true (true, "5baca2cb02af66bda0e41110824c78fd8bf850e94957888c8c7ca3d1dd429cba") false
    over (fun _ h => by cases h) (by kernel_rfl) (fun _ h => by cases h) logChecks_row_tie rfl ⟨rfl, rfl⟩ (by kernel_rfl) rfl
    (fun f fn hf hfn => by
      obtain rfl : f = 10 := Option.some.inj ((show Tryd.prog.funcNamed Rows.logChecksRow.func = some 10 by kernel_rfl).symm.trans hf) |>.symm
      obtain rfl : fn = Tryd.f10 := (Option.some.inj (Tryd.func10.symm.trans hfn)).symm
      exact ⟨by kernel_rfl, fun j t ht => by
        rw [Tryd.params10] at ht
        have hm : t ∈ [23, 23, 3, 3, 67, 27] := by simpa using Array.mem_of_getElem? ht
        have hall : ([23, 23, 3, 3, 67, 27].all fun u => !Tryd.prog.wantsStandIn u) = true := by kernel_rfl
        exact (show Tryd.prog.wantsStandIn t = false by simpa using List.all_eq_true.1 hall t hm)⟩)
    (by kernel_rfl)
#print axioms proved
end Go.Proofs.YthaicocfbmpnmaaDoor.logChecks
