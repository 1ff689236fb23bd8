/-
  TreeMeets returns true for every input, and leaves all that was there. No condition beside the package's tables, which the card ties to the program's text.
-/
import Derived.Test.YtjkfbeillmeomaaDoorMFrame
import Derived.Test.YtjkfbeillmeomaaDoorPBuild
namespace Go.Proofs.YtjkfbeillmeomaaDoor.treeMeets
open Go.ChangeShapes Go.WideShapes Go.ChangeAt Go.RowKit

set_option maxRecDepth 100000 in
theorem lifted (os : Os) (started : os.Started) (H : Type) (enc : TypeId × Value → H) :
    ReturnsInHanded {} Tryd.checked os 11 .any (fun w args => (Rows.treeMeetsSpec.pre enc Tryd.prog Tryd.f11 [] false w args ∧ laidMetH Tryd.prog laid2 w) ∧ sizedMet enc Tryd.prog Tryd.f11 (OpenSpec.ofChange Rows.treeMeetsSpec) false w args) (Rows.treeMeetsSpec.post enc Tryd.prog Tryd.f11 false true false false) := by
  refine lift_tied (conds := []) started (by kernel_rfl) Tryd.func11 rfl (by kernel_rfl) (by kernel_rfl : Tryd.f11.resultTypes = #[4]) Tryd.underlying4
    (fun ds hds => by
      match ds, hds with
      | [d0, d1, d2, d3, d4, d5], _ => exact ⟨rfl, rfl, rfl⟩)
    (ChangeSpec.witness_shaped (enc := enc) (C := Tryd.checked) (os := os) (X := fun w _ => laidMetH Tryd.prog laid2 w) false (World.doorLaid Tryd.prog 19 os) #[.agg #[.int .u8 0, .int .u8 0, .int .u8 0, .int .u8 0, .int .u8 0, .int .u8 0, .int .u8 0, .int .u8 0, .int .u8 0, .int .u8 0, .int .u8 0, .int .u8 0, .int .u8 0, .int .u8 0, .int .u8 0, .int .u8 0, .int .u8 0, .int .u8 0, .int .u8 0, .int .u8 0, .int .u8 0, .int .u8 0, .int .u8 0, .int .u8 0, .int .u8 0, .int .u8 0, .int .u8 0, .int .u8 0, .int .u8 0, .int .u8 0, .int .u8 0, .int .u8 0, .int .u8 0, .int .u8 0, .int .u8 0, .int .u8 0, .int .u8 0, .int .u8 0, .int .u8 0, .int .u8 0, .int .u8 0, .int .u8 0, .int .u8 0, .int .u8 0, .int .u8 0, .int .u8 0, .int .u8 0, .int .u8 0, .int .u8 0, .int .u8 0, .int .u8 0, .int .u8 0, .int .u8 0, .int .u8 0, .int .u8 0, .int .u8 0, .int .u8 0, .int .u8 0, .int .u8 0, .int .u8 0, .int .u8 0, .int .u8 0, .int .u8 0, .int .u8 0, .int .u8 0, .int .u8 0, .int .u8 0, .int .u8 0, .int .u8 0, .int .u8 0, .int .u8 0, .int .u8 0, .int .u8 0, .int .u8 0, .int .u8 0, .int .u8 0, .int .u8 0, .int .u8 0, .int .u8 0, .int .u8 0, .int .u8 0, .int .u8 0, .int .u8 0, .int .u8 0, .int .u8 0, .int .u8 0, .int .u8 0, .int .u8 0, .int .u8 0, .int .u8 0, .int .u8 0, .int .u8 0, .int .u8 0, .int .u8 0, .int .u8 0, .int .u8 0], .int .u32 0, .int .u64 0, .int .u8 0, .int .u8 0, .int .u8 0] 8 rfl (World.shaped_of_RefB (by kernel_rfl) (by kernel_rfl)) (by kernel_rfl) (by kernel_rfl) (by kernel_rfl) (door_met os _)) ?_
  intro W base args ds p hval hA hsz tab
  have hval : ∀ (j : Nat) t v, Tryd.f11.params[j]? = some t → args[j]? = some v → Value.okWide Tryd.prog W .any base t v := hval
  have hA : DataW.TrodAll enc Tryd.prog W 0 (fun _ => true) true Tryd.f11.params.toList args.toList ds p := hA
  have hsz : (DataW.weightsEach Tryd.prog Tryd.f11.params.toList ds).all (· ≤ reachBytes) = true := hsz
  rw [Tryd.params11] at hA hval hsz
  obtain ⟨v0, v1, v2, v3, v4, v5, d0, d1, d2, d3, d4, d5, p0, p1, p2, p3, p4, p5, rfl, rfl, rfl, h0, h1, h2, h3, h4, h5⟩ := trodAll_six hA
  obtain ⟨hw0, hsz⟩ := weights_cons hsz
  obtain ⟨hw1, hsz⟩ := weights_cons hsz
  obtain ⟨hw2, hsz⟩ := weights_cons hsz
  obtain ⟨hw3, hsz⟩ := weights_cons hsz
  obtain ⟨hw4, hsz⟩ := weights_cons hsz
  have hw5 := (weights_cons hsz).1
  obtain ⟨seed0, prf0, pub0, rfl, hs0, hq0, hp0⟩ := open_secret (hval 0 48 v0 rfl rfl) h0
  obtain ⟨x1, rfl, rfl, rfl, wf1⟩ := open_int Tryd.underlying24 (hval 1 24 v1 rfl rfl) h1
  have wf1 := wf_u32 wf1
  obtain ⟨x2, rfl, rfl, rfl, wf2⟩ := open_int Tryd.underlying49 (hval 2 49 v2 rfl rfl) h2
  have wf2 := wf_u64 wf2
  obtain ⟨x3, rfl, rfl, rfl, wf3⟩ := open_int Tryd.underlying5 (hval 3 5 v3 rfl rfl) h3
  have wf3 := wf_u8 wf3
  obtain ⟨x4, rfl, rfl, rfl, wf4⟩ := open_int Tryd.underlying5 (hval 4 5 v4 rfl rfl) h4
  have wf4 := wf_u8 wf4
  obtain ⟨x5, rfl, rfl, rfl, wf5⟩ := open_int Tryd.underlying5 (hval 5 5 v5 rfl rfl) h5
  have wf5 := wf_u8 wf5
  exact treeMeets_any seed0 prf0 pub0 x1 x2 x3 x4 x5 W tab hs0 hq0 hp0 wf1 wf2 wf3 wf4 wf5

theorem over : Rows.treeMeetsRow.holds Tryd.pinned (OpenSpec.ofChange Rows.treeMeetsSpec) :=
  OpenClaim.holds_of_wide 11 Tryd.f11 rfl rfl rfl rfl rfl rfl rfl ⟨rfl, rfl, rfl, rfl, rfl⟩ rfl rfl rfl rfl rfl (by kernel_rfl) Tryd.func11 (by kernel_rfl)
    (of_decide_eq_true (by kernel_rfl)) (by unfold Func.isWrapper; first | (rw [if_pos (by decide +kernel)]; kernel_rfl) | (rw [if_neg (by decide +kernel)]; exact ⟨rfl, rfl⟩))
    (fun os started H enc _ => lifted os started H enc)

theorem proved : Rows.TreeMeetsCardSaid :=
  Claim7.holds_tied_plain_at .later [] [.data, .data] true (true, "cea7f37d59a92ad4346f7f52ae80d677f64d02d31a675d68b31f36c8d884316e") false
    over (fun _ h => by cases h) (by kernel_rfl) (fun _ h => by cases h) treeMeets_row_tie rfl ⟨rfl, rfl⟩ (by kernel_rfl) rfl
    (fun f fn hf hfn => by
      obtain rfl : f = 11 := Option.some.inj ((show Tryd.prog.funcNamed Rows.treeMeetsRow.func = some 11 by kernel_rfl).symm.trans hf) |>.symm
      obtain rfl : fn = Tryd.f11 := (Option.some.inj (Tryd.func11.symm.trans hfn)).symm
      exact ⟨by kernel_rfl, fun j t ht => by
        rw [Tryd.params11] at ht
        have hm : t ∈ [48, 24, 49, 5, 5, 5] := by simpa using Array.mem_of_getElem? ht
        have hall : ([48, 24, 49, 5, 5, 5].all fun u => !Tryd.prog.wantsStandIn u) = true := by kernel_rfl
        exact (show Tryd.prog.wantsStandIn t = false by simpa using List.all_eq_true.1 hall t hm)⟩)
    (by kernel_rfl)
#print axioms proved
end Go.Proofs.YtjkfbeillmeomaaDoor.treeMeets
