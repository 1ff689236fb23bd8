/-
  TreeClimbs returns true for every input, and leaves all that was there. No condition beside the package's tables, which the card ties to the program's text.
-/
import Derived.Test.YtjkfbeillmeomaaDoorMFrame
import Derived.Test.YtjkfbeillmeomaaDoorClimbLaws
namespace Go.Proofs.YtjkfbeillmeomaaDoor.treeClimbs
open Go.ChangeShapes Go.WideShapes Go.ChangeAt Go.RowKit

set_option maxRecDepth 100000 in
theorem lifted (os : Os) (started : os.Started) (H : Type) (enc : TypeId × Value → H) :
    ReturnsInHanded {} Tryd.checked os 10 .any (fun w args => (Rows.treeClimbsSpec.pre enc Tryd.prog Tryd.f10 [] false w args ∧ laidMetH Tryd.prog laid2 w) ∧ sizedMet enc Tryd.prog Tryd.f10 (OpenSpec.ofChange Rows.treeClimbsSpec) false w args) (Rows.treeClimbsSpec.post enc Tryd.prog Tryd.f10 false true false false) := by
  refine lift_tied (conds := []) started (by kernel_rfl) Tryd.func10 rfl (by kernel_rfl) (by kernel_rfl : Tryd.f10.resultTypes = #[4]) Tryd.underlying4
    (fun ds hds => by
      match ds, hds with
      | [d0, d1, d2, d3, d4, d5], _ => exact ⟨rfl, rfl, rfl⟩)
    (ChangeSpec.witness_shaped (enc := enc) (C := Tryd.checked) (os := os) (X := fun w _ => laidMetH Tryd.prog laid2 w) false (World.doorLaid Tryd.prog 19 os) #[.agg #[.int .u8 0, .int .u8 0, .int .u8 0, .int .u8 0, .int .u8 0, .int .u8 0, .int .u8 0, .int .u8 0, .int .u8 0, .int .u8 0, .int .u8 0, .int .u8 0, .int .u8 0, .int .u8 0, .int .u8 0, .int .u8 0, .int .u8 0, .int .u8 0, .int .u8 0, .int .u8 0, .int .u8 0, .int .u8 0, .int .u8 0, .int .u8 0, .int .u8 0, .int .u8 0, .int .u8 0, .int .u8 0, .int .u8 0, .int .u8 0, .int .u8 0, .int .u8 0], .slice none 0 0, .int .i64 0, .agg #[.int .u8 0, .int .u8 0, .int .u8 0, .int .u8 0, .int .u8 0, .int .u8 0, .int .u8 0, .int .u8 0, .int .u8 0, .int .u8 0, .int .u8 0, .int .u8 0, .int .u8 0, .int .u8 0, .int .u8 0, .int .u8 0, .int .u8 0, .int .u8 0, .int .u8 0, .int .u8 0, .int .u8 0, .int .u8 0, .int .u8 0, .int .u8 0, .int .u8 0, .int .u8 0, .int .u8 0, .int .u8 0, .int .u8 0, .int .u8 0, .int .u8 0, .int .u8 0], .int .u32 0, .int .u64 0] 8 rfl (World.shaped_of_RefB (by kernel_rfl) (by kernel_rfl)) (by kernel_rfl) (by kernel_rfl) (by kernel_rfl) (door_met os _)) ?_
  intro W base args ds p hval hA hsz tab
  have hval : ∀ (j : Nat) t v, Tryd.f10.params[j]? = some t → args[j]? = some v → Value.okWide Tryd.prog W .any base t v := hval
  have hA : DataW.TrodAll enc Tryd.prog W 0 (fun _ => true) true Tryd.f10.params.toList args.toList ds p := hA
  have hsz : (DataW.weightsEach Tryd.prog Tryd.f10.params.toList ds).all (· ≤ reachBytes) = true := hsz
  rw [Tryd.params10] at hA hval hsz
  obtain ⟨v0, v1, v2, v3, v4, v5, d0, d1, d2, d3, d4, d5, p0, p1, p2, p3, p4, p5, rfl, rfl, rfl, h0, h1, h2, h3, h4, h5⟩ := trodAll_six hA
  obtain ⟨hw0, hsz⟩ := weights_cons hsz
  obtain ⟨hw1, hsz⟩ := weights_cons hsz
  obtain ⟨hw2, hsz⟩ := weights_cons hsz
  obtain ⟨hw3, hsz⟩ := weights_cons hsz
  obtain ⟨hw4, hsz⟩ := weights_cons hsz
  have hw5 := (weights_cons hsz).1
  obtain ⟨xs0, hx0, rfl, wf0⟩ := open_array_ints Tryd.underlying23 Tryd.underlying5 (by kernel_rfl) (by kernel_rfl) (hval 0 23 v0 rfl rfl) h0
  have wf0 := fun x h => wf_u8 (wf0 x h)
  obtain ⟨a1, len1, cap1, ds1, rfl, hD1⟩ := open_digs Tryd.underlying28 Tryd.underlying23 Tryd.underlying5 (by kernel_rfl) (by kernel_rfl) (hval 1 28 v1 rfl rfl) h1
  obtain ⟨x2, rfl, rfl, rfl, wf2⟩ := open_int Tryd.underlying3 (hval 2 3 v2 rfl rfl) h2
  obtain ⟨xs3, hx3, rfl, wf3⟩ := open_array_ints Tryd.underlying23 Tryd.underlying5 (by kernel_rfl) (by kernel_rfl) (hval 3 23 v3 rfl rfl) h3
  have wf3 := fun x h => wf_u8 (wf3 x h)
  obtain ⟨x4, rfl, rfl, rfl, wf4⟩ := open_int Tryd.underlying24 (hval 4 24 v4 rfl rfl) h4
  have wf4 := wf_u32 wf4
  obtain ⟨x5, rfl, rfl, rfl, wf5⟩ := open_int Tryd.underlying49 (hval 5 49 v5 rfl rfl) h5
  have wf5 := wf_u64 wf5
  by_cases hn : 20 < len1
  · exact treeClimbs_long a1 len1 cap1 ds1 xs0 xs3 x2 x4 x5 W tab hD1 hn
  · cases hr : rightZ (len1 : Int) x2 with
    | false => exact treeClimbs_bad a1 len1 cap1 ds1 xs0 xs3 x2 x4 x5 W tab hD1 ⟨hx0, wf0⟩ ⟨hx3, wf3⟩ (by omega) hr
    | true => exact treeClimbs_good a1 len1 cap1 ds1 xs0 xs3 x2 x4 x5 W tab hD1 ⟨hx0, wf0⟩ ⟨hx3, wf3⟩ wf4 wf5 (by omega) hr

theorem over : Rows.treeClimbsRow.holds Tryd.pinned (OpenSpec.ofChange Rows.treeClimbsSpec) :=
  OpenClaim.holds_of_wide 10 Tryd.f10 rfl rfl rfl rfl rfl rfl rfl ⟨rfl, rfl, rfl, rfl, rfl⟩ rfl rfl rfl rfl rfl (by kernel_rfl) Tryd.func10 (by kernel_rfl)
    (of_decide_eq_true (by kernel_rfl)) (by unfold Func.isWrapper; first | (rw [if_pos (by decide +kernel)]; kernel_rfl) | (rw [if_neg (by decide +kernel)]; exact ⟨rfl, rfl⟩))
    (fun os started H enc _ => lifted os started H enc)

theorem proved : Rows.TreeClimbsCardSaid :=
  Claim7.holds_tied_plain_at .later [] [.data, .data] true (true, "cea7f37d59a92ad4346f7f52ae80d677f64d02d31a675d68b31f36c8d884316e") false
    over (fun _ h => by cases h) (by kernel_rfl) (fun _ h => by cases h) treeClimbs_row_tie rfl ⟨rfl, rfl⟩ (by kernel_rfl) rfl
    (fun f fn hf hfn => by
      obtain rfl : f = 10 := Option.some.inj ((show Tryd.prog.funcNamed Rows.treeClimbsRow.func = some 10 by kernel_rfl).symm.trans hf) |>.symm
      obtain rfl : fn = Tryd.f10 := (Option.some.inj (Tryd.func10.symm.trans hfn)).symm
      exact ⟨by kernel_rfl, fun j t ht => by
        rw [Tryd.params10] at ht
        have hm : t ∈ [23, 28, 3, 23, 24, 49] := by simpa using Array.mem_of_getElem? ht
        have hall : ([23, 28, 3, 23, 24, 49].all fun u => !Tryd.prog.wantsStandIn u) = true := by kernel_rfl
        exact (show Tryd.prog.wantsStandIn t = false by simpa using List.all_eq_true.1 hall t hm)⟩)
    (by kernel_rfl)
#print axioms proved
end Go.Proofs.YtjkfbeillmeomaaDoor.treeClimbs
