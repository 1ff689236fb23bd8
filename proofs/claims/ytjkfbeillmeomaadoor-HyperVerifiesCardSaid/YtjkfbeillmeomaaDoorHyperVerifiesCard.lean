/-
  HyperVerifies returns true for every input, and leaves all that was there. No condition beside the package's tables, which the card ties to the program's text.
-/
import Derived.Test.YtjkfbeillmeomaaDoorQMFrame
import Derived.Test.YtjkfbeillmeomaaDoorQVerL
namespace Go.Proofs.YtjkfbeillmeomaaDoor.hyperVerifies
open Go.ChangeShapes Go.WideShapes Go.ChangeAt Go.RowKit

set_option maxRecDepth 100000 in
theorem lifted (os : Os) (started : os.Started) (H : Type) (enc : TypeId × Value → H) :
    ReturnsInHanded {} Tryd.checked os 13 .any (fun w args => (Rows.hyperVerifiesSpec.pre enc Tryd.prog Tryd.f13 [] false w args ∧ laidMetH Tryd.prog laid2 w) ∧ sizedMet enc Tryd.prog Tryd.f13 (OpenSpec.ofChange Rows.hyperVerifiesSpec) false w args) (Rows.hyperVerifiesSpec.post enc Tryd.prog Tryd.f13 false true false false) := by
  refine lift_tied (conds := []) started (by kernel_rfl) Tryd.func13 rfl (by kernel_rfl) (by kernel_rfl : Tryd.f13.resultTypes = #[4]) Tryd.underlying4
    (fun ds hds => by
      match ds, hds with
      | [d0, d1, d2], _ => exact ⟨rfl, rfl, rfl⟩)
    (ChangeSpec.witness_shaped (enc := enc) (C := Tryd.checked) (os := os) (X := fun w _ => laidMetH Tryd.prog laid2 w) false (World.doorLaid Tryd.prog 19 os) #[.agg #[.int .i64 0, .int .i64 0, .int .u8 0, .int .u8 0, .int .u8 0, .int .u8 0, .int .u8 0, .int .u8 0, .int .u8 0, .int .u8 0, .int .u8 0, .int .u8 0, .int .u8 0, .int .u8 0, .int .u8 0, .int .u8 0, .int .u8 0, .int .u8 0, .int .u8 0, .int .u8 0, .int .u8 0, .int .u8 0, .int .u8 0, .int .u8 0, .int .u8 0, .int .u8 0, .int .u8 0, .int .u8 0, .int .u8 0, .int .u8 0, .int .u8 0, .int .u8 0, .int .u8 0, .int .u8 0, .int .u8 0, .int .u8 0, .int .u8 0, .int .u8 0, .int .u8 0, .int .u8 0, .int .u8 0, .int .u8 0, .int .u8 0, .int .u8 0, .int .u8 0, .int .u8 0, .int .u8 0, .int .u8 0, .int .u8 0, .int .u8 0, .int .u8 0, .int .u8 0, .int .u8 0, .int .u8 0, .int .u8 0, .int .u8 0, .int .u8 0, .int .u8 0, .int .u8 0, .int .u8 0, .int .u8 0, .int .u8 0, .int .u8 0, .int .u8 0, .int .u8 0, .int .u8 0], .agg #[.int .i64 0, .int .u8 0, .int .u8 0, .int .u8 0, .int .u8 0, .int .u8 0, .int .u8 0, .int .u8 0, .int .u8 0, .int .u8 0, .int .u8 0, .int .u8 0, .int .u8 0, .int .u8 0, .int .u8 0, .int .u8 0, .int .u8 0, .int .u8 0, .int .u8 0, .int .u8 0, .int .u8 0, .int .u8 0, .int .u8 0, .int .u8 0, .int .u8 0, .int .u8 0, .int .u8 0, .int .u8 0, .int .u8 0, .int .u8 0, .int .u8 0, .int .u8 0, .int .u8 0, .slice none 0 0], .slice none 0 0] 8 rfl (World.shaped_of_RefB (by kernel_rfl) (by kernel_rfl)) (by kernel_rfl) (by kernel_rfl) (by kernel_rfl) (door_met os _)) ?_
  intro W base args ds p hval hA hsz tab
  have hval : ∀ (j : Nat) t v, Tryd.f13.params[j]? = some t → args[j]? = some v → Value.okWide Tryd.prog W .any base t v := hval
  have hA : DataW.TrodAll enc Tryd.prog W 0 (fun _ => true) true Tryd.f13.params.toList args.toList ds p := hA
  have hsz : (DataW.weightsEach Tryd.prog Tryd.f13.params.toList ds).all (· ≤ reachBytes) = true := hsz
  rw [Tryd.params13] at hA hval hsz
  obtain ⟨v0, v1, v2, d0, d1, d2, p0, p1, p2, rfl, rfl, rfl, h0, h1, h2⟩ := trodAll_three hA
  obtain ⟨hw0, hsz⟩ := weights_cons hsz
  obtain ⟨hw1, hsz⟩ := weights_cons hsz
  have hw2 := (weights_cons hsz).1
  obtain ⟨L0, V0, root0, pub0, rfl, wL0, wV0, hroot0, hpub0⟩ := open_pub (hval 0 68 v0 rfl rfl) h0
  obtain ⟨i1, r1, pa1, pn1, pc1, ps1, rfl, wi1, hr1, hP1⟩ := open_sig (hval 1 75 v1 rfl rfl) h1
  obtain ⟨a2, len2, cap2, ts2, rfl, hT2, hR2⟩ := open_texts Tryd.underlying76 Tryd.underlying81 Tryd.underlying5 (by kernel_rfl) (by kernel_rfl) (hval 2 76 v2 rfl rfl) h2
  have hR2 := hR2 (by kernel_rfl) (by kernel_rfl) hw2
  cases hf : fewP ps1 with
  | false => exact hyperVerifies_many L0 V0 i1 root0 pub0 r1 pa1 pn1 pc1 ps1 a2 len2 cap2 ts2 W hr1 hP1 hf
  | true =>
    cases ht : fewB ts2 1000 with
    | false => exact hyperVerifies_long L0 V0 i1 root0 pub0 r1 pa1 pn1 pc1 ps1 a2 len2 cap2 ts2 W hr1 hP1 hT2 hR2.2 hf ht
    | true => exact hyperVerifies_good L0 V0 i1 root0 pub0 r1 pa1 pn1 pc1 ps1 a2 len2 cap2 ts2 W hr1 hroot0 hpub0 hP1 hT2 hR2.2 hf ht tab

theorem over : Rows.hyperVerifiesRow.holds Tryd.pinned (OpenSpec.ofChange Rows.hyperVerifiesSpec) :=
  OpenClaim.holds_of_wide 13 Tryd.f13 rfl rfl rfl rfl rfl rfl rfl ⟨rfl, rfl, rfl, rfl, rfl⟩ rfl rfl rfl rfl rfl (by kernel_rfl) Tryd.func13 (by kernel_rfl)
    (of_decide_eq_true (by kernel_rfl)) (by unfold Func.isWrapper; first | (rw [if_pos (by decide +kernel)]; kernel_rfl) | (rw [if_neg (by decide +kernel)]; exact ⟨rfl, rfl⟩))
    (fun os started H enc _ => lifted os started H enc)

theorem proved : Rows.HyperVerifiesCardSaid :=
  Claim7.holds_tied_plain_at .later [] [.data, .data] true (true, "cea7f37d59a92ad4346f7f52ae80d677f64d02d31a675d68b31f36c8d884316e") false
    over (fun _ h => by cases h) (by kernel_rfl) (fun _ h => by cases h) hyperVerifies_row_tie rfl ⟨rfl, rfl⟩ (by kernel_rfl) rfl
    (fun f fn hf hfn => by
      obtain rfl : f = 13 := Option.some.inj ((show Tryd.prog.funcNamed Rows.hyperVerifiesRow.func = some 13 by kernel_rfl).symm.trans hf) |>.symm
      obtain rfl : fn = Tryd.f13 := (Option.some.inj (Tryd.func13.symm.trans hfn)).symm
      exact ⟨by kernel_rfl, fun j t ht => by
        rw [Tryd.params13] at ht
        have hm : t ∈ [68, 75, 76] := by simpa using Array.mem_of_getElem? ht
        have hall : ([68, 75, 76].all fun u => !Tryd.prog.wantsStandIn u) = true := by kernel_rfl
        exact (show Tryd.prog.wantsStandIn t = false by simpa using List.all_eq_true.1 hall t hm)⟩)
    (by kernel_rfl)
#print axioms proved
end Go.Proofs.YtjkfbeillmeomaaDoor.hyperVerifies
