/-
  HyperSigns returns true for every input, and leaves all that was there. No condition beside the package's tables, which the card ties to the program's text.
-/
import Derived.Test.YtjkfbeillmeomaaGreatDoorSZMFrame
import Derived.Test.YtjkfbeillmeomaaGreatDoorSZSigns
namespace Go.Proofs.YtjkfbeillmeomaaGreatDoor.hyperSigns
open Go.ChangeShapes Go.WideShapes Go.ChangeAt Go.RowKit

set_option maxRecDepth 100000 in
theorem lifted (os : Os) (started : os.Started) (H : Type) (enc : TypeId × Value → H) :
    ReturnsInHanded {} Tryz.checked os 3 .any (fun w args => (Rows.hyperSignsSpec.pre enc Tryz.prog Tryz.f3 [] false w args ∧ laidMetH Tryz.prog laid2 w) ∧ sizedMet enc Tryz.prog Tryz.f3 (OpenSpec.ofChange Rows.hyperSignsSpec) false w args) (Rows.hyperSignsSpec.post enc Tryz.prog Tryz.f3 false true false false) := by
  refine lift_tied (conds := []) started (by kernel_rfl) Tryz.func3 rfl (by kernel_rfl) (by kernel_rfl : Tryz.f3.resultTypes = #[4]) Tryz.underlying4
    (fun ds hds => by
      match ds, hds with
      | [d0, d1, d2, d3], _ => exact ⟨rfl, rfl, rfl⟩)
    (ChangeSpec.witness_shaped (enc := enc) (C := Tryz.checked) (os := os) (X := fun w _ => laidMetH Tryz.prog laid2 w) false (World.doorLaid Tryz.prog 19 os) #[.agg #[.int .i64 0, .int .i64 0, .int .u8 0, .int .u8 0, .int .u8 0, .int .u8 0, .int .u8 0, .int .u8 0, .int .u8 0, .int .u8 0, .int .u8 0, .int .u8 0, .int .u8 0, .int .u8 0, .int .u8 0, .int .u8 0, .int .u8 0, .int .u8 0, .int .u8 0, .int .u8 0, .int .u8 0, .int .u8 0, .int .u8 0, .int .u8 0, .int .u8 0, .int .u8 0, .int .u8 0, .int .u8 0, .int .u8 0, .int .u8 0, .int .u8 0, .int .u8 0, .int .u8 0, .int .u8 0, .int .u8 0, .int .u8 0, .int .u8 0, .int .u8 0, .int .u8 0, .int .u8 0, .int .u8 0, .int .u8 0, .int .u8 0, .int .u8 0, .int .u8 0, .int .u8 0, .int .u8 0, .int .u8 0, .int .u8 0, .int .u8 0, .int .u8 0, .int .u8 0, .int .u8 0, .int .u8 0, .int .u8 0, .int .u8 0, .int .u8 0, .int .u8 0, .int .u8 0, .int .u8 0, .int .u8 0, .int .u8 0, .int .u8 0, .int .u8 0, .int .u8 0, .int .u8 0], .agg #[.int .u8 0, .int .u8 0, .int .u8 0, .int .u8 0, .int .u8 0, .int .u8 0, .int .u8 0, .int .u8 0, .int .u8 0, .int .u8 0, .int .u8 0, .int .u8 0, .int .u8 0, .int .u8 0, .int .u8 0, .int .u8 0, .int .u8 0, .int .u8 0, .int .u8 0, .int .u8 0, .int .u8 0, .int .u8 0, .int .u8 0, .int .u8 0, .int .u8 0, .int .u8 0, .int .u8 0, .int .u8 0, .int .u8 0, .int .u8 0, .int .u8 0, .int .u8 0, .int .u8 0, .int .u8 0, .int .u8 0, .int .u8 0, .int .u8 0, .int .u8 0, .int .u8 0, .int .u8 0, .int .u8 0, .int .u8 0, .int .u8 0, .int .u8 0, .int .u8 0, .int .u8 0, .int .u8 0, .int .u8 0, .int .u8 0, .int .u8 0, .int .u8 0, .int .u8 0, .int .u8 0, .int .u8 0, .int .u8 0, .int .u8 0, .int .u8 0, .int .u8 0, .int .u8 0, .int .u8 0, .int .u8 0, .int .u8 0, .int .u8 0, .int .u8 0, .int .u8 0, .int .u8 0, .int .u8 0, .int .u8 0, .int .u8 0, .int .u8 0, .int .u8 0, .int .u8 0, .int .u8 0, .int .u8 0, .int .u8 0, .int .u8 0, .int .u8 0, .int .u8 0, .int .u8 0, .int .u8 0, .int .u8 0, .int .u8 0, .int .u8 0, .int .u8 0, .int .u8 0, .int .u8 0, .int .u8 0, .int .u8 0, .int .u8 0, .int .u8 0, .int .u8 0, .int .u8 0, .int .u8 0, .int .u8 0, .int .u8 0, .int .u8 0], .int .i64 0, .slice none 0 0] 8 rfl (World.shaped_of_RefB (by kernel_rfl) (by kernel_rfl)) (by kernel_rfl) (by kernel_rfl) (by kernel_rfl) (door_met os _)) ?_
  intro W base args ds p hval hA hsz tab
  have hval : ∀ (j : Nat) t v, Tryz.f3.params[j]? = some t → args[j]? = some v → Value.okWide Tryz.prog W .any base t v := hval
  have hA : DataW.TrodAll enc Tryz.prog W 0 (fun _ => true) true Tryz.f3.params.toList args.toList ds p := hA
  have hsz : (DataW.weightsEach Tryz.prog Tryz.f3.params.toList ds).all (· ≤ reachBytes) = true := hsz
  rw [Tryz.params3] at hA hval hsz
  obtain ⟨v0, v1, v2, v3, d0, d1, d2, d3, p0, p1, p2, p3, rfl, rfl, rfl, h0, h1, h2, h3⟩ := trodAll_four hA
  obtain ⟨hw0, hsz⟩ := weights_cons hsz
  obtain ⟨hw1, hsz⟩ := weights_cons hsz
  obtain ⟨hw2, hsz⟩ := weights_cons hsz
  have hw3 := (weights_cons hsz).1
  obtain ⟨L0, V0, root0, pub0, rfl, wL0, wV0, hroot0, hpub0⟩ := open_pub (hval 0 27 v0 rfl rfl) h0
  obtain ⟨seed1, prf1, pub1, rfl, hs1, hq1, hp1⟩ := open_secret (hval 1 29 v1 rfl rfl) h1
  obtain ⟨x2, rfl, rfl, rfl, wf2⟩ := open_int Tryz.underlying3 (hval 2 3 v2 rfl rfl) h2
  obtain ⟨a3, len3, cap3, ts3, rfl, hT3, hR3⟩ := open_texts Tryz.underlying30 Tryz.underlying44 Tryz.underlying5 (by kernel_rfl) (by kernel_rfl) (hval 3 30 v3 rfl rfl) h3
  have hR3 := hR3 (by kernel_rfl) (by kernel_rfl) hw3
  cases hr : rightS L0 V0 with
  | false =>
    cases ht : fewB ts3 1000 with
    | false => exact signs_long L0 V0 root0 pub0 seed1 prf1 pub1 x2 a3 len3 cap3 ts3 W hroot0 hpub0 hs1 hq1 hp1 hT3 hR3.2 (fun W => small_bad L0 V0 8 W hr) ht
    | true => exact signs_bad L0 V0 root0 pub0 seed1 prf1 pub1 x2 a3 len3 cap3 ts3 W hroot0 hpub0 hs1 hq1 hp1 hT3 hR3.2 (fun W => small_bad L0 V0 8 W hr) ht hr
  | true =>
    have hr2 := hr
    simp only [rightS, decide_eq_true_eq] at hr2
    obtain ⟨n, rfl⟩ := Int.eq_ofNat_of_zero_le (show 0 ≤ V0 by omega)
    obtain ⟨l, rfl⟩ := Int.eq_ofNat_of_zero_le (show 0 ≤ L0 by omega)
    cases hsm : decide ((l : Int) * ((2 ^ n : Nat) : Int) ≤ 8) with
    | false => exact signs_big l n root0 pub0 seed1 prf1 pub1 x2 a3 len3 cap3 ts3 W hroot0 hpub0 hs1 hq1 hp1 hr hsm
    | true =>
      cases ht : fewB ts3 1000 with
      | false => exact signs_long l n root0 pub0 seed1 prf1 pub1 x2 a3 len3 cap3 ts3 W hroot0 hpub0 hs1 hq1 hp1 hT3 hR3.2 (fun W => small_good l n 8 true W hr hsm) ht
      | true =>
        rcases (show x2 < 0 ∨ (0 ≤ x2 ∧ manyS l n ≤ x2) ∨ (0 ≤ x2 ∧ x2 < manyS l n) by omega) with hi | ⟨h0, h1⟩ | ⟨h0, h1⟩
        · exact signs_neg l n root0 pub0 seed1 prf1 pub1 x2 a3 len3 cap3 ts3 W hroot0 hpub0 hs1 hq1 hp1 hT3 hR3.2 (fun W => small_good l n 8 true W hr hsm) ht hr hi
        · exact signs_spent l n root0 pub0 seed1 prf1 pub1 x2 a3 len3 cap3 ts3 W hroot0 hpub0 hs1 hq1 hp1 hT3 hR3.2 (fun W => small_good l n 8 true W hr hsm) ht hr h0 h1
        · exact signs_good l n root0 pub0 seed1 prf1 pub1 x2 a3 len3 cap3 ts3 W hroot0 hpub0 hs1 hq1 hp1 hT3 hR3.2 hr hsm ht h0 h1 tab

theorem over : Rows.hyperSignsRow.holds Tryz.pinned (OpenSpec.ofChange Rows.hyperSignsSpec) :=
  OpenClaim.holds_of_wide 3 Tryz.f3 rfl rfl rfl rfl rfl rfl rfl ⟨rfl, rfl, rfl, rfl, rfl⟩ rfl rfl rfl rfl rfl (by kernel_rfl) Tryz.func3 (by kernel_rfl)
    (of_decide_eq_true (by kernel_rfl)) (by unfold Func.isWrapper; first | (rw [if_pos (by decide +kernel)]; kernel_rfl) | (rw [if_neg (by decide +kernel)]; exact ⟨rfl, rfl⟩))
    (fun os started H enc _ => lifted os started H enc)

theorem proved : Rows.HyperSignsCardSaid :=
  Claim7.holds_tied_plain_at .later [] [.data, .data] true (true, "02081e22e8aa0deb730074bacae86f11a2e7929093d792c20ee2f0e086c92a4a") false
    over (fun _ h => by cases h) (by kernel_rfl) (fun _ h => by cases h) hyperSigns_row_tie rfl ⟨rfl, rfl⟩ (by kernel_rfl) rfl
    (fun f fn hf hfn => by
      obtain rfl : f = 3 := Option.some.inj ((show Tryz.prog.funcNamed Rows.hyperSignsRow.func = some 3 by kernel_rfl).symm.trans hf) |>.symm
      obtain rfl : fn = Tryz.f3 := (Option.some.inj (Tryz.func3.symm.trans hfn)).symm
      exact ⟨by kernel_rfl, fun j t ht => by
        rw [Tryz.params3] at ht
        have hm : t ∈ [27, 29, 3, 30] := by simpa using Array.mem_of_getElem? ht
        have hall : ([27, 29, 3, 30].all fun u => !Tryz.prog.wantsStandIn u) = true := by kernel_rfl
        exact (show Tryz.prog.wantsStandIn t = false by simpa using List.all_eq_true.1 hall t hm)⟩)
    (by kernel_rfl)
#print axioms proved
end Go.Proofs.YtjkfbeillmeomaaGreatDoor.hyperSigns
