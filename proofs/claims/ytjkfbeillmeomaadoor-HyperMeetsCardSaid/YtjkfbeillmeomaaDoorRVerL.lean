/-
  Layer 11: HyperVerifies.
-/
import Derived.Test.YtjkfbeillmeomaaDoorRVerR
import Derived.Test.YtjkfbeillmeomaaDoorRHyper4
namespace Go.Proofs.YtjkfbeillmeomaaDoor
set_option maxRecDepth 100000
open Go.ChangeShapes Go.WideShapes Go.ChangeAt Go.RowKit
theorem verify_b (L V i : Int) (root pub r : List Int) (a : Option Addr) (pn c : Nat) (ps : List Prt) (ta : Option Addr) (tn tc : Nat) (ts : List (List Int)) (w : World) (hr : Dg r) (hroot : Dg root) (hpub : Dg pub) (hP : PartsAt w a pn c ps) (hT : TextsAt w ta tn tc ts) (htn : tn ≤ 4000000000000) (hsl : sumLen ts < 1000000000000000000) (tab : ShaTab w) :
    Calls Tryd.prog 51 #[.agg (pubC L V root pub).toArray, .agg (sigC i r (.slice a pn c)).toArray, .slice ta tn tc] w fun e w' => e = .returned (.bool (verB L V i root pub r ps ts.flatten)) ∧ Below w.heap.size w w' := by
  cases hrt : rightS L V with
  | false =>
    have h : verB L V i root pub r ps ts.flatten = false := by unfold verB; rw [formB_right hrt]; rfl
    rw [h]
    exact verify_bad L V root pub _ _ w hrt (sigC_size hr)
  | true =>
    have hr2 := hrt
    simp only [rightS, decide_eq_true_eq] at hr2
    obtain ⟨n, rfl⟩ := Int.eq_ofNat_of_zero_le (show 0 ≤ V by omega)
    cases hf : formB L n i ps with
    | false =>
      have h : verB L n i root pub r ps ts.flatten = false := by unfold verB; rw [hf]; rfl
      rw [h]
      exact verify_false L n i root pub r a pn c ps _ w hrt hf hr hP
    | true =>
      have h : verB L n i root pub r ps ts.flatten = decide (verK pub n ((2 ^ n : Nat) : Int) i ps (msgZ r root i ts.flatten) ps.length = root) := by unfold verB; rw [hf, Bool.true_and, Int.toNat_natCast]
      rw [h]
      exact verify_good L i n root pub r a pn c ps ta tn tc ts w hf hr hroot hpub hP hT htn hsl tab
end Go.Proofs.YtjkfbeillmeomaaDoor
