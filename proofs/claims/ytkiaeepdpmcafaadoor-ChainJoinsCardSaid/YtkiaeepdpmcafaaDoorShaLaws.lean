/-
  The statements of layer 1: the walks of their texts.
-/
import Derived.Test.YtkiaeepdpmcafaaDoorShaKnows
import Derived.Test.YtkiaeepdpmcafaaDoorShaRefSum
import Derived.Test.YtkiaeepdpmcafaaDoorShaJoin
namespace Go.Proofs.YtkiaeepdpmcafaaDoor
open Go.ChangeShapes Go.WideShapes Go.ChangeAt Go.RowKit

theorem shaSums_not (a : Option Addr) (n c : Nat) (ts : List (List Int)) (w : World) (tab : ShaTab w) (hT : TextsAt w a n c ts) (hr : ∀ t ∈ ts, t.length ≤ 140737488351232) (hf : fewB ts 3000 = false) :
    Calls Tryd.prog 3 #[.slice a n c] w fun e w' => e = .returned (.bool true) ∧ Below w.heap.size w w' := by
  have h := few_any a n c ts 3000 w hT hr
  rw [hf] at h
  have Htab := hid tab
  clear tab
  go_enter Tryd.func3, Tryd.ntmps3
  go_wp2_with (first | (go_at_call 12; refine h.mono ?_; rintro e w1 ⟨rfl, rfl⟩) | (go_at_call 13; refine (knows01 _ Htab.out).mono ?_; rintro e w2 ⟨rfl, bel⟩))
  go_returns
  exact ⟨rfl, bel⟩

set_option maxHeartbeats 1000000 in
set_option maxRecDepth 100000 in
theorem shaSums_walk (a : Option Addr) (n c : Nat) (ts : List (List Int)) (w : World) (tab : ShaTab w) (hT : TextsAt w a n c ts) (hr : ∀ t ∈ ts, t.length ≤ 140737488351232) (hf : fewB ts 3000 = true) :
    Calls Tryd.prog 3 #[.slice a n c] w fun e w' => e = .returned (.bool true) ∧ Below w.heap.size w w' := by
  have h := few_any a n c ts 3000 w hT hr
  rw [hf] at h
  have hsl := (fewB_spec hf).1
  have Hfl := hid (flatten_length ts)
  have Htab := hid tab
  have HT := hid hT
  have Hsl := hid hsl
  clear tab hT hf hr hsl
  go_enter Tryd.func3, Tryd.ntmps3
  go_wp2_with (go_at_call 12; refine h.mono ?_; rintro e w1 ⟨rfl, rfl⟩)
  refine (sum_any a n c ts w HT.out (by have := Hsl.out; omega) Htab.out).mono ?_
  rintro e w2 ⟨rfl, b2⟩
  have HB2 := hid b2
  clear b2 h
  go_wp2_with fail
  refine (join_any a n c ts w2 (HT.out.below HB2.out) (by have := Hsl.out; omega)).mono ?_
  rintro e w3 ⟨v, rfl, own, b3⟩
  have HB3 := hid (Below.on HB2.out b3)
  obtain ⟨av, cv, rfl, hTv, _⟩ := own.text
  have HTv := hid hTv
  have Hq := hid (eqD_self (sumZ ts.flatten) (sumZ_length _))
  generalize hL : ts.flatten.length = L at *
  have HL := hid hL
  clear b3 own hTv hL
  go_wp2_with fail
  refine (refsum_any av L cv ts.flatten w3 HTv.out (by have := Hsl.out; have := Hfl.out; have := HL.out; omega)).mono ?_
  rintro e w4 ⟨rfl, b4⟩
  have HB4 := hid (Below.on HB3.out b4)
  have q := Hq.out
  clear b4 HTv
  generalize (List.map (Value.int IntKind.u8) (sumZ ts.flatten)).toArray = D at *
  go_wp2_with fail
  refine (knows01 _ (Htab.out.below HB4.out)).mono ?_
  rintro e w5 ⟨rfl, b5⟩
  have HB5 := hid (Below.on HB4.out b5)
  clear b5
  go_wp2_with fail
  go_returns
  exact ⟨rfl, HB5.out⟩
end Go.Proofs.YtkiaeepdpmcafaaDoor
