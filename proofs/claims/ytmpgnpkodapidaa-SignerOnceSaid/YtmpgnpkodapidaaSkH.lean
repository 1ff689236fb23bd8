/-
  Layer 13: the power fails where it is off already.
-/
import Derived.Test.YtmpgnpkodapidaaSkG
namespace Go.Proofs.Ytmpgnpkodapidaa
open Go.ChangeShapes Go.WideShapes Go.ChangeAt Go.RowKit

set_option maxHeartbeats 4000000 in
set_option maxRecDepth 100000 in
theorem crash_off (w : World) (p bb z n : Nat) (B : List Int) (wv : Value) (set : Bool) (af : Int) (kv ks : Value) (hd : DkAt w p bb z n B wv false set af kv) :
    Calls Try.prog 18 #[.pointer (some ⟨p, 0, none⟩), ks] w fun e w' => e = .returned (.tuple #[]) ∧ Below w.heap.size w w' := by
  have Kd := hid hd.kp
  have c3 : w.cell? ⟨p, 3, none⟩ = some (.bool false) := by rw [Kd.out.cell]; rfl
  have Hb := hid (Below.refl w.heap.size w)
  clear hd
  go_enter Try.func18, Try.ntmps18
  go_wp2_with fail
  go_returns
  exact ⟨by first | rfl | simp, Hb.out⟩
end Go.Proofs.Ytmpgnpkodapidaa
