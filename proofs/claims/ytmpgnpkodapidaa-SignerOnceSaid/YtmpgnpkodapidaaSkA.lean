/-
  Layer 13: a disk counts down to its failure.
-/
import Derived.Test.YtmpgnpkodapidaaSgN
namespace Go.Proofs.Ytmpgnpkodapidaa
open Go.ChangeShapes Go.WideShapes Go.ChangeAt Go.RowKit

set_option maxHeartbeats 4000000 in
set_option maxRecDepth 100000 in
theorem fails_off (w : World) (p bb z n : Nat) (B : List Int) (wv : Value) (on : Bool) (af : Int) (kv : Value) (hd : DkAt w p bb z n B wv on false af kv) :
    Calls Try.prog 44 #[.pointer (some ⟨p, 0, none⟩)] w fun e w' => e = .returned (.bool false) ∧ Below w.heap.size w w' := by
  have Kd := hid hd.kp
  have hd0 := hid hd
  have c4 : w.cell? ⟨p, 4, none⟩ = some (.bool false) := by rw [Kd.out.cell]; rfl
  have c5 : w.cell? ⟨p, 5, none⟩ = some (.int .i64 af) := by rw [Kd.out.cell]; rfl
  have Hb := hid (Below.refl w.heap.size w)
  clear hd
  go_enter Try.func44, Try.ntmps44
  go_wp2_with fail
  go_returns
  exact ⟨by first | rfl | simp, Hb.out⟩
set_option maxHeartbeats 4000000 in
set_option maxRecDepth 100000 in
theorem fails_hit (w : World) (p bb z n : Nat) (B : List Int) (wv : Value) (on : Bool) (af : Int) (kv : Value) (hd : DkAt w p bb z n B wv on true af kv) (h0 : af ≤ 0) :
    Calls Try.prog 44 #[.pointer (some ⟨p, 0, none⟩)] w fun e w' => e = .returned (.bool true) ∧ Below w.heap.size w w' := by
  have Kd := hid hd.kp
  have hd0 := hid hd
  have c4 : w.cell? ⟨p, 4, none⟩ = some (.bool true) := by rw [Kd.out.cell]; rfl
  have c5 : w.cell? ⟨p, 5, none⟩ = some (.int .i64 af) := by rw [Kd.out.cell]; rfl
  have Hb := hid (Below.refl w.heap.size w)
  have q : ¬ 0 < af := by omega
  clear hd
  go_enter Try.func44, Try.ntmps44
  go_wp2_with fail
  go_returns
  exact ⟨by first | rfl | simp, Hb.out⟩
set_option maxHeartbeats 4000000 in
set_option maxRecDepth 100000 in
theorem fails_count (w : World) (p bb z n : Nat) (B : List Int) (wv : Value) (on : Bool) (af : Int) (kv : Value) (hd : DkAt w p bb z n B wv on true af kv) (h0 : 0 < af) (h1 : af < 9223372036854775808) :
    Calls Try.prog 44 #[.pointer (some ⟨p, 0, none⟩)] w fun e w' => e = .returned (.bool false) ∧ But p w w' ∧ DkAt w' p bb z n B wv on true (af - 1) kv := by
  have Kd := hid hd.kp
  have hd0 := hid hd
  have c4 : w.cell? ⟨p, 4, none⟩ = some (.bool true) := by rw [Kd.out.cell]; rfl
  have c5 : w.cell? ⟨p, 5, none⟩ = some (.int .i64 af) := by rw [Kd.out.cell]; rfl
  have Hb := hid (Below.refl w.heap.size w)
  clear hd
  go_enter Try.func44, Try.ntmps44
  go_wp2_with (
        refine wpList_store_cell rfl 3 _ _ rfl p 5 (.int .i64 (af - 1)) rfl rfl rfl rfl _ 75 Kd.out (by simp [dkC]) size_dint ?_
        intro w1 hb1 hk1
        have Hb1 := hid (hb1)
        have Kd1 := hid (show Blk w1 p (dkC z B.length bb wv on true (af - 1) kv) 75 from hk1)
        clear hb1 hk1)
  go_returns
  exact ⟨by first | rfl | simp, Hb1.out, Kd1.out, Hb1.out.blk hd0.out.kb (Ne.symm hd0.out.ne), hd0.out.ne, hd0.out.len, hd0.out.z1, hd0.out.z2, hd0.out.n1, hd0.out.n2, hd0.out.small⟩
end Go.Proofs.Ytmpgnpkodapidaa
