/-
  Layer 12: what is refused; Restore; the document's Write.
-/
import Derived.Test.YtmpgnpkodapidaaSpF
namespace Go.Proofs.Ytmpgnpkodapidaa
open Go.ChangeShapes Go.WideShapes Go.ChangeAt Go.RowKit

set_option maxHeartbeats 4000000 in
set_option maxRecDepth 100000 in
theorem read_bad (w : World) (p bb z n : Nat) (B : List Int) (wv : Value) (set : Bool) (af : Int) (kv : Value) (hd : DkAt w p bb z n B wv true set af kv) (i : Int) (hi : i < 0 ∨ (n : Int) ≤ i) :
    Calls Try.prog 20 #[.pointer (some ⟨p, 0, none⟩), .int .i64 i] w fun e w' => e = .returned (.tuple #[.slice none 0 0, .int .i64 1]) ∧ Below w.heap.size w w' := by
  have HD := hid hd
  have cd3 : w.cell? ⟨p, 3, none⟩ = some (.bool true) := by rw [hd.kp.cell]; rfl
  clear hd
  go_enter Try.func20, Try.ntmps20
  go_wp2_with fail
  refine (has_out _ p bb z n B wv true set af kv HD.out i hi).mono ?_
  rintro e w1 ⟨rfl, b1⟩
  have HB1 := hid b1
  clear b1
  go_wp2_with fail
  go_returns
  exact ⟨by first | rfl | simp, HB1.out⟩
set_option maxHeartbeats 4000000 in
set_option maxRecDepth 100000 in
theorem sync_off (w : World) (p bb z n : Nat) (B : List Int) (wv : Value) (set : Bool) (af : Int) (kv : Value) (hd : DkAt w p bb z n B wv false set af kv) :
    Calls Try.prog 17 #[.pointer (some ⟨p, 0, none⟩)] w fun e w' => e = .returned (.int .i64 9) ∧ Below w.heap.size w w' := by
  have Hb := hid (Below.refl w.heap.size w)
  have cd3 : w.cell? ⟨p, 3, none⟩ = some (.bool false) := by rw [hd.kp.cell]; rfl
  clear hd
  go_enter Try.func17, Try.ntmps17
  go_wp2_with fail
  go_returns
  exact ⟨by first | rfl | simp, Hb.out⟩
set_option maxHeartbeats 4000000 in
set_option maxRecDepth 100000 in
theorem restore_bad (w : World) (p bb z n : Nat) (B : List Int) (wv : Value) (on set : Bool) (af : Int) (kv : Value) (hd : DkAt w p bb z n B wv on set af kv) (ta : Option Addr) (tn tc : Nat) (hn : tn ≠ n * z) :
    Calls Try.prog 32 #[.pointer (some ⟨p, 0, none⟩), .slice ta tn tc] w fun e w' => e = .returned (.int .i64 1) ∧ Below w.heap.size w w' := by
  have Hb := hid (Below.refl w.heap.size w)
  have hl := hd.len
  have cd1 : w.cell? ⟨p, 1, none⟩ = some (.slice (some ⟨bb, 0, none⟩) B.length B.length) := by rw [hd.kp.cell]; rfl
  have hI : ¬ (tn : Int) = (B.length : Int) := by omega
  have hB : ((tn : Int) == (B.length : Int)) = false := by simp; omega
  clear hd
  go_enter Try.func32, Try.ntmps32
  go_wp2_with fail
  go_returns
  exact ⟨by first | rfl | simp, Hb.out⟩
set_option maxHeartbeats 4000000 in
set_option maxRecDepth 100000 in
theorem restore_ok (w : World) (p bb z n m : Nat) (B : List Int) (wv : Value) (on set : Bool) (af : Int) (kv : Value) (hd : DkAt w p bb z n B wv on set af kv) (hm : m = n * z) (ta : Option Addr) (tc : Nat) (t : List Int) (hT : TextAt w ta m tc t) :
    Calls Try.prog 32 #[.pointer (some ⟨p, 0, none⟩), .slice ta m tc] w fun e w' => e = .returned (.int .i64 0) ∧ FlowB.ButIn [p, bb] w w' ∧ DkAt w' p bb z n t (.slice none 0 0) on set af kv := by
  have Hb := hid (Below.refl w.heap.size w)
  have Hl := hid (show B.length = m by rw [hd.len, hm])
  have Htl := hid hT.length
  have Hm := hid hm
  have HD := hid hd
  have HT := hid hT
  have KB := hid (show Blk w bb (B.map (Value.int .u8)).toArray 5 from hd.kb)
  have KP := hid (show Blk w p (dkC z m bb wv on set af kv) 75 by rw [← Hl.out]; exact hd.kp)
  have cd1 : w.cell? ⟨p, 1, none⟩ = some (.slice (some ⟨bb, 0, none⟩) m m) := by rw [KP.out.cell]; rfl
  have Hn0 := hid (show m = Nat.min m m from (Nat.min_self _).symm)
  have Hfit := hid (show 0 + m ≤ (B.map (Value.int .u8)).toArray.size by rw [List.size_toArray, List.length_map, Hl.out]; omega)
  have hne := hd.ne
  clear hd hT hm
  go_enter Try.func32, Try.ntmps32
  have hputs : putS m 0 t m B = t := by
    unfold putS
    rw [Nat.zero_mul, List.take_zero, List.nil_append, List.take_of_length_le (by rw [Htl.out]; exact Nat.le_refl _), List.drop_of_length_le (by rw [Hl.out]; omega), List.append_nil]
  have hPB := putS_blk (z := m) (i := 0) (t := t) (m := m) (B := B) KB.out (by rw [Htl.out]; exact Nat.le_refl _) (by rw [Hl.out]; omega)
  rw [hputs, Nat.zero_mul] at hPB
  have KB2 := hid hPB
  have HC := hid (But.setCells ((t.take m).map (Value.int .u8)) 0 w (But.of (b := bb) (Below.refl _ _)))
  have KP2 := hid (HC.out.blk KP.out hne)
  rw [List.map_take] at KB2 HC KP2
  clear hPB hputs
  go_wp2_with (first
     | (with_reducible refine wpList_copy_text rfl _ _ _ _ rfl 5 Try.underlying31 size_u8 bb 0 m m rfl _ m _ rfl _ 5 KB.out _ HT.out Hfit.out m Hn0.out ?_)
     | (
        refine wpList_store_cell rfl 73 _ _ rfl p 2 (.slice none 0 0) rfl rfl rfl rfl _ 75 KP2.out (by simp [dkC]) size_waits ?_
        intro w9 hb9 hk9
        have Hb9 := hid hb9
        have Kd9 := hid (show Blk w9 p (dkC z m bb (.slice none 0 0) on set af kv) 75 from hk9)
        clear hb9 hk9))
  go_returns
  exact ⟨by first | rfl | simp, ButIn.on (ButIn.of_but HC.out (by simp)) (ButIn.of_but Hb9.out (by simp)), by rw [Htl.out]; exact Kd9.out, Hb9.out.blk KB2.out (Ne.symm hne), hne, by rw [Htl.out]; exact Hm.out, HD.out.z1, HD.out.z2, HD.out.n1, HD.out.n2, HT.out.small⟩
end Go.Proofs.Ytmpgnpkodapidaa
