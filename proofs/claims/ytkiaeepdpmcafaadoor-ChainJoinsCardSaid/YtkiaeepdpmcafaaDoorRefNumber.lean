/-
  Contract of the reference's Number: the bytes are the call's own.
-/
import Derived.Test.YtkiaeepdpmcafaaDoorBytes
import Derived.Test.YtkiaeepdpmcafaaDoorNumber
import Derived.Test.YtkiaeepdpmcafaaDoorOwn
namespace Go.Proofs.YtkiaeepdpmcafaaDoor
open Go.ChangeShapes Go.WideShapes Go.ChangeAt Go.RowKit

set_option maxHeartbeats 2000000 in
theorem refnumber_own (n0 x : Int) (k : Nat) (w : World) (h0 : 0 ≤ n0) (h1 : n0 < 18446744073709551616) (hx : x = (k : Int)) (hk : k ≤ 64) :
    Calls Tryd.prog 52 #[.int .u64 n0, .int .i64 x] w fun e w' => ∃ v, e = .returned v ∧ Below w.heap.size w w' ∧ OwnB w' w.heap.size 5 v (be k n0) := by
  obtain ⟨i0, hi, hz0, hz1, hz2⟩ := info_parts info_byte
  subst hx
  go_enter Tryd.func52, Tryd.ntmps52
  go_wp2
  go_loopw [0, 5, 6] (fun n v i wr => ∃ j : Nat, j ≤ k ∧ i = .int .i64 j ∧ n = .int .u64 (n0 / (256 : Int) ^ j) ∧ OwnB wr w.heap.size 5 v (be j n0) ∧ Below w.heap.size w wr) (fun _ _ i _ => k - (intOf i).toNat)
  case atStart => exact ⟨0, by omega, rfl, by simp, OwnB.nil _ _ _, Below.refl _ _⟩
  case round =>
    obtain ⟨j, hj, rfl, rfl, hown, bel⟩ := hrel
    have hq0 : 0 ≤ n0 / (256 : Int) ^ j := Int.ediv_nonneg h0 (Int.pow_nonneg (by omega))
    have hq1 : n0 / (256 : Int) ^ j < 18446744073709551616 := Int.lt_of_le_of_lt (Int.ediv_le_self _ h0) h1
    by_cases hlt : j < k
    · have Hdiv := hid (show n0 / (256 : Int) ^ j / 256 = n0 / (256 : Int) ^ (j + 1) by
        rw [Int.ediv_ediv_of_nonneg (Int.pow_nonneg (by omega)), ← Int.pow_succ])
      have HB := hid (be_front j n0)
      generalize n0 / (256 : Int) ^ j = q at *
      obtain ⟨ao, cap, rfl, hT, _⟩ := hown.text
      have hT := hT.below ((Below.refl _ _).alloc (Nat.le_refl _) (Obj.cells #[.int .u8 (q % 256)] 5))
      have kN : OwnB (wr.alloc (Obj.cells #[.int .u8 (q % 256)] 5)) w.heap.size 5 (.slice (some ⟨wr.heap.size, 0, none⟩) 1 1) [q % 256] :=
        OwnB.of_blk (Blk.new rfl _ _) bel.size rfl (by omega) (by simp; omega)
      have belN := bel.alloc bel.size (Obj.cells #[.int .u8 (q % 256)] 5)
      have Hlen := hid (be_length j n0)
      rw [Hlen.out] at hT
      rw [Hlen.out]
      clear hown bel
      go_wp2_with (at_builtin; refine wpList_append_text rfl _ _ rfl Tryd.underlying29 hi hz0 hz1 hz2 rfl kN rfl hT ?c1 ?c2 ?_)
      case c1 => simp; omega
      case c2 => exact belN.size
      intro v' w3 hown _ hb
      have hown : OwnB w3 w.heap.size 5 v' (be (j + 1) n0) := by rw [HB.out]; exact hown
      have bel := belN.trans hb
      clear hb belN kN hT
      go_wp2_with fail
      exact ⟨⟨j + 1, by omega, by go_num, by rw [Hdiv.out], hown, bel⟩, by simp [intOf]; omega⟩
    · obtain rfl : j = k := by omega
      generalize n0 / (256 : Int) ^ j = q at *
      go_wp2
      go_ret
      exact ⟨_, rfl, bel, hown⟩
end Go.Proofs.YtkiaeepdpmcafaaDoor
