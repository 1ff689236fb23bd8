/-
  Contracts of the reference for pack: the bytes of a number.
-/
import Derived.Test.YtkiaeepdpmcafaaPackRef
import Derived.Test.YtkiaeepdpmcafaaNumber
import Derived.Test.YtkiaeepdpmcafaaArr
import Derived.ArgAppend
import Derived.OwnWalk
namespace Go.Proofs.Ytkiaeepdpmcafaa
open Go.ChangeShapes Go.WideShapes Go.ChangeAt Go.RowKit

theorem be_succ (j : Nat) (n : Int) : be (j + 1) n = (n / (256 : Int) ^ j % 256) :: be j n := be_front j n

set_option maxHeartbeats 2000000 in
theorem refnumber_any (n0 : Int) (k : Nat) (w : World) (h0 : 0 ≤ n0) (h1 : n0 < 18446744073709551616) (hk : k ≤ 64) :
    Calls Try.prog 41 #[.int .u64 n0, .int .i64 k] w fun e w' => ∃ v, e = .returned v ∧ Below w.heap.size w w' ∧ ((k = 0 ∧ v = .slice none 0 0) ∨ (0 < k ∧ ∃ g cap, v = .slice (some ⟨g, 0, none⟩) k cap ∧ w.heap.size ≤ g ∧ Row8 w' g (be k n0))) := by
  obtain ⟨i0, hi, hz0, hz1, hz2⟩ := info_parts info_byte
  go_enter Try.func41, Try.ntmps41
  go_wp2
  go_loopw [0, 5, 6] (fun n v i wr => ∃ j : Nat, j ≤ k ∧ i = .int .i64 j ∧ n = .int .u64 (n0 / (256 : Int) ^ j) ∧ ((j = 0 ∧ v = .slice none 0 0) ∨ (0 < j ∧ ∃ g cap, v = .slice (some ⟨g, 0, none⟩) j cap ∧ w.heap.size ≤ g ∧ Row8 wr g (be j n0))) ∧ Below w.heap.size w wr) (fun _ _ i _ => k - (intOf i).toNat)
  case atStart => exact ⟨0, by omega, rfl, by simp, .inl ⟨rfl, rfl⟩, Below.refl _ _⟩
  case round =>
    obtain ⟨j, hj, rfl, rfl, hrow, bel⟩ := hrel
    have hq0 : 0 ≤ n0 / (256 : Int) ^ j := Int.ediv_nonneg h0 (Int.pow_nonneg (by omega))
    have hq1 : n0 / (256 : Int) ^ j < 18446744073709551616 := Int.lt_of_le_of_lt (Int.ediv_le_self _ h0) h1
    by_cases hlt : j < k
    · have Hdiv := hid (show n0 / (256 : Int) ^ j / 256 = n0 / (256 : Int) ^ (j + 1) by
        rw [Int.ediv_ediv_of_nonneg (Int.pow_nonneg (by omega)), ← Int.pow_succ])
      have HB := hid (be_succ j n0)
      generalize n0 / (256 : Int) ^ j = q at *
      have hs0 := bel.size
      have kN : Blk (wr.alloc (Obj.cells #[.int .u8 (q % 256)] 5)) wr.heap.size #[.int .u8 (q % 256)] 5 := Blk.new rfl _ _
      have belN := bel.alloc hs0 (Obj.cells #[.int .u8 (q % 256)] 5)
      rcases hrow with ⟨rfl, rfl⟩ | ⟨hj0, g, cap, rfl, hg, hr⟩
      · have hr1 : Row8 (wr.alloc (Obj.cells #[.int .u8 (q % 256)] 5)) wr.heap.size (be 1 n0) := by
          rw [show (1 : Nat) = 0 + 1 from rfl, HB.out]
          exact Row8.of_blk kN
        go_wp2_with fail
        exact ⟨⟨1, by omega, rfl, by rw [Hdiv.out], .inr ⟨by omega, wr.heap.size, 1, rfl, hs0, hr1⟩, belN⟩, by simp [intOf]; omega⟩
      · have hrN := hr.old (Obj.cells #[.int .u8 (q % 256)] 5)
        go_wp2_with (at_builtin; refine wpList_append_grows _ rfl _ _ 56 rfl 5 i0 (.int .u8 0) 1 1 Try.underlying56 hi hz0 hz1 hz2 rfl (by decide) (some ⟨wr.heap.size, 0, none⟩) 1 1 [.int .u8 (q % 256)] rfl (fun h => by cases h) rfl ?c1 ⟨g, 0, none⟩ j cap ((be j n0).map (Value.int .u8)) rfl (by simp [be_length]) ?c2 ?c3 (by omega) ?c4 ?c5 ?_)
        case c1 =>
          intro b hb
          cases hb
          exact news_new wr [.int .u8 (q % 256)] 5
        case c2 =>
          intro i u hu
          have hi : i < (be j n0).length := by
            have := (List.getElem?_eq_some_iff.1 hu).1
            simpa using this
          rw [Addr.add_mid, Nat.zero_add, hrN.cell i hi, ← hu]
          simp [hi]
        case c3 =>
          intro u hu
          simp only [List.mem_map] at hu
          obtain ⟨a, _, rfl⟩ := hu
          rfl
        case c4 => unfold maxLen; omega
        case c5 => omega
        intro v' w3 hown hgrow
        have hv : ∃ g cap, v' = .slice (some ⟨g, 0, none⟩) (1 + j) cap := by
          obtain ⟨_, h | ⟨g, cap, cur, h, _⟩⟩ := hown
          · omega
          · exact ⟨g, cap, h⟩
        obtain ⟨g', cap', rfl⟩ := hv
        obtain ⟨hg', hrow'⟩ := Row8.of_owns (bs := q % 256 :: be j n0) hown
        rw [← HB.out] at hrow'
        have bel3 := belN.grown hgrow belN.size (fun _ h => by cases h)
        have hge' : w.heap.size ≤ g' := by omega
        clear hown hgrow belN kN hr hrN hg' hg
        go_wp2_with fail
        exact ⟨⟨j + 1, by omega, by go_num, by rw [Hdiv.out], .inr ⟨by omega, g', cap', by rw [Nat.add_comm], hge', hrow'⟩, bel3⟩, by simp [intOf]; omega⟩
    · obtain rfl : j = k := by omega
      generalize n0 / (256 : Int) ^ j = q at *
      go_wp2
      go_ret
      exact ⟨_, rfl, bel, hrow⟩
end Go.Proofs.Ytkiaeepdpmcafaa
