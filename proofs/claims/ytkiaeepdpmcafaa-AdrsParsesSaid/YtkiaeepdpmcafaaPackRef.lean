/-
  Contracts of the reference for pack: the number that bytes are.
-/
import Derived.Test.YtkiaeepdpmcafaaPackOf
namespace Go.Proofs.Ytkiaeepdpmcafaa
open Go.ChangeShapes Go.WideShapes Go.ChangeAt Go.RowKit

set_option maxHeartbeats 1000000 in
set_option maxRecDepth 100000 in
theorem ref_of (b off : Nat) (bs : List Int) (len cap : Nat) (w : World) (hl : bs.length = len) (h8 : len ≤ 8) (hb : ∀ x ∈ bs, 0 ≤ x ∧ x < 256)
    (hc : ∀ i, i < len → w.cell? ⟨b, off + i, none⟩ = some (.int .u8 (bs.getD i 0))) :
    Calls Try.prog 39 #[.slice (some ⟨b, off, none⟩) len cap] w fun e w' => e = .returned (.int .u64 (numOf bs)) ∧ w = w' := by
  have Hl := hid hl
  replace hc := hid hc
  clear hl
  go_enter Try.func39, Try.ntmps39
  go_wp2
  go_loop [3, 4] (fun n i => ∃ k : Nat, k ≤ len ∧ i = .int .i64 k ∧ n = .int .u64 (numOf (bs.take k))) (fun _ i => len - (intOf i).toNat)
  case atStart => exact ⟨0, by omega, rfl, rfl⟩
  case round =>
    obtain ⟨k, hk, rfl, rfl⟩ := hrel
    by_cases hlt : k < len
    · have hck : w.cell? ⟨b, off + k, none⟩ = some (.int .u8 (bs.getD k 0)) := hc.out k hlt
      have hkl : k < bs.length := by rw [Hl.out]; exact hlt
      have HS := hid (take_next bs k hkl)
      have hbd := numOf_bounds (bs.take k) (fun x hx => hb x (List.mem_of_mem_take hx))
      have hp : (256 : Int) ^ (bs.take k).length ≤ 72057594037927936 := by
        rw [List.length_take, Nat.min_eq_left (by omega), show (72057594037927936 : Int) = (256 : Int) ^ 7 by decide]
        exact_mod_cast Nat.pow_le_pow_right (show 0 < 256 by decide) (show k ≤ 7 by omega)
      have hx := hb (bs.getD k 0) (by rw [show bs.getD k 0 = bs[k] by simp [hkl]]; exact List.getElem_mem _)
      obtain ⟨hn0, hn1⟩ := hbd
      have hn2 := Int.lt_of_lt_of_le hn1 hp
      clear hn1 hp
      have HN := hid (numOf_snoc (bs.take k) (bs.getD k 0))
      generalize numOf (bs.take k) = n at *
      generalize bs.getD k 0 = x at hck hx HS HN
      obtain ⟨hx0, hx1⟩ := hx
      clear hkl
      go_wp2
      go_round
      case rel => exact ⟨k + 1, by omega, by go_num, by rw [HS.out, HN.out]⟩
      case measure => simp [intOf]; omega
    · obtain rfl : k = len := by omega
      have HF := hid (show numOf (bs.take k) = numOf bs by rw [List.take_of_length_le (by rw [Hl.out]; omega)])
      go_wp2
      go_ret
      exact ⟨by rw [← HF.out]; rfl, rfl⟩

theorem ref_of_nil (a : Option Addr) (cap : Nat) (w : World) :
    Calls Try.prog 39 #[.slice a 0 cap] w fun e w' => e = .returned (.int .u64 0) ∧ w = w' := by
  go_enter Try.func39, Try.ntmps39
  go_wp2
  go_loop [3, 4] (fun n i => i = .int .i64 0 ∧ n = .int .u64 0) (fun _ _ => 0)
  case atStart => exact ⟨rfl, rfl⟩
  case round =>
    obtain ⟨rfl, rfl⟩ := hrel
    go_wp2
    go_ret
    exact ⟨rfl, rfl⟩

theorem of_nil (a : Option Addr) (cap : Nat) (w : World) :
    Calls Try.prog 38 #[.slice a 0 cap] w fun e w' => e = .returned (.tuple #[.int .u64 0, .int .i64 0]) ∧ w = w' := by
  go_enter Try.func38, Try.ntmps38
  go_wp2
  go_loop [4, 12] (fun n i => i = .int .i64 0 ∧ n = .int .u64 0) (fun _ _ => 0)
  case atStart => exact ⟨rfl, rfl⟩
  case round =>
    obtain ⟨rfl, rfl⟩ := hrel
    go_wp2
    go_ret2
    exact ⟨rfl, rfl⟩
end Go.Proofs.Ytkiaeepdpmcafaa
