/-
  Contract of pack.Of: the number that bytes are.
-/
import Derived.Test.YtkiaeepdpmcafaaBytes
namespace Go.Proofs.Ytkiaeepdpmcafaa
open Go.ChangeShapes Go.WideShapes Go.ChangeAt Go.RowKit

theorem take_next (zs : List Int) (k : Nat) (h : k < zs.length) : zs.take (k + 1) = zs.take k ++ [zs.getD k 0] := by
  rw [List.take_succ_eq_append_getElem h]; simp [h]

theorem numOf_bounds : ∀ (bs : List Int), (∀ x ∈ bs, 0 ≤ x ∧ x < 256) → 0 ≤ numOf bs ∧ numOf bs < (256 : Int) ^ bs.length := by
  intro bs
  have key : ∀ (k : Nat), k ≤ bs.length → (∀ x ∈ bs, 0 ≤ x ∧ x < 256) → 0 ≤ numOf (bs.take k) ∧ numOf (bs.take k) < (256 : Int) ^ k := by
    intro k
    induction k with
    | zero => intro _ _; simp [numOf]
    | succ k ih =>
      intro hk hb
      have h1 := ih (by omega) hb
      have h2 := hb bs[k] (List.getElem_mem _)
      rw [take_next bs k (by omega), numOf_snoc, show bs.getD k 0 = bs[k] by simp [show k < bs.length by omega], Int.pow_succ]
      generalize (256 : Int) ^ k = p at *
      omega
  intro hb
  have := key bs.length (Nat.le_refl _) hb
  simpa using this

theorem or_next (n x : Int) (h0 : 0 ≤ n) (h1 : n < 72057594037927936) (h2 : 0 ≤ x) (h3 : x < 256) : bits .or .u64 (n * 256) x = 256 * n + x := by
  rw [u64_or _ _ (by omega) (by omega) h2 (by omega)]
  obtain ⟨m, rfl⟩ := Int.eq_ofNat_of_zero_le h0
  obtain ⟨y, rfl⟩ := Int.eq_ofNat_of_zero_le h2
  have h4 : y < 2 ^ 8 := by omega
  have h5 := Nat.shiftLeft_add_eq_or_of_lt h4 m
  rw [Nat.shiftLeft_eq] at h5
  have e1 : ((m : Int) * 256).toNat = m * 2 ^ 8 := by omega
  have e2 : ((y : Int)).toNat = y := by omega
  rw [e1, e2, ← h5]
  omega

theorem of_long_bytes (a : Option Addr) (len cap : Nat) (w : World) (hlen : 8 < len) (hm : len ≤ 9223372036854775807) :
    Calls Try.prog 38 #[.slice a len cap] w fun e w' => e = .returned (.tuple #[.int .u64 0, .int .i64 1]) ∧ w = w' := by
  have h1 : (8 : Int) < (len : Int) := by omega
  go_enter Try.func38, Try.ntmps38
  go_wp2
  go_ret2
  exact ⟨rfl, rfl⟩

set_option maxHeartbeats 1000000 in
set_option maxRecDepth 100000 in
theorem of_bytes (b off : Nat) (bs : List Int) (len cap : Nat) (w : World) (hl : bs.length = len) (h8 : len ≤ 8) (hb : ∀ x ∈ bs, 0 ≤ x ∧ x < 256)
    (hc : ∀ i, i < len → w.cell? ⟨b, off + i, none⟩ = some (.int .u8 (bs.getD i 0))) :
    Calls Try.prog 38 #[.slice (some ⟨b, off, none⟩) len cap] w fun e w' => e = .returned (.tuple #[.int .u64 (numOf bs), .int .i64 0]) ∧ w = w' := by
  have h1 : decide ((8 : Int) < (len : Int)) = false := by simp; omega
  have Hl := hid hl
  replace hc := hid hc
  clear hl
  go_enter Try.func38, Try.ntmps38
  go_wp2
  go_loop [4, 12] (fun n i => ∃ k : Nat, k ≤ len ∧ i = .int .i64 k ∧ n = .int .u64 (numOf (bs.take k))) (fun _ i => len - (intOf i).toNat)
  case atStart => exact ⟨0, by omega, rfl, rfl⟩
  case round =>
    obtain ⟨k, hk, rfl, rfl⟩ := hrel
    by_cases hlt : k < len
    · have hck : w.cell? ⟨b, off + k, none⟩ = some (.int .u8 (bs.getD k 0)) := hc.out k hlt
      have hkl : k < bs.length := by rw [Hl.out]; exact hlt
      have HS := hid (take_next bs k hkl)
      have hbd := numOf_bounds (bs.take k) (fun x hx => hb x (List.mem_of_mem_take hx))
      have hp : (256 : Int) ^ (bs.take k).length ≤ 72057594037927936 := by
        rw [List.length_take, Nat.min_eq_left (by omega), show (72057594037927936 : Int) = (256 : Int) ^ 7 by decide]
        exact_mod_cast Nat.pow_le_pow_right (show 0 < 256 by decide) (show k ≤ 7 by omega)
      have hx := hb (bs.getD k 0) (by rw [show bs.getD k 0 = bs[k] by simp [hkl]]; exact List.getElem_mem _)
      obtain ⟨hn0, hn1⟩ := hbd
      have hn2 := Int.lt_of_lt_of_le hn1 hp
      clear hn1 hp
      have HN := hid (numOf_snoc (bs.take k) (bs.getD k 0))
      generalize numOf (bs.take k) = n at *
      generalize bs.getD k 0 = x at hck hx HS HN
      obtain ⟨hx0, hx1⟩ := hx
      have HO := hid (or_next n x hn0 (by omega) hx0 hx1)
      clear hkl
      go_wp2
      go_round
      case rel => exact ⟨k + 1, by omega, by go_num, by rw [HS.out, HN.out, HO.out]⟩
      case measure => simp [intOf]; omega
    · obtain rfl : k = len := by omega
      have HF := hid (show numOf (bs.take k) = numOf bs by rw [List.take_of_length_le (by rw [Hl.out]; omega)])
      go_wp2
      go_ret2
      exact ⟨by rw [← HF.out]; rfl, rfl⟩
end Go.Proofs.Ytkiaeepdpmcafaa
