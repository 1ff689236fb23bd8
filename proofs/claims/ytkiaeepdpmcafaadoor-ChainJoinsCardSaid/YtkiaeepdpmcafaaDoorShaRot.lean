/-
  Contracts: math/bits.RotateLeft32, to the right; the reference's right.
-/
import Derived.Test.YtkiaeepdpmcafaaDoorBase
import Derived.Test.YtkiaeepdpmcafaaDoorSha
import Derived.Laws.BitsAllLaws
namespace Go.Proofs.YtkiaeepdpmcafaaDoor
open Go.ChangeShapes Go.WideShapes Go.ChangeAt Go.RowKit

theorem neg_and (n : Nat) (h1 : 1 ≤ n) (h2 : n ≤ 31) : bits .and .u64 (IntKind.u64.wrap (-(n : Int))) 31 = ((32 - n : Nat) : Int) := by
  have hw : IntKind.u64.wrap (-(n : Int)) = ((18446744073709551616 - n : Nat) : Int) := by
    simp [IntKind.wrap, IntKind.bits, IntKind.signed]
    omega
  rw [hw, show (31 : Int) = ((31 : Nat) : Int) from rfl, u64_and_nat _ _ (by omega) (by omega)]
  have key : ∀ m : Fin 32, 1 ≤ m.val → (18446744073709551616 - m.val) &&& 31 = 32 - m.val := by decide +kernel
  rw [key ⟨n, by omega⟩ h1]

theorem rot_or (x n s : Nat) (hx : x < 4294967296) (hn : s + n = 32) : bits .or .u32 ((x : Int) * 2 ^ s % 4294967296) ((x : Int) / 2 ^ n) = ((Sha.rotr n x : Nat) : Int) := by
  have hp : 2 ^ s * 2 ^ n = 4294967296 := by rw [← Nat.pow_add, hn]
  have e0 : x * 2 ^ s % 4294967296 = x % 2 ^ n * 2 ^ s := by
    rw [← hp, Nat.mul_comm (2 ^ s) (2 ^ n), Nat.mul_mod_mul_right]
  have e1 : (x : Int) * 2 ^ s % 4294967296 = ((x % 2 ^ n * 2 ^ s : Nat) : Int) := by
    rw [← e0, Int.natCast_emod, Int.natCast_mul, Int.natCast_pow]
    rfl
  have e2 : (x : Int) / 2 ^ n = ((x / 2 ^ n : Nat) : Int) := by
    rw [Int.natCast_ediv, Int.natCast_pow]
    rfl
  have hpos : 0 < 2 ^ n := Nat.pow_pos (by decide)
  have hpos2 : 0 < 2 ^ s := Nat.pow_pos (by decide)
  have b1 : x / 2 ^ n < 2 ^ s := by
    rw [Nat.div_lt_iff_lt_mul hpos, hp]; exact hx
  have b2 : x % 2 ^ n * 2 ^ s < 4294967296 := by
    rw [← hp, Nat.mul_comm (2 ^ s) (2 ^ n)]
    exact Nat.mul_lt_mul_of_pos_right (Nat.mod_lt _ hpos) hpos2
  have b3 : 2 ^ s ≤ 2 ^ 32 := Nat.pow_le_pow_right (by decide) (by omega)
  rw [e1, e2, u32_or_nat _ _ b2 (Nat.lt_of_lt_of_le b1 b3)]
  congr 1
  have := Nat.shiftLeft_add_eq_or_of_lt b1 (x % 2 ^ n)
  rw [Nat.shiftLeft_eq] at this
  unfold Sha.rotr
  rw [← this, show 32 - n = s by omega, Nat.add_comm]

set_option maxHeartbeats 1000000 in
theorem rot_any (x n : Nat) (w : World) (hx : x < 4294967296) (h1 : 1 ≤ n) (h2 : n ≤ 31) :
    Calls Tryd.prog 60 #[.int .u32 x, .int .i64 (-n)] w fun e w' => e = .returned (.int .u32 (Sha.rotr n x : Nat)) ∧ w = w' := by
  have hs := neg_and n h1 h2
  obtain ⟨s, hsn⟩ : ∃ s, s = 32 - n := ⟨_, rfl⟩
  rw [← hsn] at hs
  have ho := rot_or x n s hx (by omega)
  have hr : (32 - (s : Int)).toNat = n := by omega
  have hs1 : 1 ≤ s ∧ s ≤ 31 := by omega
  obtain ⟨hs1, hs2⟩ := hs1
  clear hsn
  go_enter Tryd.func60, Tryd.ntmps60
  go_wp2
  go_ret
  exact ⟨rfl, rfl⟩

theorem rot_int (x n : Nat) (m : Int) (w : World) (hx : x < 4294967296) (h1 : 1 ≤ n) (h2 : n ≤ 31) (hm : m = -(n : Int)) :
    Calls Tryd.prog 60 #[.int .u32 x, .int .i64 m] w fun e w' => e = .returned (.int .u32 (Sha.rotr n x : Nat)) ∧ w = w' := by
  subst hm
  exact rot_any x n w hx h1 h2

theorem rotr_lt (n x : Nat) (hx : x < 4294967296) (h2 : n ≤ 32) : Sha.rotr n x < 4294967296 := by
  have hp : 2 ^ (32 - n) * 2 ^ n = 4294967296 := by rw [← Nat.pow_add, show 32 - n + n = 32 by omega]
  have hpos : 0 < 2 ^ n := Nat.pow_pos (by decide)
  have hpos2 : 0 < 2 ^ (32 - n) := Nat.pow_pos (by decide)
  have b1 : x / 2 ^ n < 2 ^ (32 - n) := by
    rw [Nat.div_lt_iff_lt_mul hpos, hp]; exact hx
  have b2 : x % 2 ^ n * 2 ^ (32 - n) + 2 ^ (32 - n) ≤ 4294967296 := by
    rw [← Nat.succ_mul, ← hp, Nat.mul_comm (2 ^ (32 - n)) (2 ^ n)]
    exact Nat.mul_le_mul_right _ (Nat.mod_lt _ hpos)
  unfold Sha.rotr
  omega

set_option maxHeartbeats 1000000 in
theorem right_any (x n : Nat) (p q : Int) (w : World) (hx : x < 4294967296) (h2 : n ≤ 31) (hp : p = ((2 ^ n : Nat) : Int)) (hq : q = ((2 ^ (32 - n) : Nat) : Int)) :
    Calls Tryd.prog 45 #[.int .u32 x, .int .u32 p, .int .u32 q] w fun e w' => e = .returned (.int .u32 (Sha.rotr n x : Nat)) ∧ Below w.heap.size w w' := by
  have hlt := rotr_lt n x hx (by omega)
  have hr : ((Sha.rotr n x : Nat) : Int) = (x : Int) / p + (x : Int) % p * q := by
    rw [hp, hq]
    unfold Sha.rotr
    rw [Int.natCast_add, Int.natCast_mul, Int.natCast_ediv, Int.natCast_emod]
  have p1 : 1 ≤ p ∧ p ≤ 2147483648 := by
    rw [hp]
    have h1 : 2 ^ n ≤ 2 ^ 31 := Nat.pow_le_pow_right (by decide) h2
    have h0 : 0 < 2 ^ n := Nat.pow_pos (by decide)
    omega
  have m0 : 0 ≤ (x : Int) % p * q ∧ 0 ≤ (x : Int) / p := by
    rw [hp, hq]
    exact ⟨Int.mul_nonneg (Int.emod_nonneg _ (by rw [← hp]; omega)) (Int.natCast_nonneg _), Int.ediv_nonneg (Int.natCast_nonneg _) (Int.natCast_nonneg _)⟩
  have Hr := hid hr
  have hs : (x : Int) / p + (x : Int) % p * q < 4294967296 := by omega
  obtain ⟨m1, m2⟩ := m0
  obtain ⟨p1, p2⟩ := p1
  clear hr hp hq hlt
  have hm : (x : Int) % p * q < 4294967296 := by omega
  go_enter Tryd.func45, Tryd.ntmps45
  go_wp2
  go_quiet (fail)
  go_wp2_with fail
  go_ret
  exact ⟨by rw [Hr.out]; rfl, rfl, rfl, rfl, Nat.le_refl _, fun _ _ => rfl⟩

theorem xor_lt {a b : Nat} (ha : a < 4294967296) (hb : b < 4294967296) : a ^^^ b < 4294967296 := Nat.xor_lt_two_pow (n := 32) ha hb
theorem and_lt {a b : Nat} (ha : a < 4294967296) : a &&& b < 4294967296 := Nat.lt_of_le_of_lt Nat.and_le_left ha
theorem or_lt {a b : Nat} (ha : a < 4294967296) (hb : b < 4294967296) : a ||| b < 4294967296 := Nat.or_lt_two_pow (n := 32) ha hb
theorem s0_lt (x : Nat) (hx : x < 4294967296) : Sha.s0 x < 4294967296 := xor_lt (xor_lt (rotr_lt 7 x hx (by decide)) (rotr_lt 18 x hx (by decide))) (by omega)
theorem s1_lt (x : Nat) (hx : x < 4294967296) : Sha.s1 x < 4294967296 := xor_lt (xor_lt (rotr_lt 17 x hx (by decide)) (rotr_lt 19 x hx (by decide))) (by omega)
theorem bits_s0 (x : Nat) (hx : x < 4294967296) : bits .xor .u32 (bits .xor .u32 ((Sha.rotr 7 x : Nat) : Int) ((Sha.rotr 18 x : Nat) : Int)) ((x : Int) / 8) = ((Sha.s0 x : Nat) : Int) := by
  rw [u32_xor_nat _ _ (rotr_lt 7 x hx (by decide)) (rotr_lt 18 x hx (by decide)), show (x : Int) / 8 = ((x / 8 : Nat) : Int) by omega, u32_xor_nat _ _ (xor_lt (rotr_lt 7 x hx (by decide)) (rotr_lt 18 x hx (by decide))) (by omega)]
  rfl
theorem bits_s1 (x : Nat) (hx : x < 4294967296) : bits .xor .u32 (bits .xor .u32 ((Sha.rotr 17 x : Nat) : Int) ((Sha.rotr 19 x : Nat) : Int)) ((x : Int) / 1024) = ((Sha.s1 x : Nat) : Int) := by
  rw [u32_xor_nat _ _ (rotr_lt 17 x hx (by decide)) (rotr_lt 19 x hx (by decide)), show (x : Int) / 1024 = ((x / 1024 : Nat) : Int) by omega, u32_xor_nat _ _ (xor_lt (rotr_lt 17 x hx (by decide)) (rotr_lt 19 x hx (by decide))) (by omega)]
  rfl
end Go.Proofs.YtkiaeepdpmcafaaDoor
