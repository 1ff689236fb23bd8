/-
  Sha, ShaRot, ShaBits, ShaSched: one text.
-/
import Derived.Test.YthaicocfbmpnmaaDoorLMBase
import Derived.Laws.BitsAllLaws
import Derived.Test.YthaicocfbmpnmaaDoorLMText
import Derived.Test.YthaicocfbmpnmaaDoorLNFlow
namespace Go.Proofs.YthaicocfbmpnmaaDoor.Sha

abbrev M : Nat := 4294967296

structure St where
  a : Nat
  b : Nat
  c : Nat
  d : Nat
  e : Nat
  f : Nat
  g : Nat
  h : Nat

def rotr (n x : Nat) : Nat := x / 2 ^ n + x % 2 ^ n * 2 ^ (32 - n)
def S1 (e : Nat) : Nat := (rotr 6 e ^^^ rotr 11 e) ^^^ rotr 25 e
def S0 (a : Nat) : Nat := (rotr 2 a ^^^ rotr 13 a) ^^^ rotr 22 a
def ch (e f g : Nat) : Nat := (e &&& f) ^^^ ((4294967295 - e) &&& g)
def maj (a b c : Nat) : Nat := ((a &&& b) ^^^ (a &&& c)) ^^^ (b &&& c)
def t1 (s : St) (k w : Nat) : Nat := (s.h + S1 s.e + ch s.e s.f s.g + k + w) % M
def t2 (s : St) : Nat := (S0 s.a + maj s.a s.b s.c) % M
def round (k w : Nat) (s : St) : St := ⟨(t1 s k w + t2 s) % M, s.a, s.b, s.c, (s.d + t1 s k w) % M, s.e, s.f, s.g⟩

def s0 (x : Nat) : Nat := (rotr 7 x ^^^ rotr 18 x) ^^^ x / 8
def s1 (y : Nat) : Nat := (rotr 17 y ^^^ rotr 19 y) ^^^ y / 1024

/-- a word of a block -/
def word (bl : List Nat) (t : Nat) : Nat := bl.getD (4 * t) 0 * 16777216 + bl.getD (4 * t + 1) 0 * 65536 + bl.getD (4 * t + 2) 0 * 256 + bl.getD (4 * t + 3) 0
def next (ws : List Nat) (t : Nat) : Nat := (s1 (ws.getD (t - 2) 0) + ws.getD (t - 7) 0 + s0 (ws.getD (t - 15) 0) + ws.getD (t - 16) 0) % M
/-- the first n words of a block, n from 16 on by the ones ahead -/
def sched (bl : List Nat) : Nat → List Nat
  | 0 => []
  | t + 1 => sched bl t ++ [if t < 16 then word bl t else next (sched bl t) t]

def keys : List Nat := [0x428a2f98, 0x71374491, 0xb5c0fbcf, 0xe9b5dba5, 0x3956c25b, 0x59f111f1, 0x923f82a4, 0xab1c5ed5, 0xd807aa98, 0x12835b01, 0x243185be, 0x550c7dc3, 0x72be5d74, 0x80deb1fe, 0x9bdc06a7, 0xc19bf174, 0xe49b69c1, 0xefbe4786, 0x0fc19dc6, 0x240ca1cc, 0x2de92c6f, 0x4a7484aa, 0x5cb0a9dc, 0x76f988da, 0x983e5152, 0xa831c66d, 0xb00327c8, 0xbf597fc7, 0xc6e00bf3, 0xd5a79147, 0x06ca6351, 0x14292967, 0x27b70a85, 0x2e1b2138, 0x4d2c6dfc, 0x53380d13, 0x650a7354, 0x766a0abb, 0x81c2c92e, 0x92722c85, 0xa2bfe8a1, 0xa81a664b, 0xc24b8b70, 0xc76c51a3, 0xd192e819, 0xd6990624, 0xf40e3585, 0x106aa070, 0x19a4c116, 0x1e376c08, 0x2748774c, 0x34b0bcb5, 0x391c0cb3, 0x4ed8aa4a, 0x5b9cca4f, 0x682e6ff3, 0x748f82ee, 0x78a5636f, 0x84c87814, 0x8cc70208, 0x90befffa, 0xa4506ceb, 0xbef9a3f7, 0xc67178f2]
def start : St := ⟨0x6a09e667, 0xbb67ae85, 0x3c6ef372, 0xa54ff53a, 0x510e527f, 0x9b05688c, 0x1f83d9ab, 0x5be0cd19⟩

def rounds (ws : List Nat) (s : St) : Nat → St
  | 0 => s
  | n + 1 => round (keys.getD n 0) (ws.getD n 0) (rounds ws s n)

def add (s v : St) : St := ⟨(s.a + v.a) % M, (s.b + v.b) % M, (s.c + v.c) % M, (s.d + v.d) % M, (s.e + v.e) % M, (s.f + v.f) % M, (s.g + v.g) % M, (s.h + v.h) % M⟩
def compress (s : St) (bl : List Nat) : St := add s (rounds (sched bl 64) s 64)

/-- n blocks of a text -/
def run (s : St) (bs : List Nat) : Nat → St
  | 0 => s
  | n + 1 => compress (run s bs n) ((bs.drop (64 * n)).take 64)

/-- the k bytes of a number, the highest first -/
def nbe : Nat → Nat → List Nat
  | 0, _ => []
  | k + 1, n => nbe k (n / 256) ++ [n % 256]

def zerosFor (n : Nat) : Nat := (119 - n % 64) % 64
def pad (bs : List Nat) : List Nat := bs ++ 128 :: (List.replicate (zerosFor bs.length) 0 ++ nbe 8 (8 * bs.length))
def out (s : St) : List Nat := nbe 4 s.a ++ nbe 4 s.b ++ nbe 4 s.c ++ nbe 4 s.d ++ nbe 4 s.e ++ nbe 4 s.f ++ nbe 4 s.g ++ nbe 4 s.h
def sum (bs : List Nat) : List Nat := out (run start (pad bs) ((pad bs).length / 64))
end Go.Proofs.YthaicocfbmpnmaaDoor.Sha

namespace Go.Proofs.YthaicocfbmpnmaaDoor
open Go.ChangeShapes Go.WideShapes Go.ChangeAt Go.RowKit

set_option maxRecDepth 100000 in
theorem neg_and (n : Nat) (h1 : 1 ≤ n) (h2 : n ≤ 31) : bits .and .u64 (IntKind.u64.wrap (-(n : Int))) 31 = ((32 - n : Nat) : Int) := by
  have hw : IntKind.u64.wrap (-(n : Int)) = ((18446744073709551616 - n : Nat) : Int) := by
    simp [IntKind.wrap, IntKind.bits, IntKind.signed]
    omega
  rw [hw, show (31 : Int) = ((31 : Nat) : Int) from rfl, u64_and_nat _ _ (by omega) (by omega)]
  have key : ∀ m : Fin 32, 1 ≤ m.val → (18446744073709551616 - m.val) &&& 31 = 32 - m.val := by decide +kernel
  rw [key ⟨n, by omega⟩ h1]

set_option maxRecDepth 100000 in
theorem rot_or (x n s : Nat) (hx : x < 4294967296) (hn : s + n = 32) : bits .or .u32 ((x : Int) * 2 ^ s % 4294967296) ((x : Int) / 2 ^ n) = ((Sha.rotr n x : Nat) : Int) := by
  have hp : 2 ^ s * 2 ^ n = 4294967296 := by rw [← Nat.pow_add, hn]
  have e0 : x * 2 ^ s % 4294967296 = x % 2 ^ n * 2 ^ s := by
    rw [← hp, Nat.mul_comm (2 ^ s) (2 ^ n), Nat.mul_mod_mul_right]
  have e1 : (x : Int) * 2 ^ s % 4294967296 = ((x % 2 ^ n * 2 ^ s : Nat) : Int) := by
    rw [← e0, Int.natCast_emod, Int.natCast_mul, Int.natCast_pow]
    rfl
  have e2 : (x : Int) / 2 ^ n = ((x / 2 ^ n : Nat) : Int) := by
    rw [Int.natCast_ediv, Int.natCast_pow]
    rfl
  have hpos : 0 < 2 ^ n := Nat.pow_pos (by decide)
  have hpos2 : 0 < 2 ^ s := Nat.pow_pos (by decide)
  have b1 : x / 2 ^ n < 2 ^ s := by
    rw [Nat.div_lt_iff_lt_mul hpos, hp]; exact hx
  have b2 : x % 2 ^ n * 2 ^ s < 4294967296 := by
    rw [← hp, Nat.mul_comm (2 ^ s) (2 ^ n)]
    exact Nat.mul_lt_mul_of_pos_right (Nat.mod_lt _ hpos) hpos2
  have b3 : 2 ^ s ≤ 2 ^ 32 := Nat.pow_le_pow_right (by decide) (by omega)
  rw [e1, e2, u32_or_nat _ _ b2 (Nat.lt_of_lt_of_le b1 b3)]
  congr 1
  have := Nat.shiftLeft_add_eq_or_of_lt b1 (x % 2 ^ n)
  rw [Nat.shiftLeft_eq] at this
  unfold Sha.rotr
  rw [← this, show 32 - n = s by omega, Nat.add_comm]

set_option maxRecDepth 100000 in
set_option maxHeartbeats 1000000 in
theorem rot_any (x n : Nat) (w : World) (hx : x < 4294967296) (h1 : 1 ≤ n) (h2 : n ≤ 31) :
    Calls Tryd.prog 98 #[.int .u32 x, .int .i64 (-n)] w fun e w' => e = .returned (.int .u32 (Sha.rotr n x : Nat)) ∧ w = w' := by
  have hs := neg_and n h1 h2
  obtain ⟨s, hsn⟩ : ∃ s, s = 32 - n := ⟨_, rfl⟩
  rw [← hsn] at hs
  have ho := rot_or x n s hx (by omega)
  have hr : (32 - (s : Int)).toNat = n := by omega
  have hs1 : 1 ≤ s ∧ s ≤ 31 := by omega
  obtain ⟨hs1, hs2⟩ := hs1
  clear hsn
  go_enter Tryd.func98, Tryd.ntmps98
  go_wp2
  go_ret
  exact ⟨rfl, rfl⟩

set_option maxRecDepth 100000 in
theorem rot_int (x n : Nat) (m : Int) (w : World) (hx : x < 4294967296) (h1 : 1 ≤ n) (h2 : n ≤ 31) (hm : m = -(n : Int)) :
    Calls Tryd.prog 98 #[.int .u32 x, .int .i64 m] w fun e w' => e = .returned (.int .u32 (Sha.rotr n x : Nat)) ∧ w = w' := by
  subst hm
  exact rot_any x n w hx h1 h2

set_option maxRecDepth 100000 in
theorem rotr_lt (n x : Nat) (hx : x < 4294967296) (h2 : n ≤ 32) : Sha.rotr n x < 4294967296 := by
  have hp : 2 ^ (32 - n) * 2 ^ n = 4294967296 := by rw [← Nat.pow_add, show 32 - n + n = 32 by omega]
  have hpos : 0 < 2 ^ n := Nat.pow_pos (by decide)
  have hpos2 : 0 < 2 ^ (32 - n) := Nat.pow_pos (by decide)
  have b1 : x / 2 ^ n < 2 ^ (32 - n) := by
    rw [Nat.div_lt_iff_lt_mul hpos, hp]; exact hx
  have b2 : x % 2 ^ n * 2 ^ (32 - n) + 2 ^ (32 - n) ≤ 4294967296 := by
    rw [← Nat.succ_mul, ← hp, Nat.mul_comm (2 ^ (32 - n)) (2 ^ n)]
    exact Nat.mul_le_mul_right _ (Nat.mod_lt _ hpos)
  unfold Sha.rotr
  omega

set_option maxRecDepth 100000 in
set_option maxHeartbeats 1000000 in
theorem right_any (x n : Nat) (p q : Int) (w : World) (hx : x < 4294967296) (h2 : n ≤ 31) (hp : p = ((2 ^ n : Nat) : Int)) (hq : q = ((2 ^ (32 - n) : Nat) : Int)) :
    Calls Tryd.prog 78 #[.int .u32 x, .int .u32 p, .int .u32 q] w fun e w' => e = .returned (.int .u32 (Sha.rotr n x : Nat)) ∧ Below w.heap.size w w' := by
  have hlt := rotr_lt n x hx (by omega)
  have hr : ((Sha.rotr n x : Nat) : Int) = (x : Int) / p + (x : Int) % p * q := by
    rw [hp, hq]
    unfold Sha.rotr
    rw [Int.natCast_add, Int.natCast_mul, Int.natCast_ediv, Int.natCast_emod]
  have p1 : 1 ≤ p ∧ p ≤ 2147483648 := by
    rw [hp]
    have h1 : 2 ^ n ≤ 2 ^ 31 := Nat.pow_le_pow_right (by decide) h2
    have h0 : 0 < 2 ^ n := Nat.pow_pos (by decide)
    omega
  have m0 : 0 ≤ (x : Int) % p * q ∧ 0 ≤ (x : Int) / p := by
    rw [hp, hq]
    exact ⟨Int.mul_nonneg (Int.emod_nonneg _ (by rw [← hp]; omega)) (Int.natCast_nonneg _), Int.ediv_nonneg (Int.natCast_nonneg _) (Int.natCast_nonneg _)⟩
  have Hr := hid hr
  have hs : (x : Int) / p + (x : Int) % p * q < 4294967296 := by omega
  obtain ⟨m1, m2⟩ := m0
  obtain ⟨p1, p2⟩ := p1
  clear hr hp hq hlt
  have hm : (x : Int) % p * q < 4294967296 := by omega
  go_enter Tryd.func78, Tryd.ntmps78
  go_wp2
  go_quiet (fail)
  go_wp2_with fail
  go_ret
  exact ⟨by rw [Hr.out]; rfl, rfl, rfl, rfl, Nat.le_refl _, fun _ _ => rfl⟩

set_option maxRecDepth 100000 in
theorem xor_lt {a b : Nat} (ha : a < 4294967296) (hb : b < 4294967296) : a ^^^ b < 4294967296 := Nat.xor_lt_two_pow (n := 32) ha hb
set_option maxRecDepth 100000 in
theorem and_lt {a b : Nat} (ha : a < 4294967296) : a &&& b < 4294967296 := Nat.lt_of_le_of_lt Nat.and_le_left ha
set_option maxRecDepth 100000 in
theorem or_lt {a b : Nat} (ha : a < 4294967296) (hb : b < 4294967296) : a ||| b < 4294967296 := Nat.or_lt_two_pow (n := 32) ha hb
set_option maxRecDepth 100000 in
theorem s0_lt (x : Nat) (hx : x < 4294967296) : Sha.s0 x < 4294967296 := xor_lt (xor_lt (rotr_lt 7 x hx (by decide)) (rotr_lt 18 x hx (by decide))) (by omega)
set_option maxRecDepth 100000 in
theorem s1_lt (x : Nat) (hx : x < 4294967296) : Sha.s1 x < 4294967296 := xor_lt (xor_lt (rotr_lt 17 x hx (by decide)) (rotr_lt 19 x hx (by decide))) (by omega)
set_option maxRecDepth 100000 in
theorem bits_s0 (x : Nat) (hx : x < 4294967296) : bits .xor .u32 (bits .xor .u32 ((Sha.rotr 7 x : Nat) : Int) ((Sha.rotr 18 x : Nat) : Int)) ((x : Int) / 8) = ((Sha.s0 x : Nat) : Int) := by
  rw [u32_xor_nat _ _ (rotr_lt 7 x hx (by decide)) (rotr_lt 18 x hx (by decide)), show (x : Int) / 8 = ((x / 8 : Nat) : Int) by omega, u32_xor_nat _ _ (xor_lt (rotr_lt 7 x hx (by decide)) (rotr_lt 18 x hx (by decide))) (by omega)]
  rfl
set_option maxRecDepth 100000 in
theorem bits_s1 (x : Nat) (hx : x < 4294967296) : bits .xor .u32 (bits .xor .u32 ((Sha.rotr 17 x : Nat) : Int) ((Sha.rotr 19 x : Nat) : Int)) ((x : Int) / 1024) = ((Sha.s1 x : Nat) : Int) := by
  rw [u32_xor_nat _ _ (rotr_lt 17 x hx (by decide)) (rotr_lt 19 x hx (by decide)), show (x : Int) / 1024 = ((x / 1024 : Nat) : Int) by omega, u32_xor_nat _ _ (xor_lt (rotr_lt 17 x hx (by decide)) (rotr_lt 19 x hx (by decide))) (by omega)]
  rfl
end Go.Proofs.YthaicocfbmpnmaaDoor

namespace Go.Proofs.YthaicocfbmpnmaaDoor
open Go.RowKit

set_option maxRecDepth 100000 in
theorem ch_alt (e f g : Nat) (he : e < 4294967296) (hg : g < 4294967296) : g ^^^ (e &&& (f ^^^ g)) = Sha.ch e f g := by
  unfold Sha.ch
  apply Nat.eq_of_testBit_eq
  intro i
  have hc : (4294967295 - e).testBit i = (decide (i < 32) && !e.testBit i) := by
    have := Nat.testBit_two_pow_sub_succ (n := 32) (x := e) he i
    rwa [show 2 ^ 32 - (e + 1) = 4294967295 - e by omega] at this
  simp only [Nat.testBit_xor, Nat.testBit_and, hc]
  by_cases hi : i < 32
  · simp only [hi, decide_true, Bool.true_and]
    cases e.testBit i <;> cases f.testBit i <;> cases g.testBit i <;> rfl
  · have hgi : g.testBit i = false := Nat.testBit_lt_two_pow (Nat.lt_of_lt_of_le hg (Nat.pow_le_pow_right (n := 2) (by decide) (show 32 ≤ i by omega)))
    have hei : e.testBit i = false := Nat.testBit_lt_two_pow (Nat.lt_of_lt_of_le he (Nat.pow_le_pow_right (n := 2) (by decide) (show 32 ≤ i by omega)))
    simp [hgi, hei]

set_option maxRecDepth 100000 in
theorem maj_alt (a b c : Nat) : (a &&& b) ||| (c &&& (a ||| b)) = Sha.maj a b c := by
  unfold Sha.maj
  apply Nat.eq_of_testBit_eq
  intro i
  simp only [Nat.testBit_xor, Nat.testBit_and, Nat.testBit_or]
  cases a.testBit i <;> cases b.testBit i <;> cases c.testBit i <;> rfl

section
variable {a b c e f g : Nat}
set_option maxRecDepth 100000 in
theorem S1_lt (he : e < 4294967296) : Sha.S1 e < 4294967296 := xor_lt (xor_lt (rotr_lt 6 e he (by decide)) (rotr_lt 11 e he (by decide))) (rotr_lt 25 e he (by decide))
set_option maxRecDepth 100000 in
theorem S0_lt (ha : a < 4294967296) : Sha.S0 a < 4294967296 := xor_lt (xor_lt (rotr_lt 2 a ha (by decide)) (rotr_lt 13 a ha (by decide))) (rotr_lt 22 a ha (by decide))
set_option maxRecDepth 100000 in
theorem ch_lt (he : e < 4294967296) : Sha.ch e f g < 4294967296 := xor_lt (and_lt he) (and_lt (by omega))
set_option maxRecDepth 100000 in
theorem maj_lt (ha : a < 4294967296) (hb : b < 4294967296) : Sha.maj a b c < 4294967296 := xor_lt (xor_lt (and_lt ha) (and_lt ha)) (and_lt hb)
set_option maxRecDepth 100000 in
theorem bits_S1 (he : e < 4294967296) : bits .xor .u32 (bits .xor .u32 ((Sha.rotr 6 e : Nat) : Int) ((Sha.rotr 11 e : Nat) : Int)) ((Sha.rotr 25 e : Nat) : Int) = ((Sha.S1 e : Nat) : Int) := by
  rw [u32_xor_nat _ _ (rotr_lt 6 e he (by decide)) (rotr_lt 11 e he (by decide)), u32_xor_nat _ _ (xor_lt (rotr_lt 6 e he (by decide)) (rotr_lt 11 e he (by decide))) (rotr_lt 25 e he (by decide))]
  rfl
set_option maxRecDepth 100000 in
theorem bits_S0 (ha : a < 4294967296) : bits .xor .u32 (bits .xor .u32 ((Sha.rotr 2 a : Nat) : Int) ((Sha.rotr 13 a : Nat) : Int)) ((Sha.rotr 22 a : Nat) : Int) = ((Sha.S0 a : Nat) : Int) := by
  rw [u32_xor_nat _ _ (rotr_lt 2 a ha (by decide)) (rotr_lt 13 a ha (by decide)), u32_xor_nat _ _ (xor_lt (rotr_lt 2 a ha (by decide)) (rotr_lt 13 a ha (by decide))) (rotr_lt 22 a ha (by decide))]
  rfl
set_option maxRecDepth 100000 in
theorem bits_ch (he : e < 4294967296) (hf : f < 4294967296) (hg : g < 4294967296) : bits .xor .u32 (g : Int) (bits .and .u32 (e : Int) (bits .xor .u32 (f : Int) (g : Int))) = ((Sha.ch e f g : Nat) : Int) := by
  rw [u32_xor_nat _ _ hf hg, u32_and_nat _ _ he (xor_lt hf hg), u32_xor_nat _ _ hg (and_lt he), ch_alt e f g he hg]
set_option maxRecDepth 100000 in
theorem bits_maj (ha : a < 4294967296) (hb : b < 4294967296) (hc : c < 4294967296) : bits .or .u32 (bits .and .u32 (a : Int) (b : Int)) (bits .and .u32 (c : Int) (bits .or .u32 (a : Int) (b : Int))) = ((Sha.maj a b c : Nat) : Int) := by
  rw [u32_and_nat _ _ ha hb, u32_or_nat _ _ ha hb, u32_and_nat _ _ hc (or_lt ha hb), u32_or_nat _ _ (and_lt ha) (and_lt hc), maj_alt]
set_option maxRecDepth 100000 in
/-- as the reference writes them -/
theorem bits_ch_ref (he : e < 4294967296) (hf : f < 4294967296) (hg : g < 4294967296) : bits .xor .u32 (bits .and .u32 (e : Int) (f : Int)) (bits .and .u32 (4294967295 - (e : Int)) (g : Int)) = ((Sha.ch e f g : Nat) : Int) := by
  rw [show 4294967295 - (e : Int) = ((4294967295 - e : Nat) : Int) by omega, u32_and_nat _ _ he hf, u32_and_nat _ _ (by omega) hg, u32_xor_nat _ _ (and_lt he) (and_lt (by omega))]
  rfl
set_option maxRecDepth 100000 in
theorem bits_maj_ref (ha : a < 4294967296) (hb : b < 4294967296) (hc : c < 4294967296) : bits .xor .u32 (bits .xor .u32 (bits .and .u32 (a : Int) (b : Int)) (bits .and .u32 (a : Int) (c : Int))) (bits .and .u32 (b : Int) (c : Int)) = ((Sha.maj a b c : Nat) : Int) := by
  rw [u32_and_nat _ _ ha hb, u32_and_nat _ _ ha hc, u32_and_nat _ _ hb hc, u32_xor_nat _ _ (and_lt ha) (and_lt ha), u32_xor_nat _ _ (xor_lt (and_lt ha) (and_lt ha)) (and_lt hb)]
  rfl
end

structure Ok (s : Sha.St) : Prop where
  a : s.a < 4294967296
  b : s.b < 4294967296
  c : s.c < 4294967296
  d : s.d < 4294967296
  e : s.e < 4294967296
  f : s.f < 4294967296
  g : s.g < 4294967296
  h : s.h < 4294967296
set_option maxRecDepth 100000 in
theorem Ok.round {s : Sha.St} (h : Ok s) (k w : Nat) : Ok (Sha.round k w s) := ⟨Nat.mod_lt _ (by decide), h.a, h.b, h.c, Nat.mod_lt _ (by decide), h.e, h.f, h.g⟩
set_option maxRecDepth 100000 in
theorem Ok.rounds {s : Sha.St} (h : Ok s) (ws : List Nat) : ∀ n, Ok (Sha.rounds ws s n)
  | 0 => h
  | n + 1 => (Ok.rounds h ws n).round _ _
set_option maxRecDepth 100000 in
theorem Ok.compress (s : Sha.St) (bl : List Nat) : Ok (Sha.compress s bl) := ⟨Nat.mod_lt _ (by decide), Nat.mod_lt _ (by decide), Nat.mod_lt _ (by decide), Nat.mod_lt _ (by decide), Nat.mod_lt _ (by decide), Nat.mod_lt _ (by decide), Nat.mod_lt _ (by decide), Nat.mod_lt _ (by decide)⟩
set_option maxRecDepth 100000 in
theorem Ok.start : Ok Sha.start := ⟨by decide, by decide, by decide, by decide, by decide, by decide, by decide, by decide⟩
set_option maxRecDepth 100000 in
theorem Ok.run {s : Sha.St} (h : Ok s) (bs : List Nat) : ∀ n, Ok (Sha.run s bs n)
  | 0 => h
  | _ + 1 => Ok.compress _ _
set_option maxRecDepth 100000 in
theorem keys_lt (j : Nat) : Sha.keys.getD j 0 < 4294967296 := by
  rcases Nat.lt_or_ge j 64 with h | h
  · have key : ∀ j : Fin 64, Sha.keys.getD j.val 0 < 4294967296 := by decide +kernel
    exact key ⟨j, h⟩
  · rw [List.getD_eq_getElem?_getD, List.getElem?_eq_none (by simpa [Sha.keys] using h)]
    simp
end Go.Proofs.YthaicocfbmpnmaaDoor

namespace Go.Proofs.YthaicocfbmpnmaaDoor
open Go.ChangeShapes Go.WideShapes Go.ChangeAt Go.RowKit

def natB (bs : List Int) : List Nat := bs.map Int.toNat
set_option maxRecDepth 100000 in
theorem natB_getD (bs : List Int) (hb : ∀ x ∈ bs, 0 ≤ x ∧ x < 256) (j : Nat) : bs.getD j 0 = (((natB bs).getD j 0 : Nat) : Int) ∧ (natB bs).getD j 0 < 256 := by
  unfold natB
  rcases Nat.lt_or_ge j bs.length with hj | hj
  · have := hb bs[j] (List.getElem_mem _)
    simp [hj]
    omega
  · simp [hj]

/-- words, then 0 *
-/
def wordCells (n : Nat) (ws : List Nat) : Array Value := (ws.map (fun x : Nat => Value.int .u32 x) ++ List.replicate (n - ws.length) (Value.int .u32 0)).toArray
set_option maxRecDepth 100000 in
theorem wordCells_size (n : Nat) (ws : List Nat) (h : ws.length ≤ n) : (wordCells n ws).size = n := by simp [wordCells]; omega
set_option maxRecDepth 100000 in
theorem wordCells_set (n : Nat) (ws : List Nat) (x : Nat) (h : ws.length < n) : (wordCells n ws).setIfInBounds ws.length (.int .u32 x) = wordCells n (ws ++ [x]) := by
  unfold wordCells
  rw [List.setIfInBounds_toArray, List.set_append_right _ _ (by simp)]
  simp only [List.length_map, Nat.sub_self, List.map_append, List.map_cons, List.map_nil, List.length_append, List.length_cons, List.length_nil, List.append_assoc, List.singleton_append]
  congr 2
  obtain ⟨m, hm⟩ : ∃ m, n - ws.length = m + 1 := ⟨n - ws.length - 1, by omega⟩
  rw [hm, show n - (ws.length + (0 + 1)) = m by omega, List.replicate_succ, List.set_cons_zero]
set_option maxRecDepth 100000 in
theorem wordCells_get (n : Nat) (ws : List Nat) (j : Nat) (h : j < ws.length) : (wordCells n ws)[j]? = some (.int .u32 (ws.getD j 0 : Nat)) := by
  simp [wordCells, h, List.getElem?_append_left]
set_option maxRecDepth 100000 in
theorem wordCells_zero (n : Nat) (ws : List Nat) (h : ws.length < n) : (wordCells n ws)[ws.length]? = some (.int .u32 0) := by
  unfold wordCells
  rw [List.getElem?_toArray, List.getElem?_append_right (by simp), List.length_map, Nat.sub_self, List.getElem?_replicate, if_pos (by omega)]
set_option maxRecDepth 100000 in
theorem sched_length (bl : List Nat) : ∀ t, (Sha.sched bl t).length = t
  | 0 => rfl
  | t + 1 => by simp [Sha.sched, sched_length bl t]

set_option maxRecDepth 100000 in
theorem or_low (x y n p : Nat) (hp : p = 2 ^ n) (hy : y < p) : x * p ||| y = x * p + y := by
  subst hp
  have := Nat.shiftLeft_add_eq_or_of_lt hy x
  rw [Nat.shiftLeft_eq] at this
  exact this.symm
set_option maxRecDepth 100000 in
theorem or_four (a b c d : Nat) (ha : a < 256) (hb : b < 256) (hc : c < 256) (hd : d < 256) :
    bits .or .u32 (bits .or .u32 (bits .or .u32 ((a : Int) * 16777216) ((b : Int) * 65536)) ((c : Int) * 256)) (d : Int) = ((a * 16777216 + b * 65536 + c * 256 + d : Nat) : Int) := by
  have e1 : (a : Int) * 16777216 = ((a * 16777216 : Nat) : Int) := by omega
  have e2 : (b : Int) * 65536 = ((b * 65536 : Nat) : Int) := by omega
  have e3 : (c : Int) * 256 = ((c * 256 : Nat) : Int) := by omega
  have o1 : a * 16777216 ||| b * 65536 = a * 16777216 + b * 65536 := or_low a (b * 65536) 24 16777216 rfl (by omega)
  have o2 : (a * 16777216 + b * 65536) ||| c * 256 = a * 16777216 + b * 65536 + c * 256 := by
    rw [show a * 16777216 + b * 65536 = (a * 256 + b) * 65536 by omega]
    exact or_low (a * 256 + b) (c * 256) 16 65536 rfl (by omega)
  have o3 : (a * 16777216 + b * 65536 + c * 256) ||| d = a * 16777216 + b * 65536 + c * 256 + d := by
    rw [show a * 16777216 + b * 65536 + c * 256 = (a * 65536 + b * 256 + c) * 256 by omega]
    exact or_low (a * 65536 + b * 256 + c) d 8 256 rfl (by omega)
  rw [e1, e2, e3, u32_or_nat _ _ (by omega) (by omega), o1, u32_or_nat _ _ (by omega) (by omega), o2, u32_or_nat _ _ (by omega) (by omega), o3]

set_option maxRecDepth 100000 in
theorem But.cell {b : Nat} {w w' : World} (h : But b w w') {x o : Nat} (hx : x < w.heap.size) (hne : x ≠ b) : w'.cell? ⟨x, o, none⟩ = w.cell? ⟨x, o, none⟩ :=
  World.cell?_of_block (h.block x hx hne)

set_option maxRecDepth 100000 in
theorem next_lt (ws : List Nat) (t : Nat) : Sha.next ws t < 4294967296 := Nat.mod_lt _ (by decide)
set_option maxRecDepth 100000 in
theorem sched_lt (bl : List Nat) (hb : ∀ j, bl.getD j 0 < 256) : ∀ (t j : Nat), (Sha.sched bl t).getD j 0 < 4294967296
  | 0, j => by simp [Sha.sched]
  | t + 1, j => by
    rw [Sha.sched, List.getD_eq_getElem?_getD]
    rcases Nat.lt_or_ge j (Sha.sched bl t).length with h | h
    · rw [List.getElem?_append_left h, ← List.getD_eq_getElem?_getD]
      exact sched_lt bl hb t j
    · rw [List.getElem?_append_right h]
      rcases Nat.eq_zero_or_pos (j - (Sha.sched bl t).length) with h0 | h0
      · rw [h0]
        simp only [List.getElem?_cons_zero, Option.getD_some]
        split
        · unfold Sha.word
          have h1 := hb (4 * t); have h2 := hb (4 * t + 1); have h3 := hb (4 * t + 2); have h4 := hb (4 * t + 3)
          omega
        · exact next_lt _ _
      · rw [List.getElem?_eq_none (by simp; omega)]
        simp

set_option maxHeartbeats 4000000 in
set_option maxRecDepth 100000 in
theorem schedule_any (pb : Nat) (T : TypeId) (a : Option Addr) (cap : Nat) (bl : List Int) (w : World) (hk : Blk w pb (wordCells 64 []) T) (hT : TextAt w a 64 cap bl) (hne : ∀ p : Addr, a = some p → p.block ≠ pb) :
    Calls Tryd.prog 97 #[.pointer (some ⟨pb, 0, none⟩), .slice a 64 cap] w fun e w' => e = .returned (.tuple #[]) ∧ But pb w w' ∧ Blk w' pb (wordCells 64 (Sha.sched (natB bl) 64)) T := by
  have hle := hT.le
  have hmx := hT.max
  obtain ⟨x, o, rfl, hx, hc⟩ := hT.at_ (by omega)
  have hxb : x ≠ pb := hne _ rfl
  have Hs := hid hT.small
  have Hc := hid hc
  have Hlen := hid hT.length
  clear hT hc hne
  go_enter Tryd.func97, Tryd.ntmps97
  go_wp2_with fail
  go_loopw [11] (fun i wr => ∃ k : Nat, k ≤ 16 ∧ i = .int .i64 k ∧ Blk wr pb (wordCells 64 (Sha.sched (natB bl) k)) T ∧ But pb w wr) (fun i _ => 16 - (intOf i).toNat)
  case atStart => exact ⟨0, by omega, rfl, hk, But.of (Below.refl _ _)⟩
  case round =>
    clear hk
    obtain ⟨k, hk, rfl, kW, but⟩ := hrel
    by_cases hlt : k < 16
    · have hl := sched_length (natB bl) k
      have h44 : 4 * k + 4 - 4 * k = 4 := by omega
      have q0 := Hc.out (4 * k) (by omega)
      have q1 := Hc.out (4 * k + 1) (by omega)
      have q2 := Hc.out (4 * k + 2) (by omega)
      have q3 := Hc.out (4 * k + 3) (by omega)
      obtain ⟨y0, b0⟩ := natB_getD bl Hs.out (4 * k)
      obtain ⟨y1, b1⟩ := natB_getD bl Hs.out (4 * k + 1)
      obtain ⟨y2, b2⟩ := natB_getD bl Hs.out (4 * k + 2)
      obtain ⟨y3, b3⟩ := natB_getD bl Hs.out (4 * k + 3)
      rw [y0] at q0; rw [y1] at q1; rw [y2] at q2; rw [y3] at q3
      have hz : wr.cell? ⟨pb, k, none⟩ = some (.int .u32 0) := by rw [kW.cell]; have := wordCells_zero 64 (Sha.sched (natB bl) k) (by omega); rwa [hl] at this
      have HSc := hid (show Sha.sched (natB bl) (k + 1) = Sha.sched (natB bl) k ++ [(natB bl).getD (4 * k) 0 * 16777216 + (natB bl).getD (4 * k + 1) 0 * 65536 + (natB bl).getD (4 * k + 2) 0 * 256 + (natB bl).getD (4 * k + 3) 0] by rw [Sha.sched, if_pos hlt]; rfl)
      clear y0 y1 y2 y3
      generalize (natB bl).getD (4 * k) 0 = y0 at *
      generalize (natB bl).getD (4 * k + 1) 0 = y1 at *
      generalize (natB bl).getD (4 * k + 2) 0 = y2 at *
      generalize (natB bl).getD (4 * k + 3) 0 = y3 at *
      go_wp2_with fail
      refine wp_region_flow 26 [0, 1, 2, 3, 4, 5, 6, 7, 8, 9, 10, 11, 12, 13, 14, 15, 16, 17, 18, 19, 20, 21, 22, 23, 24, 25] [] [] (by kernel_rfl) (by kernel_rfl) ?_
      apply Exists.intro
      refine ⟨fun w0 hb0 hF0 => ?_, ?_⟩
      · have key : ∀ (e : Ext w0) (j : Nat) (v : Value), w.cell? ⟨x, o + j, none⟩ = some v → e.at_.cell? ⟨x, o + j, none⟩ = some v := fun e j v h => by
          rw [(Below.on hb0 e.same).cell (p := ⟨x, o + j, none⟩) (Nat.lt_of_lt_of_le hx but.size), but.cell hx hxb]; exact h
        have k0 := fun e => key e _ _ q0
        have k1 := fun e => key e _ _ q1
        have k2 := fun e => key e _ _ q2
        have k3 := fun e => key e _ _ q3
        simp only [← Nat.add_assoc] at k0 k1 k2 k3
        clear key
        simp only [pick, List.getElem?_toArray, List.getElem?_cons_succ, List.getElem?_cons_zero, Option.toList_some, List.cons_append, List.nil_append]
        repeat (go_big_quiet_step (fail))
        exact wpQuiet_nil rfl
      refine AlChk.nil ?_
      refine Walk.fin fun w3 h3 _ _ => ?_
      simp only [List.drop_succ_cons, List.drop_zero]
      have kW3 := kW.below h3
      have but3 := but.ext h3
      have f1 := kW3.free
      have hz3 : w3.cell? ⟨pb, k, none⟩ = some (.int .u32 0) := by rw [kW3.cell, ← kW.cell]; exact hz
      have HO := hid (or_four y0 y1 y2 y3 b0 b1 b2 b3)
      have HS := hid (show Sha.sched (natB bl) (k + 1) = Sha.sched (natB bl) k ++ [y0 * 16777216 + y1 * 65536 + y2 * 256 + y3] from HSc.out)
      clear kW but hz h3
      go_wp2_with fail
      have kW4 := kW3.set k (.int .u32 (bits .or .u32 (bits .or .u32 (bits .or .u32 ((y0 : Int) * 16777216) ((y1 : Int) * 65536)) ((y2 : Int) * 256)) (y3 : Int)))
      rw [HO.out] at kW4
      rw [HO.out]
      have := wordCells_set 64 (Sha.sched (natB bl) k) (y0 * 16777216 + y1 * 65536 + y2 * 256 + y3) (by omega)
      rw [hl] at this
      rw [this, ← HS.out] at kW4
      exact ⟨⟨k + 1, by omega, by go_num, kW4, but3.set (.inl rfl) _⟩, by simp [intOf]; omega⟩
    · have h16 : 16 = k := by omega
      rw [← h16] at kW
      have H16 := hid h16
      clear h16
      go_wp2_with fail
      clear hk hlt
      go_loopw [6] (fun i wr => ∃ m : Nat, 16 ≤ m ∧ m ≤ 64 ∧ i = .int .i64 m ∧ Blk wr pb (wordCells 64 (Sha.sched (natB bl) m)) T ∧ But pb w wr) (fun i _ => 64 - (intOf i).toNat)
      case atStart => exact ⟨16, by omega, by omega, rfl, kW, but⟩
      case round =>
        clear kW but
        obtain ⟨m, hk0, hk, rfl, kW, but⟩ := hrel
        by_cases hlt : m < 64
        · have hl := sched_length (natB bl) m
          have HS := hid (show Sha.sched (natB bl) (m + 1) = Sha.sched (natB bl) m ++ [Sha.next (Sha.sched (natB bl) m) m] by rw [Sha.sched, if_neg (by omega)])
          have q15 := wordCells_get 64 (Sha.sched (natB bl) m) (m - 15) (by omega)
          have q2 := wordCells_get 64 (Sha.sched (natB bl) m) (m - 2) (by omega)
          have q7 := wordCells_get 64 (Sha.sched (natB bl) m) (m - 7) (by omega)
          have q16 := wordCells_get 64 (Sha.sched (natB bl) m) (m - 16) (by omega)
          rw [← kW.cell] at q15 q2 q7 q16
          have hz : wr.cell? ⟨pb, m, none⟩ = some (.int .u32 0) := by rw [kW.cell]; have := wordCells_zero 64 (Sha.sched (natB bl) m) (by omega); rwa [hl] at this
          have hbw := sched_lt (natB bl) (fun j => (natB_getD bl Hs.out j).2) m
          have l15 := hbw (m - 15)
          have l2 := hbw (m - 2)
          have l7 := hbw (m - 7)
          have l16 := hbw (m - 16)
          have HN : Hid (Sha.next (Sha.sched (natB bl) m) m = (Sha.s1 ((Sha.sched (natB bl) m).getD (m - 2) 0) + (Sha.sched (natB bl) m).getD (m - 7) 0 + Sha.s0 ((Sha.sched (natB bl) m).getD (m - 15) 0) + (Sha.sched (natB bl) m).getD (m - 16) 0) % 4294967296) := hid rfl
          generalize (Sha.sched (natB bl) m).getD (m - 15) 0 = x15 at *
          generalize (Sha.sched (natB bl) m).getD (m - 2) 0 = x2 at *
          generalize (Sha.sched (natB bl) m).getD (m - 7) 0 = x7 at *
          generalize (Sha.sched (natB bl) m).getD (m - 16) 0 = x16 at *
          have e1 : ((m : Int) - 15).toNat = m - 15 := by omega
          have e2 : ((m : Int) - 2).toNat = m - 2 := by omega
          have e3 : ((m : Int) - 7).toNat = m - 7 := by omega
          have e4 : ((m : Int) - 16).toNat = m - 16 := by omega
          clear hbw
          go_wp2_with fail
          refine wp_region_flow 14 [0, 1, 2, 3, 4, 5, 6, 7, 8, 9, 10, 11, 12, 13] [] [] (by kernel_rfl) (by kernel_rfl) ?_
          apply Exists.intro
          refine ⟨fun w0 hb0 hF0 => ?_, ?_⟩
          · have k1 : ∀ e : Ext w0, e.at_.cell? ⟨pb, m - 15, none⟩ = some (.int .u32 x15) := fun e => by rw [((kW.below hb0).below e.same).cell, ← kW.cell]; exact q15
            have k2 : ∀ e : Ext w0, e.at_.cell? ⟨pb, m - 2, none⟩ = some (.int .u32 x2) := fun e => by rw [((kW.below hb0).below e.same).cell, ← kW.cell]; exact q2
            simp only [pick, List.getElem?_toArray, List.getElem?_cons_succ, List.getElem?_cons_zero, Option.toList_some, List.cons_append, List.nil_append]
            repeat (go_big_quiet_step (fail))
            exact wpQuiet_nil rfl
          refine AlChk.nil ?_
          refine Walk.fin fun w3 h3 _ _ => ?_
          simp only [List.drop_succ_cons, List.drop_zero]
          have kW3 := kW.below h3
          have but3 := but.ext h3
          have p7 : w3.cell? ⟨pb, m - 7, none⟩ = some (.int .u32 x7) := by rw [kW3.cell, ← kW.cell]; exact q7
          have p16 : w3.cell? ⟨pb, m - 16, none⟩ = some (.int .u32 x16) := by rw [kW3.cell, ← kW.cell]; exact q16
          have hz3 : w3.cell? ⟨pb, m, none⟩ = some (.int .u32 0) := by rw [kW3.cell, ← kW.cell]; exact hz
          have bs0 := bits_s0 x15 l15
          have bs1 := bits_s1 x2 l2
          have m0 := s0_lt x15 l15
          have m1 := s1_lt x2 l2
          clear q15 q2 q7 q16 kW but hz h3
          go_wp2_with (first | (go_at_call 98; refine (rot_int _ 7 _ _ (by assumption) (by decide) (by decide) (by decide)).mono ?_; rintro e w5 ⟨rfl, rfl⟩) | (go_at_call 98; refine (rot_int _ 18 _ _ (by assumption) (by decide) (by decide) (by decide)).mono ?_; rintro e w5 ⟨rfl, rfl⟩) | (go_at_call 98; refine (rot_int _ 17 _ _ (by assumption) (by decide) (by decide) (by decide)).mono ?_; rintro e w5 ⟨rfl, rfl⟩) | (go_at_call 98; refine (rot_int _ 19 _ _ (by assumption) (by decide) (by decide) (by decide)).mono ?_; rintro e w5 ⟨rfl, rfl⟩))
          clear bs0 bs1
          generalize hs0 : Sha.s0 x15 = z0 at *
          generalize hs1 : Sha.s1 x2 = z1 at *
          have HN2 := hid HN.out
          clear hs0 hs1 HN
          refine wp_region_flow 21 [0, 1, 2, 3, 4, 5, 6, 7, 8, 9, 10, 11, 12, 13, 14, 15, 16, 17, 18, 19, 20] [] [] (by kernel_rfl) (by kernel_rfl) ?_
          apply Exists.intro
          refine ⟨fun w0 hb0 hF0 => ?_, ?_⟩
          · have k1 : ∀ e : Ext w0, e.at_.cell? ⟨pb, m - 7, none⟩ = some (.int .u32 x7) := fun e => by rw [((kW3.below hb0).below e.same).cell, ← kW3.cell]; exact p7
            have k2 : ∀ e : Ext w0, e.at_.cell? ⟨pb, m - 16, none⟩ = some (.int .u32 x16) := fun e => by rw [((kW3.below hb0).below e.same).cell, ← kW3.cell]; exact p16
            simp only [pick, List.getElem?_toArray, List.getElem?_cons_succ, List.getElem?_cons_zero, Option.toList_some, List.cons_append, List.nil_append]
            repeat (go_big_quiet_step (fail))
            exact wpQuiet_nil rfl
          refine AlChk.nil ?_
          refine Walk.fin fun w4 h4 _ _ => ?_
          simp only [List.drop_succ_cons, List.drop_zero]
          have kW4 := kW3.below h4
          have but4 := but3.ext h4
          have f1 := kW4.free
          have hz4 : w4.cell? ⟨pb, m, none⟩ = some (.int .u32 0) := by rw [kW4.cell, ← kW3.cell]; exact hz3
          clear p7 p16 kW3 but3 hz3 h4
          have hfin : ∀ V : Int, V = ((z1 + x7 + z0 + x16) % 4294967296 : Nat) → Blk (w4.setCell ⟨pb, m, none⟩ (.int .u32 V)) pb (wordCells 64 (Sha.sched (natB bl) (m + 1))) T := fun V hV => by
            subst hV
            have := wordCells_set 64 (Sha.sched (natB bl) m) ((z1 + x7 + z0 + x16) % 4294967296) (by omega)
            rw [hl] at this
            rw [HS.out, HN2.out, ← this]
            exact kW4.set m _
          have Hfin := hid hfin
          clear hfin
          go_wp2_with fail
          exact ⟨⟨m + 1, by omega, by omega, by go_num, Hfin.out _ (by omega), but4.set (.inl rfl) _⟩, by simp [intOf]; omega⟩
        · obtain rfl : m = 64 := by omega
          go_wp2_with fail
          go_returns
          exact ⟨rfl, but, kW⟩
end Go.Proofs.YthaicocfbmpnmaaDoor
