/-
  ShaPad, ShaJoin: one text.
-/
import Derived.Test.YthaicocfbmpnmaaDoorLNShaAdd
import Derived.Test.YthaicocfbmpnmaaDoorLMText
import Derived.Test.YthaicocfbmpnmaaDoorLMBase
import Derived.Test.YthaicocfbmpnmaaDoorLMNum
namespace Go.Proofs.YthaicocfbmpnmaaDoor
open Go.RowKit

set_option maxRecDepth 100000 in
theorem nbe_succ : ∀ (k n : Nat), Sha.nbe (k + 1) n = (n / 256 ^ k % 256) :: Sha.nbe k n
  | 0, n => by simp [Sha.nbe]
  | k + 1, n => by
    rw [Sha.nbe, nbe_succ k (n / 256), Nat.div_div_eq_div_mul, show 256 * 256 ^ k = 256 ^ (k + 1) by rw [Nat.pow_succ, Nat.mul_comm]]
    rfl
set_option maxRecDepth 100000 in
theorem nbe_length : ∀ (k n : Nat), (Sha.nbe k n).length = k
  | 0, _ => rfl
  | k + 1, n => by rw [nbe_succ, List.length_cons, nbe_length k n]
set_option maxRecDepth 100000 in
theorem nbe_lt : ∀ (k n : Nat), ∀ x ∈ Sha.nbe k n, x < 256
  | 0, _, x, hx => by simp [Sha.nbe] at hx
  | k + 1, n, x, hx => by
    rw [nbe_succ, List.mem_cons] at hx
    rcases hx with rfl | hx
    · exact Nat.mod_lt _ (by decide)
    · exact nbe_lt k n x hx

def toZ (l : List Nat) : List Int := l.map (fun n : Nat => (n : Int))
set_option maxRecDepth 100000 in
theorem natB_toZ : ∀ l : List Nat, natB (toZ l) = l
  | [] => rfl
  | n :: l => by
    have := natB_toZ l
    unfold natB toZ at *
    rw [List.map_cons, List.map_cons, this]
    rfl
set_option maxRecDepth 100000 in
theorem toZ_small {l : List Nat} (h : ∀ x ∈ l, x < 256) : ∀ x ∈ toZ l, 0 ≤ x ∧ x < 256 := by
  intro x hx
  obtain ⟨y, hy, rfl⟩ := List.mem_map.1 hx
  have := h y hy
  omega

set_option maxRecDepth 100000 in
theorem sum_short (bs : List Nat) (k m : Nat) (hl : bs.length = 64 * k + m) (hm : m ≤ 55) :
    Sha.sum bs = Sha.out (Sha.compress (Sha.run Sha.start bs k) (bs.drop (64 * k) ++ 128 :: (List.replicate (55 - m) 0 ++ Sha.nbe 8 (8 * bs.length)))) := by
  have hz : Sha.zerosFor bs.length = 55 - m := by unfold Sha.zerosFor; omega
  have hp : Sha.pad bs = bs ++ 128 :: (List.replicate (55 - m) 0 ++ Sha.nbe 8 (8 * bs.length)) := by rw [Sha.pad, hz]
  have hlen : (Sha.pad bs).length / 64 = k + 1 := by
    rw [hp]
    simp only [List.length_append, List.length_cons, List.length_replicate, nbe_length]
    omega
  unfold Sha.sum
  rw [hlen, Sha.run, hp, run_append _ _ _ _ (by omega), List.drop_append_of_le_length (by omega), List.take_of_length_le]
  simp only [List.length_append, List.length_cons, List.length_replicate, nbe_length, List.length_drop]
  omega

set_option maxRecDepth 100000 in
theorem sum_long (bs : List Nat) (k m : Nat) (hl : bs.length = 64 * k + m) (hm : 55 < m) (hm2 : m < 64) :
    Sha.sum bs = Sha.out (Sha.compress (Sha.compress (Sha.run Sha.start bs k) (bs.drop (64 * k) ++ 128 :: List.replicate (63 - m) 0)) (List.replicate 56 0 ++ Sha.nbe 8 (8 * bs.length))) := by
  have hz : Sha.zerosFor bs.length = (63 - m) + 56 := by unfold Sha.zerosFor; omega
  have hp : Sha.pad bs = (bs ++ 128 :: List.replicate (63 - m) 0) ++ (List.replicate 56 0 ++ Sha.nbe 8 (8 * bs.length)) := by
    rw [Sha.pad, hz, ← List.replicate_append_replicate]
    simp only [List.append_assoc, List.cons_append]
  have hlen : (Sha.pad bs).length / 64 = k + 2 := by
    rw [hp]
    simp only [List.length_append, List.length_cons, List.length_replicate, nbe_length]
    omega
  have hl2 : (bs ++ 128 :: List.replicate (63 - m) 0).length = 64 * (k + 1) := by
    simp only [List.length_append, List.length_cons, List.length_replicate]
    omega
  unfold Sha.sum
  rw [hlen, Sha.run, hp, run_append _ _ _ _ (by omega), ← hl2, List.drop_left, List.take_of_length_le (by simp [nbe_length])]
  congr 2
  rw [Sha.run, run_append _ _ _ _ (by omega), List.drop_append_of_le_length (by omega), List.take_of_length_le]
  simp only [List.length_append, List.length_cons, List.length_replicate, List.length_drop]
  omega

/-- the sum of bytes -/
@[irreducible] def sumZ (bs : List Int) : List Int := toZ (Sha.sum (natB bs))
set_option maxRecDepth 100000 in
theorem out_length (s : Sha.St) : (Sha.out s).length = 32 := by simp [Sha.out, nbe_length]
set_option maxRecDepth 100000 in
theorem out_lt (s : Sha.St) : ∀ x ∈ Sha.out s, x < 256 := by
  intro x hx
  simp only [Sha.out, List.mem_append] at hx
  rcases hx with ((((((h | h) | h) | h) | h) | h) | h) | h <;> exact nbe_lt _ _ x h
set_option maxRecDepth 100000 in
theorem sumZ_length (bs : List Int) : (sumZ bs).length = 32 := by simp [sumZ, toZ, Sha.sum, out_length]
set_option maxRecDepth 100000 in
theorem sumZ_small (bs : List Int) : ∀ x ∈ sumZ bs, 0 ≤ x ∧ x < 256 := by unfold sumZ; exact toZ_small (out_lt _)

/-- the words of a state -/
def words (s : Sha.St) : List Nat := [s.a, s.b, s.c, s.d, s.e, s.f, s.g, s.h]
set_option maxRecDepth 100000 in
theorem stCells_words (s : Sha.St) : stCells s = (words s).map fun n : Nat => Value.int .u32 n := rfl
set_option maxRecDepth 100000 in
theorem out_words (s : Sha.St) : Sha.out s = (words s).flatMap (Sha.nbe 4) := by
  simp [Sha.out, words]

/-- bytes, then 0 -/
def byteCells (n : Nat) (bs : List Int) : Array Value := (bs.map (Value.int .u8) ++ List.replicate (n - bs.length) (Value.int .u8 0)).toArray
set_option maxRecDepth 100000 in
theorem byteCells_set (n : Nat) (bs : List Int) (x : Int) (h : bs.length < n) : (byteCells n bs).setIfInBounds bs.length (.int .u8 x) = byteCells n (bs ++ [x]) := by
  unfold byteCells
  rw [List.setIfInBounds_toArray, List.set_append_right _ _ (by simp)]
  simp only [List.length_map, Nat.sub_self, List.map_append, List.map_cons, List.map_nil, List.length_append, List.length_cons, List.length_nil, List.append_assoc, List.singleton_append]
  congr 2
  obtain ⟨m, hm⟩ : ∃ m, n - bs.length = m + 1 := ⟨n - bs.length - 1, by omega⟩
  rw [hm, show n - (bs.length + (0 + 1)) = m by omega, List.replicate_succ, List.set_cons_zero]
set_option maxRecDepth 100000 in
theorem byteCells_size (n : Nat) (bs : List Int) (h : bs.length ≤ n) : (byteCells n bs).size = n := by simp [byteCells]; omega
set_option maxRecDepth 100000 in
theorem byteCells_full (n : Nat) (bs : List Int) (h : bs.length = n) : byteCells n bs = (bs.map (Value.int .u8)).toArray := by simp [byteCells, h]
end Go.Proofs.YthaicocfbmpnmaaDoor

namespace Go.Proofs.YthaicocfbmpnmaaDoor
open Go.ChangeShapes Go.WideShapes Go.ChangeAt Go.RowKit

end Go.Proofs.YthaicocfbmpnmaaDoor
