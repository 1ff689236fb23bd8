/-
  Layer 11: verifying, by the program and by the reference.
-/
import Derived.Test.YtjkfbeillmeomaaGreatDoorSZPlace
import Derived.Test.YtjkfbeillmeomaaGreatDoorSZSigH
namespace Go.Proofs.YtjkfbeillmeomaaGreatDoor
set_option maxRecDepth 100000
open Go.ChangeShapes Go.WideShapes Go.ChangeAt Go.RowKit
/-- Where the way of an index is, so many layers up. -/
def atK (p i : Int) : Nat → Int
  | 0 => i
  | k + 1 => atK p i k / p
/-- What the first so many parts lead to. -/
def verK (pub : List Int) (V : Nat) (p i : Int) (ps : List Prt) (m : List Int) : Nat → List Int
  | 0 => m
  | k + 1 => rootZ pub V (k : Int) (atK p i (k + 1)) (atK p i k % p) (ps.getD k ([], [])).1 (ps.getD k ([], [])).2 (verK pub V p i ps m k)
/-- Does a signature hold? -/
def verB (L V i : Int) (root pub r : List Int) (ps : List Prt) (text : List Int) : Bool :=
  formB L V i ps && decide (verK pub V.toNat ((2 ^ V.toNat : Nat) : Int) i ps (msgZ r root i text) ps.length = root)
theorem atK_nonneg {p i : Int} (hp : 0 < p) (hi : 0 ≤ i) : ∀ k, 0 ≤ atK p i k
  | 0 => hi
  | k + 1 => Int.ediv_nonneg (atK_nonneg hp hi k) (Int.le_of_lt hp)
theorem atK_le {p i : Int} (hp : 0 < p) (hi : 0 ≤ i) : ∀ k, atK p i k ≤ i
  | 0 => Int.le_refl _
  | k + 1 => Int.le_trans (Int.ediv_le_self _ (atK_nonneg hp hi k)) (atK_le hp hi k)
theorem manyS_le {L V : Int} (h : rightS L V = true) : manyS L V ≤ 65536 := by
  have h2 := h
  simp only [rightS, decide_eq_true_eq] at h2
  obtain ⟨n, hn⟩ : ∃ n : Nat, L * V = (n : Int) := ⟨(L * V).toNat, by have := Int.mul_nonneg (show 0 ≤ L by omega) (show 0 ≤ V by omega); omega⟩
  have hm16 : n ≤ 16 := by
    have h1 : L * V ≤ 4 * 4 := Int.mul_le_mul (by omega) (by omega) (by omega) (by omega)
    omega
  have hmz : manyS L V = ((2 ^ n : Nat) : Int) := by rw [manyS, if_pos h, hn]; rfl
  have : 2 ^ n ≤ 2 ^ 16 := Nat.pow_le_pow_right (by omega) hm16
  rw [hmz]
  omega
theorem leaf_right {n : Nat} {x : Int} (hn : 1 ≤ n ∧ n ≤ 4) : rightZ n (x % ((2 ^ n : Nat) : Int)) = true := by
  simp only [rightZ, decide_eq_true_eq]
  rcases (show n = 1 ∨ n = 2 ∨ n = 3 ∨ n = 4 by omega) with rfl | rfl | rfl | rfl <;> simp <;> omega
end Go.Proofs.YtjkfbeillmeomaaGreatDoor
