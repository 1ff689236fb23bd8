/-
  Layer 11: what was signed holds.
-/
import Derived.Test.YtjkfbeillmeomaaDoorRSign
import Derived.Test.YtjkfbeillmeomaaDoorRVerL
namespace Go.Proofs.YtjkfbeillmeomaaDoor
set_option maxRecDepth 100000
open Go.ChangeShapes Go.WideShapes Go.ChangeAt Go.RowKit
theorem root_way {seed pub m : List Int} (hm : Dg m) (la tr : Int) (n lf : Nat) (h1 : 1 ≤ n) (h3 : n ≤ 3) (h : lf < 2 ^ n) : rootZ pub n la tr lf (rowW (sigP m seed pub (otsZ la tr lf))) (WayW seed pub la tr n lf) m = RootW seed pub la tr n := by
  have hl : leafZ seed pub la tr (lf : Int) = compZ pub (ltrZ la tr lf) 67 0 (rowW (pubP seed pub (otsZ la tr lf))) := by unfold leafZ; rfl
  unfold rootZ
  rw [meets_row hm, ← hl]
  exact climb_node pub (treeZ la tr) (fun j : Nat => leafZ seed pub la tr (j : Int)) n lf h1 h3 h
theorem verK_sg {seed pub M : List Int} {n : Nat} {p i : Int} (hM : Dg M) (hn : 1 ≤ n ∧ n ≤ 3) (hp : p = ((2 ^ n : Nat) : Int)) (L : Nat) : ∀ k, k ≤ L → verK pub n p i (sgPs seed pub n p i M L) M k = sgM seed pub n p i M k
  | 0, _ => rfl
  | k + 1, hk => by
    have ih := verK_sg (seed := seed) (pub := pub) (i := i) hM hn hp L k (by omega)
    have hp0 : 0 < p := by rw [hp]; have := Nat.pow_pos (n := n) (show 0 < 2 by omega); omega
    obtain ⟨lf, hlf⟩ : ∃ lf : Nat, atK p i k % p = (lf : Int) := ⟨(atK p i k % p).toNat, by have := Int.emod_nonneg (atK p i k) (show p ≠ 0 by omega); omega⟩
    have hlt : lf < 2 ^ n := by
      have := Int.emod_lt_of_pos (atK p i k) hp0
      rw [hlf, hp] at this
      omega
    show rootZ pub n (k : Int) (atK p i (k + 1)) (atK p i k % p) _ _ _ = RootW seed pub (k : Int) (atK p i (k + 1)) n
    rw [ih, sgPs_at _ _ _ _ _ _ (by omega : k < L)]
    unfold sgP
    rw [hlf]
    exact root_way (Dg.sg hM k) _ _ n lf hn.1 hn.2 hlt
theorem atK_end {p i : Int} (hp : 0 < p) (h0 : 0 ≤ i) : ∀ k, i < p ^ k → atK p i k = 0 := by
  have key : ∀ k, atK p i k = i / p ^ k := by
    intro k
    induction k with
    | zero => simp [atK]
    | succ k ih =>
      rw [atK, ih, Int.ediv_ediv_of_nonneg (Int.le_of_lt (Int.pow_pos hp)), Int.pow_succ]
  intro k hk
  rw [key, Int.ediv_eq_zero_of_lt h0 hk]
theorem verK_root {seed pub M : List Int} {n : Nat} {p i : Int} (hM : Dg M) (hn : 1 ≤ n ∧ n ≤ 3) (hp : p = ((2 ^ n : Nat) : Int)) (L : Nat) (h0 : 0 ≤ i) (hi : i < p ^ (L + 1)) : verK pub n p i (sgPs seed pub n p i M (L + 1)) M (L + 1) = nodeZ pub (treeZ (L : Int) 0) (fun j : Nat => leafZ seed pub (L : Int) 0 (j : Int)) n 0 := by
  have hp0 : 0 < p := by rw [hp]; have := Nat.pow_pos (n := n) (show 0 < 2 by omega); omega
  rw [verK_sg hM hn hp (L + 1) (L + 1) (Nat.le_refl _), sgM, atK_end hp0 h0 (L + 1) hi]
  rfl
end Go.Proofs.YtjkfbeillmeomaaDoor
