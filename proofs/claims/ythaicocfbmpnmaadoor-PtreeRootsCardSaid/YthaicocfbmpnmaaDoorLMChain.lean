/-
  Chain, ChainRun, ChainRef: one text.
-/
import Derived.Test.YthaicocfbmpnmaaDoorLMKeyedRef
import Derived.Test.YthaicocfbmpnmaaDoorLMAdrs
namespace Go.Proofs.YthaicocfbmpnmaaDoor
open Go.ChangeShapes Go.WideShapes Go.ChangeAt Go.RowKit

/-- an address with its last three words -/
def setAd (ad : List Int) (f s p : Int) : List Int := ad.take 5 ++ [f, s, p]
set_option maxRecDepth 100000 in
theorem Aw.set {ad : List Int} (h : Aw ad) {f s p : Int} (hf : 0 ≤ f ∧ f < 4294967296) (hs : 0 ≤ s ∧ s < 4294967296) (hp : 0 ≤ p ∧ p < 4294967296) : Aw (setAd ad f s p) := ⟨by simp [setAd, h.len], fun x hx => by
  unfold setAd at hx
  rcases List.mem_append.1 hx with h1 | h1
  · exact h.small x (List.mem_of_mem_take h1)
  · simp at h1
    rcases h1 with rfl | rfl | rfl <;> assumption⟩
set_option maxRecDepth 100000 in
theorem Aw.get {ad : List Int} (h : Aw ad) (j : Nat) : 0 ≤ ad.getD j 0 ∧ ad.getD j 0 < 4294967296 := by
  rcases Nat.lt_or_ge j ad.length with hj | hj
  · rw [List.getD_eq_getElem?_getD, List.getElem?_eq_getElem hj]
    exact h.small _ (List.getElem_mem _)
  · rw [List.getD_eq_getElem?_getD, List.getElem?_eq_none hj]
    simp
set_option maxRecDepth 100000 in
theorem Aw.cases {ad : List Int} (h : Aw ad) : ∃ a0 a1 a2 a3 a4 a5 a6 a7, ad = [a0, a1, a2, a3, a4, a5, a6, a7] := by
  obtain ⟨hl, _⟩ := h
  match ad, hl with
  | [a0, a1, a2, a3, a4, a5, a6, a7], _ => exact ⟨a0, a1, a2, a3, a4, a5, a6, a7, rfl⟩
/-- a step of a chain -/
@[irreducible] def stepZ (pub ad x : List Int) (j : Nat) : List Int := fZ (atZ pub (setAd ad (ad.getD 5 0) j 0)) (xorD x (atZ pub (setAd ad (ad.getD 5 0) j 1)))
def runZ (pub ad x : List Int) (frm : Nat) : Nat → List Int
  | 0 => x
  | n + 1 => stepZ pub ad (runZ pub ad x frm n) (frm + n)
set_option maxRecDepth 100000 in
theorem Dg.step (pub ad x : List Int) (j : Nat) : Dg (stepZ pub ad x j) := by unfold stepZ; exact Dg.f _ _
set_option maxRecDepth 100000 in
theorem Dg.run {pub ad x : List Int} (hx : Dg x) (frm n : Nat) : Dg (runZ pub ad x frm n) := by
  cases n with
  | zero => exact hx
  | succ n => exact Dg.step _ _ _ _
set_option maxRecDepth 100000 in
theorem runZ_add (pub ad x : List Int) (frm n m : Nat) : runZ pub ad (runZ pub ad x frm n) (frm + n) m = runZ pub ad x frm (n + m) := by
  induction m with
  | zero => rfl
  | succ m ih => rw [runZ, ih, Nat.add_assoc]; rfl

set_option maxRecDepth 100000 in
theorem zeroA_size : (List.replicate 8 (Value.int IntKind.u32 0)).toArray.size = 8 := by simp

end Go.Proofs.YthaicocfbmpnmaaDoor

namespace Go.Proofs.YthaicocfbmpnmaaDoor
open Go.ChangeShapes Go.WideShapes Go.ChangeAt Go.RowKit

end Go.Proofs.YthaicocfbmpnmaaDoor

namespace Go.Proofs.YthaicocfbmpnmaaDoor
open Go.ChangeShapes Go.WideShapes Go.ChangeAt Go.RowKit

end Go.Proofs.YthaicocfbmpnmaaDoor
