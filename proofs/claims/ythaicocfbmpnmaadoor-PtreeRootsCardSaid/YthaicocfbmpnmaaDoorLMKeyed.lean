/-
  Keyed, Keyed2, Keyed3: one text.
-/
import Derived.Test.YthaicocfbmpnmaaDoorLMDig
import Derived.Test.YthaicocfbmpnmaaDoorLMNum
import Derived.Test.YthaicocfbmpnmaaDoorLNFlow
import Derived.Test.YthaicocfbmpnmaaDoorLMAdrs
import Derived.Test.YthaicocfbmpnmaaDoorLMMac
namespace Go.Proofs.YthaicocfbmpnmaaDoor
open Go.ChangeShapes Go.WideShapes Go.ChangeAt Go.RowKit

/-- a digest's bytes -/
structure Dg (xs : List Int) : Prop where
  len : xs.length = 32
  small : ∀ x ∈ xs, 0 ≤ x ∧ x < 256
@[irreducible] def fZ (key m : List Int) : List Int := sumZ (be 32 0 ++ (key ++ m))
@[irreducible] def hZ (key a b : List Int) : List Int := sumZ (be 32 1 ++ (key ++ (a ++ b)))
@[irreducible] def prfZ (key m : List Int) : List Int := sumZ (be 32 3 ++ (key ++ m))
@[irreducible] def msgZ (r root : List Int) (index : Int) (m : List Int) : List Int := sumZ (be 32 2 ++ (r ++ (root ++ (be 32 index ++ m))))
set_option maxRecDepth 100000 in
theorem Dg.sum (bs : List Int) : Dg (sumZ bs) := ⟨sumZ_length _, sumZ_small _⟩
set_option maxRecDepth 100000 in
theorem Dg.f (a b : List Int) : Dg (fZ a b) := by unfold fZ; exact Dg.sum _
set_option maxRecDepth 100000 in
theorem Dg.h (a b c : List Int) : Dg (hZ a b c) := by unfold hZ; exact Dg.sum _
set_option maxRecDepth 100000 in
theorem Dg.prf (a b : List Int) : Dg (prfZ a b) := by unfold prfZ; exact Dg.sum _
set_option maxRecDepth 100000 in
theorem Dg.msg (a b : List Int) (i : Int) (c : List Int) : Dg (msgZ a b i c) := by unfold msgZ; exact Dg.sum _

/-- what 'wide' hands back -/
def WideAt (n : Int) (v : Value) (w : World) : Prop := ∃ g, v = .slice (some ⟨g, 0, none⟩) 32 32 ∧ Blk w g ((be 32 n).map (Value.int .u8)).toArray 5
set_option maxRecDepth 100000 in
theorem WideAt.below {n : Int} {v : Value} {w w' : World} (h : WideAt n v w) (hb : Below w.heap.size w w') : WideAt n v w' := by
  obtain ⟨g, h1, h2⟩ := h
  exact ⟨g, h1, h2.below hb⟩
set_option maxRecDepth 100000 in
theorem WideAt.text {n : Int} {g : Nat} {w : World} (h : WideAt n (.slice (some ⟨g, 0, none⟩) 32 32) w) : TextAt w (some ⟨g, 0, none⟩) 32 32 (be 32 n) := by
  obtain ⟨g', h1, h2⟩ := h
  injection h1 with h1
  injection h1 with h1
  injection h1 with h1
  subst h1
  exact TextAt.of_ints h2 (be_length 32 n) (by omega) (be_small 32 n)
set_option maxRecDepth 100000 in
theorem Dg.text {xs : List Int} (h : Dg xs) {w : World} {g : Nat} {T : TypeId} (k : Blk w g (xs.map (Value.int .u8)).toArray T) : TextAt w (some ⟨g, 0, none⟩) 32 32 xs := TextAt.of_ints k h.len (by omega) h.small
set_option maxRecDepth 100000 in
theorem Dg.size {xs : List Int} (h : Dg xs) : ((xs.map (Value.int .u8)).toArray).size = 32 := dsize h.len

end Go.Proofs.YthaicocfbmpnmaaDoor

namespace Go.Proofs.YthaicocfbmpnmaaDoor
open Go.ChangeShapes Go.WideShapes Go.ChangeAt Go.RowKit

/-- an address's words -/
structure Aw (xs : List Int) : Prop where
  len : xs.length = 8
  small : ∀ x ∈ xs, 0 ≤ x ∧ x < 4294967296
set_option maxRecDepth 100000 in
theorem Aw.size {xs : List Int} (h : Aw xs) : ((xs.map (Value.int .u32)).toArray).size = 8 := by simp [h.len]
@[irreducible] def atZ (key ad : List Int) : List Int := prfZ key (wordBytes ad)
set_option maxRecDepth 100000 in
theorem Dg.at_ (a b : List Int) : Dg (atZ a b) := by unfold atZ; exact Dg.prf _ _
/-- what 'adrs.Bytes' hands back -/
def BytesAt (ad : List Int) (v : Value) (w : World) : Prop := ∃ g cap, v = .slice (some ⟨g, 0, none⟩) 32 cap ∧ 32 ≤ cap ∧ cap ≤ 9223372036854775807 ∧ Row8 w g (wordBytes ad)
set_option maxRecDepth 100000 in
theorem BytesAt.below {ad : List Int} {v : Value} {w w' : World} (h : BytesAt ad v w) (hb : Below w.heap.size w w') : BytesAt ad v w' := by
  obtain ⟨g, c, h1, h2, h3, h4⟩ := h
  exact ⟨g, c, h1, h2, h3, h4.below hb⟩
set_option maxRecDepth 100000 in
theorem BytesAt.text {ad : List Int} (hl : ad.length = 8) {a : Option Addr} {n c : Nat} {w : World} (h : BytesAt ad (.slice a n c) w) : TextAt w a n c (wordBytes ad) := by
  obtain ⟨g', c', h1, h2, h3, h4⟩ := h
  injection h1 with e1 e2 e3
  subst e1 e2 e3
  exact TextAt.of_row h4 (by rw [wordBytes_length, hl]) h2 h3 (wordBytes_small _)

/-- byte by byte exclusive-ored -/
def xorD (a b : List Int) : List Int := a.zipWith xorZ b
set_option maxRecDepth 100000 in
theorem Dg.xor {a b : List Int} (ha : Dg a) (hb : Dg b) : Dg (xorD a b) := ⟨by simp [xorD, ha.len, hb.len], fun x hx => by
  unfold xorD at hx
  rw [List.zipWith_eq_zipWith_take_min] at hx
  obtain ⟨i, hi, rfl⟩ := List.getElem_of_mem hx
  simp only [List.getElem_zipWith]
  exact xorZ_small (ha.small _ (List.mem_of_mem_take (List.getElem_mem _))) (hb.small _ (List.mem_of_mem_take (List.getElem_mem _)))⟩
set_option maxRecDepth 100000 in
theorem xorD_step {a b : List Int} (ha : a.length = 32) (hb : b.length = 32) (k : Nat) (hk : k < 32) : ((xorD a b).take k ++ a.drop k).set k (xorZ (a.getD k 0) (b.getD k 0)) = (xorD a b).take (k + 1) ++ a.drop (k + 1) := by
  have hl : k < (xorD a b).length := by simp [xorD, ha, hb, hk]
  rw [List.set_append_right _ _ (by simp; omega), List.take_succ_eq_append_getElem hl, List.append_assoc]
  congr 1
  rw [show k - ((xorD a b).take k).length = 0 by simp; omega, List.drop_eq_getElem_cons (by omega), List.set_cons_zero]
  simp [xorD, List.getD_eq_getElem?_getD, show k < a.length by omega, show k < b.length by omega]

end Go.Proofs.YthaicocfbmpnmaaDoor

namespace Go.Proofs.YthaicocfbmpnmaaDoor
open Go.ChangeShapes Go.WideShapes Go.ChangeAt Go.RowKit

end Go.Proofs.YthaicocfbmpnmaaDoor
