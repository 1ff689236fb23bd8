/-
  Layer 11: keys, and what is refused.
-/
import Derived.Test.YtjkfbeillmeomaaGreatDoorSZHyper
namespace Go.Proofs.YtjkfbeillmeomaaGreatDoor
set_option maxRecDepth 100000
open Go.ChangeShapes Go.WideShapes Go.ChangeAt Go.RowKit
/-- A key's cells. -/
def pubC (L V : Int) (root pub : List Int) : List Value := .int .i64 L :: .int .i64 V :: (root.map (Value.int .u8) ++ pub.map (Value.int .u8))
theorem pubC_length {L V : Int} {root pub : List Int} (h1 : Dg root) (h2 : Dg pub) : (pubC L V root pub).length = 66 := by simp [pubC, h1.len, h2.len]
theorem pubC_size {L V : Int} {root pub : List Int} (h1 : Dg root) (h2 : Dg pub) : (pubC L V root pub).toArray.size = 66 := by rw [List.size_toArray, pubC_length h1 h2]
theorem pubC_ones (L V : Int) (root pub : List Int) : (pubC L V root pub).toArray.all (·.oneCell') = true := all_oneCell_toArray fun u hu => by
  simp only [pubC, List.mem_cons, List.mem_append, List.mem_map] at hu
  rcases hu with rfl | rfl | ⟨_, _, rfl⟩ | ⟨_, _, rfl⟩ <;> rfl
theorem pubC_shape {L V : Int} {root pub : List Int} {w : World} {b : Nat} {T : TypeId} (k : Blk w b (pubC L V root pub).toArray T) : w.rangeAt b 0 (shC L V).toList := fun j v hv => by
  rw [Nat.zero_add, k.cell, List.getElem?_toArray, ← hv]
  match j, hv with
  | 0, _ => rfl
  | 1, _ => rfl
  | j + 2, h => simp [shC] at h
theorem pubC_root {L V : Int} {root pub : List Int} {w : World} {b : Nat} {T : TypeId} (k : Blk w b (pubC L V root pub).toArray T) : w.rangeAt b 2 (root.map (Value.int .u8)) := fun j v hv => by
  have hj : j < root.length := by have := (List.getElem?_eq_some_iff.1 hv).1; simpa using this
  rw [k.cell, List.getElem?_toArray, ← hv]
  unfold pubC
  rw [show 2 + j = j + 1 + 1 by omega, List.getElem?_cons_succ, List.getElem?_cons_succ, List.getElem?_append_left (by rw [List.length_map]; exact hj)]
/-- A signature's cells. -/
def sigC (i : Int) (r : List Int) (pv : Value) : List Value := .int .i64 i :: (r.map (Value.int .u8) ++ [pv])
theorem sigC_size {i : Int} {r : List Int} {pv : Value} (h : Dg r) : (sigC i r pv).toArray.size = 34 := by simp [sigC, h.len]
theorem sigC_ones (i : Int) (r : List Int) (pv : Value) (h : pv.oneCell' = true) : (sigC i r pv).toArray.all (·.oneCell') = true := all_oneCell_toArray fun u hu => by
  simp only [sigC, List.mem_cons, List.mem_append, List.mem_map, List.not_mem_nil, or_false] at hu
  rcases hu with rfl | ⟨_, _, rfl⟩ | rfl
  · rfl
  · rfl
  · exact h
theorem size_public : (Tryz.prog.info? 27).map (·.size) = some 66 := by kernel_rfl
theorem size_sig : (Tryz.prog.info? 36).map (·.size) = some 34 := by kernel_rfl
def zPub : List Value := pubC 0 0 zD zD
def zSig : List Value := sigC 0 zD (.slice none 0 0)
end Go.Proofs.YtjkfbeillmeomaaGreatDoor
