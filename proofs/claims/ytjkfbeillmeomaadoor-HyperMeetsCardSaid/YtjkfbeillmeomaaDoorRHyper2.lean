/-
  Layer 11: keys, and what is refused.
-/
import Derived.Test.YtjkfbeillmeomaaDoorRHyper
namespace Go.Proofs.YtjkfbeillmeomaaDoor
set_option maxRecDepth 100000
open Go.ChangeShapes Go.WideShapes Go.ChangeAt Go.RowKit
/-- A key's cells. -/
def pubC (L V : Int) (root pub : List Int) : List Value := .int .i64 L :: .int .i64 V :: (root.map (Value.int .u8) ++ pub.map (Value.int .u8))
theorem pubC_length {L V : Int} {root pub : List Int} (h1 : Dg root) (h2 : Dg pub) : (pubC L V root pub).length = 66 := by simp [pubC, h1.len, h2.len]
theorem pubC_size {L V : Int} {root pub : List Int} (h1 : Dg root) (h2 : Dg pub) : (pubC L V root pub).toArray.size = 66 := by rw [List.size_toArray, pubC_length h1 h2]
theorem pubC_ones (L V : Int) (root pub : List Int) : (pubC L V root pub).toArray.all (·.oneCell') = true := all_oneCell_toArray fun u hu => by
  simp only [pubC, List.mem_cons, List.mem_append, List.mem_map] at hu
  rcases hu with rfl | rfl | ⟨_, _, rfl⟩ | ⟨_, _, rfl⟩ <;> rfl
theorem pubC_shape {L V : Int} {root pub : List Int} {w : World} {b : Nat} {T : TypeId} (k : Blk w b (pubC L V root pub).toArray T) : w.rangeAt b 0 (shC L V).toList := fun j v hv => by
  rw [Nat.zero_add, k.cell, List.getElem?_toArray, ← hv]
  match j, hv with
  | 0, _ => rfl
  | 1, _ => rfl
  | j + 2, h => simp [shC] at h
theorem pubC_root {L V : Int} {root pub : List Int} {w : World} {b : Nat} {T : TypeId} (k : Blk w b (pubC L V root pub).toArray T) : w.rangeAt b 2 (root.map (Value.int .u8)) := fun j v hv => by
  have hj : j < root.length := by have := (List.getElem?_eq_some_iff.1 hv).1; simpa using this
  rw [k.cell, List.getElem?_toArray, ← hv]
  unfold pubC
  rw [show 2 + j = j + 1 + 1 by omega, List.getElem?_cons_succ, List.getElem?_cons_succ, List.getElem?_append_left (by rw [List.length_map]; exact hj)]
theorem pubC_pub {L V : Int} {root pub : List Int} (h1 : Dg root) {w : World} {b : Nat} {T : TypeId} (k : Blk w b (pubC L V root pub).toArray T) : w.rangeAt b 34 (pub.map (Value.int .u8)) := fun j v hv => by
  rw [k.cell, List.getElem?_toArray, ← hv]
  unfold pubC
  rw [show 34 + j = (32 + j) + 1 + 1 by omega, List.getElem?_cons_succ, List.getElem?_cons_succ, List.getElem?_append_right (by rw [List.length_map, h1.len]; omega), List.length_map, h1.len, show 32 + j - 32 = j by omega]
/-- A signature's cells. -/
def sigC (i : Int) (r : List Int) (pv : Value) : List Value := .int .i64 i :: (r.map (Value.int .u8) ++ [pv])
theorem sigC_size {i : Int} {r : List Int} {pv : Value} (h : Dg r) : (sigC i r pv).toArray.size = 34 := by simp [sigC, h.len]
theorem sigC_ones (i : Int) (r : List Int) (pv : Value) (h : pv.oneCell' = true) : (sigC i r pv).toArray.all (·.oneCell') = true := all_oneCell_toArray fun u hu => by
  simp only [sigC, List.mem_cons, List.mem_append, List.mem_map, List.not_mem_nil, or_false] at hu
  rcases hu with rfl | ⟨_, _, rfl⟩ | rfl
  · rfl
  · rfl
  · exact h
theorem size_public : (Tryd.prog.info? 68).map (·.size) = some 66 := by kernel_rfl
theorem size_sig : (Tryd.prog.info? 75).map (·.size) = some 34 := by kernel_rfl
def zPub : List Value := pubC 0 0 zD zD
def zSig : List Value := sigC 0 zD (.slice none 0 0)
theorem build_pub (L V : Int) (root pub : List Int) (h1 : Dg root) (h2 : Dg pub) (w : World) : (Instr.build 68 #[(0, .agg (shC L V)), (1, .agg (root.map (Value.int .u8)).toArray), (2, .agg (pub.map (Value.int .u8)).toArray)]).run Tryd.prog w = .ok (.agg (pubC L V root pub).toArray) w := by
  refine run_build w _ _ _ ?_
  obtain ⟨i0, hi, hz0⟩ := Option.map_eq_some_iff.1 (show (Tryd.prog.info? 68).map (·.zero) = some (some (.agg zPub.toArray)) by kernel_rfl)
  obtain ⟨fields, hu, hq⟩ : ∃ fields, Tryd.prog.underlying 68 = some (.struct fields) ∧ fields.toList.mapM (fun f => (Tryd.prog.info? f.type).map fun i => (f.offset, i.size)) = some [(0, 2), (2, 32), (34, 32)] := ⟨_, Tryd.underlying68, by kernel_rfl⟩
  have hz : (Value.agg zPub.toArray).cells = zPub.toArray := rfl
  unfold Program.built
  simp only [hi, hu, hz0, hq, hz]
  have hs0 : (Value.agg (shC L V)).cells.size = 2 := rfl
  have hs1 : (Value.agg (root.map (Value.int .u8)).toArray).cells.size = 32 := h1.size
  have hs2 : (Value.agg (pub.map (Value.int .u8)).toArray).cells.size = 32 := h2.size
  have t0 : splice zPub.toArray.toList 0 (Value.agg (shC L V)).cells.toList = pubC L V zD zD := rfl
  have t1 : splice (pubC L V zD zD) 2 (Value.agg (root.map (Value.int .u8)).toArray).cells.toList = pubC L V root zD := by
    show splice (pubC L V zD zD) 2 (root.map (Value.int .u8)) = _
    unfold splice
    rw [List.length_map, h1.len]
    rfl
  have t2 : splice (pubC L V root zD) 34 (Value.agg (pub.map (Value.int .u8)).toArray).cells.toList = pubC L V root pub := by
    show splice (Value.int .i64 L :: Value.int .i64 V :: (root.map (Value.int .u8) ++ zD.map (Value.int .u8))) 34 (pub.map (Value.int .u8)) = _
    unfold splice
    rw [List.take_succ_cons, List.take_succ_cons, List.take_append_of_le_length (by rw [List.length_map, h1.len]; omega), List.take_of_length_le (by rw [List.length_map, h1.len]; omega), List.length_map, h2.len, List.drop_eq_nil_of_le (by simp [h1.len, zD])]
    simp [pubC]
  rw [fill_part _ _ 0 0 _ _ (by rw [hs0]; rfl) (by rw [hs0]; decide), t0]
  rw [fill_part _ _ 1 2 _ _ (by rw [hs1]; rfl) (by rw [hs1, pubC_size Dg.zero Dg.zero]; omega), List.toList_toArray, t1]
  rw [fill_part _ _ 2 34 _ _ (by rw [hs2]; rfl) (by rw [hs2, pubC_size h1 Dg.zero]; omega), List.toList_toArray, t2, Instr.fill]
end Go.Proofs.YtjkfbeillmeomaaDoor
