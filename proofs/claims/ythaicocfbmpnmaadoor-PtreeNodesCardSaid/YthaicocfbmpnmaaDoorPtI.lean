/-
  Layer 17: an entry, as it comes in.
-/
import Derived.Test.YthaicocfbmpnmaaDoorPtH
import Derived.Deep.SlicePairs
import Derived.Deep.Slices
namespace Go.Proofs.YthaicocfbmpnmaaDoor
open Go.ChangeShapes Go.WideShapes Go.ChangeAt Go.RowKit

set_option maxHeartbeats 4000000 in
set_option maxRecDepth 100000 in
theorem open_entry {H : Type} {enc : TypeId × Value → H} {W : World} {base : Nat} {v : Value} {d : DataW H} {p : List MemPlace} (hv : Value.okWide Tryd.prog W .any base 25 v) (h : DataW.Trod enc Tryd.prog W 0 (fun _ => true) true 25 v d p) :
    ∃ i c : List Int, v = .agg ((entL i c).map (Value.int .u8)).toArray ∧ Dg i ∧ Dg c := by
  obtain ⟨f0, f1, hu, t0, t1, o0, o1⟩ : ∃ f0 f1 : Field, Tryd.prog.underlying 25 = some (.struct #[f0, f1]) ∧ f0.type = 23 ∧ f1.type = 23 ∧ f0.offset = 0 ∧ f1.offset = 32 := ⟨_, _, Tryd.underlying25, rfl, rfl, rfl, rfl⟩
  have c32 : Tryd.prog.cellsOf 23 = 32 := by kernel_rfl
  have c64 : Tryd.prog.cellsOf 25 = 64 := by kernel_rfl
  have c1 : Tryd.prog.cellsOf 5 = 1 := by kernel_rfl
  unfold Value.okWide at hv
  rw [hu] at hv
  obtain ⟨cs, rfl, hsz, _⟩ := hv
  obtain ⟨fuel, hf⟩ := h
  have hf : DataW.trod enc Tryd.prog W 0 (fun _ => true) true fuel 25 cs.toList = some (d, p) := hf
  obtain ⟨y0, y1, n, _, hl, q0, q1⟩ := trod_struct2 hu hf
  rw [t0, o0, c32] at q0
  rw [t1, o1, c32] at q1
  obtain ⟨d0, k0, e0⟩ := digest_cells Tryd.underlying23 Tryd.underlying5 c32 c1 q0
  obtain ⟨d1, k1, e1⟩ := digest_cells Tryd.underlying23 Tryd.underlying5 c32 c1 q1
  refine ⟨d0, d1, ?_, k0, k1⟩
  refine congrArg Value.agg ?_
  apply Array.ext'
  rw [c64] at hl
  unfold entL
  rw [List.map_append, ← e0, ← e1]
  have h3 : cs.toList = cs.toList.take 32 ++ (cs.toList.drop 32).take 32 := by
    rw [List.take_of_length_le (l := cs.toList.drop 32) (by rw [List.length_drop]; omega), List.take_append_drop]
  simpa using h3
end Go.Proofs.YthaicocfbmpnmaaDoor
