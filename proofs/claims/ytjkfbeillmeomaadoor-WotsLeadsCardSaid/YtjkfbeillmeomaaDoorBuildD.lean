/-
  Rows of digests that are written out.
-/
import Derived.Test.YtjkfbeillmeomaaDoorDrows
namespace Go.Proofs.YtjkfbeillmeomaaDoor
open Go.ChangeShapes Go.WideShapes Go.ChangeAt Go.RowKit

theorem fold_set : ∀ (vs : List Value) (k off : Nat) (acc : Array Value), off + k + vs.length ≤ acc.size → ((vs.zipIdx k).foldl (fun cs (x : Value × Nat) => cs.setIfInBounds (off + x.2) x.1) acc).toList = splice acc.toList (off + k) vs
  | [], k, off, acc, h => by simp [splice]
  | v :: vs, k, off, acc, h => by
    simp only [List.length_cons] at h
    rw [List.zipIdx_cons, List.foldl_cons, fold_set vs (k + 1) off _ (by rw [Array.size_setIfInBounds]; omega)]
    unfold splice
    rw [Array.toList_setIfInBounds, show off + (k + 1) = (off + k) + 1 by omega, List.drop_set_of_lt (by omega), List.length_cons, show off + k + 1 + vs.length = off + k + (vs.length + 1) by omega]
    rw [List.take_succ_eq_append_getElem (by rw [List.length_set, Array.length_toList]; omega), List.take_set_of_le (Nat.le_refl _), List.getElem_set_self]
    simp

theorem fill_dig (cells : Array Value) (ds : List (List Int)) (hc : cells = dcs ds) (hds : ∀ d ∈ ds, Dg d) (x : List Int) (hx : Dg x) (j : Nat) (hj : j < ds.length) (rest : List (Nat × Value)) :
    Instr.fill (fun i => some (i * 32, 32)) cells ((j, .agg (x.map (Value.int .u8)).toArray) :: rest) = Instr.fill (fun i => some (i * 32, 32)) (dcs (ds.set j x)) rest := by
  subst hc
  have hs := dcs_size (Dg.lens hds)
  have hv : (Value.agg (x.map (Value.int .u8)).toArray).cells = (x.map (Value.int .u8)).toArray := rfl
  have hf := fold_set (x.map (Value.int .u8)) 0 (j * 32) (dcs ds) (by rw [List.length_map, hx.len, hs]; omega)
  have he : (((x.map (Value.int .u8)).zipIdx 0).foldl (fun cs (y : Value × Nat) => cs.setIfInBounds (j * 32 + y.2) y.1) (dcs ds)) = dcs (ds.set j x) := by
    apply Array.ext'
    rw [hf, Nat.add_zero]
    unfold dcs
    rw [← flat_set (Dg.lens hds) x hx.len j hj]
    unfold splice
    simp only [List.length_map, List.map_append, List.map_take, List.map_drop]
  rw [Instr.fill]
  simp only [hv, hx.size]
  rw [if_neg (by simp only [ne_eq, not_true_eq_false, decide_false, Bool.false_or, decide_eq_true_eq, hs]; omega)]
  congr 1
  have : ((x.map (Value.int .u8)).toArray).zipIdx = (((x.map (Value.int .u8)).zipIdx 0)).toArray := by simp
  rw [this, List.foldl_toArray']
  · exact he
  · simp

section
variable {P : Program}
set_option maxRecDepth 100000 in
/-- parts put in their places, one behind the other -/
theorem run_build_digs (n : Nat) (parts : List (Nat × Value)) (ds : List (List Int)) (hn : n ≤ 1000) (h0 : 0 < n) (h : Instr.fill (fun i => some (i * 32, 32)) (dcs (List.replicate n zD)) parts = some (dcs ds)) (w : World) :
    (Instr.buildSlice 28 n parts.toArray).run Tryd.prog w = .ok (.slice (some ⟨w.heap.size, 0, none⟩) n n) (w.alloc (.cells (dcs ds) 23 (0, 0))) := by
  obtain ⟨i, hi, _, hz1, _⟩ := info_parts info_dig
  have hm := zD_rows n
  unfold madeCells at hm
  unfold Instr.buildSlice
  have hne : ¬ (n * 32 = 0) := by omega
  have hle : ¬ (16777216 < n * 32) := by omega
  have hl : (zD.map (Value.int .u8)).toArray = #[Value.int .u8 0, Value.int .u8 0, Value.int .u8 0, Value.int .u8 0, Value.int .u8 0, Value.int .u8 0, Value.int .u8 0, Value.int .u8 0, Value.int .u8 0, Value.int .u8 0, Value.int .u8 0, Value.int .u8 0, Value.int .u8 0, Value.int .u8 0, Value.int .u8 0, Value.int .u8 0, Value.int .u8 0, Value.int .u8 0, Value.int .u8 0, Value.int .u8 0, Value.int .u8 0, Value.int .u8 0, Value.int .u8 0, Value.int .u8 0, Value.int .u8 0, Value.int .u8 0, Value.int .u8 0, Value.int .u8 0, Value.int .u8 0, Value.int .u8 0, Value.int .u8 0, Value.int .u8 0] := by kernel_rfl
  rw [hl] at hm
  simp [run_underlying Tryd.underlying28, sizeOf, typeInfo, hi, hz1, hne]
  rw [if_neg hle, hm, h]
  simp [newRow]
theorem dcs_one (x : List Int) : dcs [x] = (x.map (Value.int .u8)).toArray := by simp [dcs]
set_option maxRecDepth 100000 in
theorem run_build_one {x : List Int} (hx : Dg x) (w : World) : (Instr.buildSlice 28 1 #[(0, .agg (x.map (Value.int .u8)).toArray)]).run Tryd.prog w = .ok (.slice (some ⟨w.heap.size, 0, none⟩) 1 1) (w.alloc (.cells (x.map (Value.int .u8)).toArray 23 (0, 0))) := by
  have h := run_build_digs 1 [(0, .agg (x.map (Value.int .u8)).toArray)] [x] (by omega) (by omega) (by
    rw [fill_dig _ (List.replicate 1 zD) rfl (zRow 1) x hx 0 (by simp), show (List.replicate 1 zD).set 0 x = [x] from rfl, Instr.fill]) w
  rw [dcs_one] at h
  exact h
set_option maxRecDepth 100000 in
theorem run_build_three {x y z : List Int} (hx : Dg x) (hy : Dg y) (hz : Dg z) (w : World) : (Instr.buildSlice 28 3 #[(0, .agg (x.map (Value.int .u8)).toArray), (1, .agg (y.map (Value.int .u8)).toArray), (2, .agg (z.map (Value.int .u8)).toArray)]).run Tryd.prog w = .ok (.slice (some ⟨w.heap.size, 0, none⟩) 3 3) (w.alloc (.cells (dcs [x, y, z]) 23 (0, 0))) :=
  run_build_digs 3 [(0, .agg (x.map (Value.int .u8)).toArray), (1, .agg (y.map (Value.int .u8)).toArray), (2, .agg (z.map (Value.int .u8)).toArray)] [x, y, z] (by omega) (by omega) (by
    have h1 : ∀ d ∈ [x, zD, zD], Dg d := by simp [hx, Dg.zero]
    have h2 : ∀ d ∈ [x, y, zD], Dg d := by simp [hx, hy, Dg.zero]
    rw [fill_dig _ (List.replicate 3 zD) rfl (zRow 3) x hx 0 (by simp), show (List.replicate 3 zD).set 0 x = [x, zD, zD] from rfl]
    rw [fill_dig _ [x, zD, zD] rfl h1 y hy 1 (by simp), show [x, zD, zD].set 1 y = [x, y, zD] from rfl]
    rw [fill_dig _ [x, y, zD] rfl h2 z hz 2 (by simp), show [x, y, zD].set 2 z = [x, y, z] from rfl, Instr.fill]) w
set_option maxRecDepth 100000 in
theorem exec_build_one {o : Oper} {A : Act} {w : World} {e : Operand} (ho : o.op = .buildSlice 28 1 #[(0, e)]) {x : List Int} (he : A.eval e = .agg (x.map (Value.int .u8)).toArray) (hx : Dg x) :
    (execOp A.eval o).run Tryd.prog w = .ok (.value (.slice (some ⟨w.heap.size, 0, none⟩) 1 1)) (w.alloc (.cells (x.map (Value.int .u8)).toArray 23 (0, 0))) := by
  unfold execOp
  simp only [ho, List.map_toArray, List.map_cons, List.map_nil, he, Sem.run_bind, run_build_one hx, Result.andThen_ok, Sem.run_pure]
theorem wpList_build_one {ops : Array Oper} {rest : List Oper} {o : Oper} {A : Act} {w : World} {Q : Exit → Act → World → Prop} (hgd : o.guard = none) (e : Operand) (ho : o.op = .buildSlice 28 1 #[(0, e)]) {x : List Int} (he : A.eval e = .agg (x.map (Value.int .u8)).toArray) (hx : Dg x)
    (h : wpList Tryd.prog ops Q rest (A.put o.dst (.slice (some ⟨w.heap.size, 0, none⟩) 1 1)) (w.alloc (.cells (x.map (Value.int .u8)).toArray 23 (0, 0)))) : wpList Tryd.prog ops Q (o :: rest) A w :=
  wpList_plain hgd fun K hK => by
    unfold Oper.wp
    rw [exec_build_one ho he hx, Oper.upon_value]
    exact hK _ _ h
end
theorem guard_dig : Tryd.prog.eqGuardType Tryd.prog.depth 23 = false := by kernel_rfl
/-- two digests are compared, and the outcome is known -/
theorem quiet_cmp {op : Oper} {a : Act} {C : World → Prop} {K : Act → Prop} {bop : BinOp} {tr : TypeId} (x y : Operand) (ho : op.op = .binOp bop 23 x y tr) (xs ys : Array Value) (v : Value) (hx : a.eval x = .agg xs) (hy : a.eval y = .agg ys)
    (hr : ∀ W : World, (binOp bop 23 (.agg xs) (.agg ys)).run Tryd.prog W = .ok v W) (h : K (a.put op.dst v)) : op.quiet Tryd.prog a C K :=
  ⟨v, fun w' _ => by
    unfold Oper.quietAt execOp
    simp only [ho, hx, hy, Sem.run_bind, Sem.run_pure, Result.andThen_ok, run_eqGuard_agg w' bop 23 x y xs ys guard_dig, hr w']
    simp [Oper.quietUpon], h⟩
end Go.Proofs.YtjkfbeillmeomaaDoor
