/-
  Layer 11: keys, and what is refused.
-/
import Derived.Test.YtjkfbeillmeomaaDoorHyper
namespace Go.Proofs.YtjkfbeillmeomaaDoor
open Go.ChangeShapes Go.WideShapes Go.ChangeAt Go.RowKit

/-- A key's cells. -/
def pubC (L V : Int) (root pub : List Int) : List Value := .int .i64 L :: .int .i64 V :: (root.map (Value.int .u8) ++ pub.map (Value.int .u8))
theorem pubC_length {L V : Int} {root pub : List Int} (h1 : Dg root) (h2 : Dg pub) : (pubC L V root pub).length = 66 := by simp [pubC, h1.len, h2.len]
theorem pubC_size {L V : Int} {root pub : List Int} (h1 : Dg root) (h2 : Dg pub) : (pubC L V root pub).toArray.size = 66 := by rw [List.size_toArray, pubC_length h1 h2]
theorem pubC_ones (L V : Int) (root pub : List Int) : (pubC L V root pub).toArray.all (·.oneCell') = true := all_oneCell_toArray fun u hu => by
  simp only [pubC, List.mem_cons, List.mem_append, List.mem_map] at hu
  rcases hu with rfl | rfl | ⟨_, _, rfl⟩ | ⟨_, _, rfl⟩ <;> rfl
theorem pubC_shape {L V : Int} {root pub : List Int} {w : World} {b : Nat} {T : TypeId} (k : Blk w b (pubC L V root pub).toArray T) : w.rangeAt b 0 (shC L V).toList := fun j v hv => by
  rw [Nat.zero_add, k.cell, List.getElem?_toArray, ← hv]
  match j, hv with
  | 0, _ => rfl
  | 1, _ => rfl
  | j + 2, h => simp [shC] at h
theorem pubC_root {L V : Int} {root pub : List Int} {w : World} {b : Nat} {T : TypeId} (k : Blk w b (pubC L V root pub).toArray T) : w.rangeAt b 2 (root.map (Value.int .u8)) := fun j v hv => by
  have hj : j < root.length := by have := (List.getElem?_eq_some_iff.1 hv).1; simpa using this
  rw [k.cell, List.getElem?_toArray, ← hv]
  unfold pubC
  rw [show 2 + j = j + 1 + 1 by omega, List.getElem?_cons_succ, List.getElem?_cons_succ, List.getElem?_append_left (by rw [List.length_map]; exact hj)]
theorem pubC_pub {L V : Int} {root pub : List Int} (h1 : Dg root) {w : World} {b : Nat} {T : TypeId} (k : Blk w b (pubC L V root pub).toArray T) : w.rangeAt b 34 (pub.map (Value.int .u8)) := fun j v hv => by
  rw [k.cell, List.getElem?_toArray, ← hv]
  unfold pubC
  rw [show 34 + j = (32 + j) + 1 + 1 by omega, List.getElem?_cons_succ, List.getElem?_cons_succ, List.getElem?_append_right (by rw [List.length_map, h1.len]; omega), List.length_map, h1.len, show 32 + j - 32 = j by omega]
/-- A signature's cells. -/
def sigC (i : Int) (r : List Int) (pv : Value) : List Value := .int .i64 i :: (r.map (Value.int .u8) ++ [pv])
theorem sigC_size {i : Int} {r : List Int} {pv : Value} (h : Dg r) : (sigC i r pv).toArray.size = 34 := by simp [sigC, h.len]
theorem sigC_ones (i : Int) (r : List Int) (pv : Value) (h : pv.oneCell' = true) : (sigC i r pv).toArray.all (·.oneCell') = true := all_oneCell_toArray fun u hu => by
  simp only [sigC, List.mem_cons, List.mem_append, List.mem_map, List.not_mem_nil, or_false] at hu
  rcases hu with rfl | ⟨_, _, rfl⟩ | rfl
  · rfl
  · rfl
  · exact h
theorem size_public : (Tryd.prog.info? 68).map (·.size) = some 66 := by kernel_rfl
theorem size_sig : (Tryd.prog.info? 75).map (·.size) = some 34 := by kernel_rfl
def zPub : List Value := pubC 0 0 zD zD
def zSig : List Value := sigC 0 zD (.slice none 0 0)
theorem build_pub (L V : Int) (root pub : List Int) (h1 : Dg root) (h2 : Dg pub) (w : World) : (Instr.build 68 #[(0, .agg (shC L V)), (1, .agg (root.map (Value.int .u8)).toArray), (2, .agg (pub.map (Value.int .u8)).toArray)]).run Tryd.prog w = .ok (.agg (pubC L V root pub).toArray) w := by
  refine run_build w _ _ _ ?_
  obtain ⟨i0, hi, hz0⟩ := Option.map_eq_some_iff.1 (show (Tryd.prog.info? 68).map (·.zero) = some (some (.agg zPub.toArray)) by kernel_rfl)
  obtain ⟨fields, hu, hq⟩ : ∃ fields, Tryd.prog.underlying 68 = some (.struct fields) ∧ fields.toList.mapM (fun f => (Tryd.prog.info? f.type).map fun i => (f.offset, i.size)) = some [(0, 2), (2, 32), (34, 32)] := ⟨_, Tryd.underlying68, by kernel_rfl⟩
  have hz : (Value.agg zPub.toArray).cells = zPub.toArray := rfl
  unfold Program.built
  simp only [hi, hu, hz0, hq, hz]
  have hs0 : (Value.agg (shC L V)).cells.size = 2 := rfl
  have hs1 : (Value.agg (root.map (Value.int .u8)).toArray).cells.size = 32 := h1.size
  have hs2 : (Value.agg (pub.map (Value.int .u8)).toArray).cells.size = 32 := h2.size
  have t0 : splice zPub.toArray.toList 0 (Value.agg (shC L V)).cells.toList = pubC L V zD zD := rfl
  have t1 : splice (pubC L V zD zD) 2 (Value.agg (root.map (Value.int .u8)).toArray).cells.toList = pubC L V root zD := by
    show splice (pubC L V zD zD) 2 (root.map (Value.int .u8)) = _
    unfold splice
    rw [List.length_map, h1.len]
    rfl
  have t2 : splice (pubC L V root zD) 34 (Value.agg (pub.map (Value.int .u8)).toArray).cells.toList = pubC L V root pub := by
    show splice (Value.int .i64 L :: Value.int .i64 V :: (root.map (Value.int .u8) ++ zD.map (Value.int .u8))) 34 (pub.map (Value.int .u8)) = _
    unfold splice
    rw [List.take_succ_cons, List.take_succ_cons, List.take_append_of_le_length (by rw [List.length_map, h1.len]; omega), List.take_of_length_le (by rw [List.length_map, h1.len]; omega), List.length_map, h2.len, List.drop_eq_nil_of_le (by simp [h1.len, zD])]
    simp [pubC]
  rw [fill_part _ _ 0 0 _ _ (by rw [hs0]; rfl) (by rw [hs0]; decide), t0]
  rw [fill_part _ _ 1 2 _ _ (by rw [hs1]; rfl) (by rw [hs1, pubC_size Dg.zero Dg.zero]; omega), List.toList_toArray, t1]
  rw [fill_part _ _ 2 34 _ _ (by rw [hs2]; rfl) (by rw [hs2, pubC_size h1 Dg.zero]; omega), List.toList_toArray, t2, Instr.fill]
theorem equalIn_dig (d : Nat) (xs : List Int) (h : Dg xs) (w : World) : (Op.equalIn (d + 2) 23 (.agg (xs.map (Value.int .u8)).toArray) (.agg (xs.map (Value.int .u8)).toArray)).run Tryd.prog w = .ok true w := by
  obtain ⟨i0, hi⟩ : ∃ i, Tryd.prog.info? 5 = some i := Option.isSome_iff_exists.1 (by kernel_rfl)
  rw [run_equalIn_array w (d + 1) _ _ Tryd.underlying23 hi, run_eqItems_ints d Tryd.underlying5 (by kernel_rfl) xs xs rfl w _ (by simp [h.len])]
  simp
theorem part_dig (cs : Array Value) (xs : List Int) (o : Nat) (w : World) (h : cs.extract o (o + 32) = (xs.map (Value.int .u8)).toArray) : (part 23 cs o).run Tryd.prog w = .ok (.agg (xs.map (Value.int .u8)).toArray) w := by
  obtain ⟨i0, hi, hs⟩ := Option.map_eq_some_iff.1 size_digest
  have hagg : (isAgg 23).run Tryd.prog w = .ok true w := by
    unfold isAgg
    simp only [Sem.run_bind, run_underlying Tryd.underlying23, Result.andThen_ok]
    rfl
  unfold part
  simp [Sem.run_bind, hagg, sizeOf, typeInfo, hi, hs, h]
theorem part_int (cs : Array Value) (o : Nat) (v : Value) (w : World) (h : cs[o]? = some v) : (part 3 cs o).run Tryd.prog w = .ok v w := by
  have hagg : (isAgg 3).run Tryd.prog w = .ok false w := by
    unfold isAgg
    simp only [Sem.run_bind, run_underlying Tryd.underlying3, Result.andThen_ok]
    rfl
  unfold part
  simp [Sem.run_bind, hagg, h]
theorem equalIn_shape (d : Nat) (L V : Int) (w : World) : (Op.equalIn (d + 2) 63 (.agg (shC L V)) (.agg (shC L V))).run Tryd.prog w = .ok true w := by
  obtain ⟨f0, f1, hu, t0, t1, o0, o1, n0, n1⟩ : ∃ f0 f1 : Field, Tryd.prog.underlying 63 = some (.struct #[f0, f1]) ∧ f0.type = 3 ∧ f1.type = 3 ∧ f0.offset = 0 ∧ f1.offset = 1 ∧ f0.name ≠ "_" ∧ f1.name ≠ "_" := ⟨_, _, Tryd.underlying63, rfl, rfl, rfl, rfl, by decide, by decide⟩
  have hf : Tryd.prog.fieldsOf 63 = #[f0, f1] := by unfold Program.fieldsOf; rw [hu]
  rw [run_equalIn_struct w (d + 1) 63 _ _ (by rw [hf]; exact hu) (by kernel_rfl), hf]
  simp only [Op.eqFields, n0, n1, t0, t1, o0, o1, ne_eq, not_false_eq_true, if_true, Sem.run_bind, part_int (shC L V) 0 (.int .i64 L) w rfl, part_int (shC L V) 1 (.int .i64 V) w rfl, Result.andThen_ok, run_equalIn_int w d 3 .i64 .i64 _ _ Tryd.underlying3, beq_self_eq_true, Bool.not_true, Bool.false_eq_true, if_false, Sem.run_pure]
theorem pubC_e1 {L V : Int} {root pub : List Int} (h1 : Dg root) : (pubC L V root pub).toArray.extract 2 (2 + 32) = (root.map (Value.int .u8)).toArray := by
  rw [List.extract_toArray, List.extract_eq_take_drop]
  unfold pubC
  rw [List.drop_succ_cons, List.drop_succ_cons, List.drop_zero, Nat.add_sub_cancel_left, List.take_append_of_le_length (by rw [List.length_map, h1.len]; omega), List.take_of_length_le (by rw [List.length_map, h1.len]; omega)]
theorem pubC_e2 {L V : Int} {root pub : List Int} (h1 : Dg root) (h2 : Dg pub) : (pubC L V root pub).toArray.extract 34 (34 + 32) = (pub.map (Value.int .u8)).toArray := by
  rw [List.extract_toArray, List.extract_eq_take_drop]
  unfold pubC
  rw [List.drop_succ_cons, List.drop_succ_cons, Nat.add_sub_cancel_left, List.drop_append, List.length_map, h1.len, List.drop_eq_nil_of_le (by rw [List.length_map, h1.len]; omega), List.nil_append, Nat.sub_self, List.drop_zero, List.take_of_length_le (by rw [List.length_map, h2.len]; omega)]
theorem pubC_e0 (L V : Int) (root pub : List Int) : (pubC L V root pub).toArray.extract 0 (0 + 2) = shC L V := by
  rw [List.extract_toArray, List.extract_eq_take_drop]
  unfold pubC
  rw [List.drop_zero, Nat.zero_add, Nat.sub_zero, List.take_succ_cons, List.take_succ_cons, List.take_zero]
  rfl
theorem part_shape (cs : Array Value) (L V : Int) (o : Nat) (w : World) (h : cs.extract o (o + 2) = shC L V) : (part 63 cs o).run Tryd.prog w = .ok (.agg (shC L V)) w := by
  obtain ⟨i0, hi, hs⟩ := Option.map_eq_some_iff.1 size_shape
  have hagg : (isAgg 63).run Tryd.prog w = .ok true w := by
    unfold isAgg
    simp only [Sem.run_bind, run_underlying Tryd.underlying63, Result.andThen_ok]
    rfl
  unfold part
  simp [Sem.run_bind, hagg, sizeOf, typeInfo, hi, hs, h]
theorem eqFields_step {P : Program} {d : Nat} {cs : Array Value} {f : Field} {fs : List Field} {w : World} {u : Value} {T : TypeId} {o : Nat} (hn : f.name ≠ "_") (ht : f.type = T) (ho : f.offset = o) (hp : (part T cs o).run P w = .ok u w) (he : (Op.equalIn d T u u).run P w = .ok true w) (h : (Op.eqFields d cs cs fs).run P w = .ok true w) :
    (Op.eqFields d cs cs (f :: fs)).run P w = .ok true w := by
  subst ht ho
  unfold Op.eqFields
  simp only [hn, ne_eq, not_false_eq_true, if_true, Sem.run_bind, hp, he, Result.andThen_ok, Bool.not_true, Bool.false_eq_true, if_false, h]
theorem eqFields_nil {P : Program} {d : Nat} {cs : Array Value} {w : World} : (Op.eqFields d cs cs []).run P w = .ok true w := rfl
theorem equalIn_pub (d : Nat) (L V : Int) (root pub : List Int) (h1 : Dg root) (h2 : Dg pub) (w : World) : (Op.equalIn (d + 3) 68 (.agg (pubC L V root pub).toArray) (.agg (pubC L V root pub).toArray)).run Tryd.prog w = .ok true w := by
  obtain ⟨f0, f1, f2, hu, t0, t1, t2, o0, o1, o2, n0, n1, n2⟩ : ∃ f0 f1 f2 : Field, Tryd.prog.underlying 68 = some (.struct #[f0, f1, f2]) ∧ f0.type = 63 ∧ f1.type = 23 ∧ f2.type = 23 ∧ f0.offset = 0 ∧ f1.offset = 2 ∧ f2.offset = 34 ∧ f0.name ≠ "_" ∧ f1.name ≠ "_" ∧ f2.name ≠ "_" := ⟨_, _, _, Tryd.underlying68, rfl, rfl, rfl, rfl, rfl, rfl, by decide, by decide, by decide⟩
  have hf : Tryd.prog.fieldsOf 68 = #[f0, f1, f2] := by unfold Program.fieldsOf; rw [hu]
  have q0 := pubC_e0 L V root pub
  have q1 := pubC_e1 (L := L) (V := V) (pub := pub) h1
  have q2 := pubC_e2 (L := L) (V := V) h1 h2
  generalize (pubC L V root pub).toArray = cs at *
  rw [run_equalIn_struct w (d + 2) 68 _ _ (by rw [hf]; exact hu) (by kernel_rfl), hf]
  exact eqFields_step n0 t0 o0 (part_shape cs L V 0 w q0) (equalIn_shape d L V w) (eqFields_step n1 t1 o1 (part_dig cs root 2 w q1) (equalIn_dig d root h1 w) (eqFields_step n2 t2 o2 (part_dig cs pub 34 w q2) (equalIn_dig d pub h2 w) eqFields_nil))
theorem eq_pub_self (L V : Int) (root pub : List Int) (h1 : Dg root) (h2 : Dg pub) (w : World) : (binOp .eql 68 (.agg (pubC L V root pub).toArray) (.agg (pubC L V root pub).toArray)).run Tryd.prog w = .ok (.bool true) w := by
  have h := equalIn_pub 9997 L V root pub h1 h2 w
  rw [run_eql_struct, h]
  rfl
end Go.Proofs.YtjkfbeillmeomaaDoor
