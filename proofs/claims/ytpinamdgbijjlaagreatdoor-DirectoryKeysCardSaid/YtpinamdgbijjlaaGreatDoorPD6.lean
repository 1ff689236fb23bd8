/-
  Put together, as far as wanted: JDkB JDkC JDkE JDkG JSgA JSgB JSgC JSgD JSgE JSgF JSgG JSgH JSgI JSgK JSgL DyA DyB.
-/
import Derived.Test.YtpinamdgbijjlaaGreatDoorPD5
namespace Go.Proofs.YtpinamdgbijjlaaGreatDoor
set_option maxRecDepth 100000
open Go.ChangeShapes Go.WideShapes Go.ChangeAt Go.RowKit
theorem make_bytes (m : Nat) (hm : m ≤ 1000000) (w0 : World) : (Instr.makeSlice 56 (.int .i64 m) (.int .i64 m)).run Tryz.prog w0 = .ok (.slice (some ⟨w0.heap.size, 0, none⟩) m m) (w0.alloc (.cells ((List.replicate m (0 : Int)).map (Value.int .u8)).toArray 5)) := by
  obtain ⟨i0, hi, hz0, hz1, hz2⟩ := info_parts info_byte
  have hr := run_makeSlice (P := Tryz.prog) w0 56 5 i0 (.int .u8 0) Tryz.underlying56 hi hz0 .i64 .i64 m m (by omega) (by omega) (by rw [hz1]; simp; omega) (by rw [hz2]; omega) (by omega)
  rw [hz1] at hr
  have he : ((List.replicate m (0 : Int)).map (Value.int .u8)).toArray = byteCells m [] := by simp [byteCells]
  rw [hr, he, ← make_cells]
  simp
  rfl
set_option maxHeartbeats 4000000 in
theorem new_good (w : World) (n z : Nat) (h1 : 1 ≤ n) (h2 : n ≤ 64) (h3 : 1 ≤ z) (h4 : z ≤ 512) :
    Calls Tryz.prog 6 #[.int .i64 n, .int .i64 z] w fun e w' => ∃ p bb, e = .returned (.tuple #[.pointer (some ⟨p, 0, none⟩), .int .i64 0]) ∧ w.heap.size ≤ p ∧ w.heap.size ≤ bb ∧ Below w.heap.size w w' ∧ DkAt w' p bb z n (List.replicate (n * z) 0) (.slice none 0 0) true false 0 (.slice none 0 0) := by
  have hI1 : ¬ ((n : Int) < 1) := by omega
  have hI2 : ¬ ((64 : Int) < (n : Int)) := by omega
  have hI3 : ¬ ((z : Int) < 1) := by omega
  have hI4 : ¬ ((512 : Int) < (z : Int)) := by omega
  have hm2 : n * z ≤ 32768 := Nat.le_trans (Nat.mul_le_mul h2 h4) (by omega)
  have hw : wrap64 ((n : Int) * (z : Int)) = (n : Int) * (z : Int) := by rw [← Int.natCast_mul]; unfold wrap64; omega
  have hmk := fun W => make_bytes (n * z) (by omega) W
  rw [Int.natCast_mul] at hmk
  have Hb := hid (Below.refl w.heap.size w)
  go_enter Tryz.func6, Tryz.ntmps6
  go_wp2_with fail
  go_returns
  have hr : Array.replicate (n * z) (Value.int .u8 0) = ((List.replicate (n * z) (0 : Int)).map (Value.int .u8)).toArray := by simp
  rw [hr]
  refine ⟨w.heap.size + 1, rfl, Nat.le_succ _, w.heap.size, Nat.le_refl _, ((Below.refl _ _).alloc (Nat.le_refl _) _).alloc (by simp only [World.size_alloc]; omega) _, ?_⟩
  have kb : Blk (w.alloc (.cells ((List.replicate (n * z) (0 : Int)).map (Value.int .u8)).toArray 5 (0, 0))) w.heap.size ((List.replicate (n * z) (0 : Int)).map (Value.int .u8)).toArray 5 := Blk.new rfl _ _
  refine ⟨?_, kb.old _, by omega, by rw [List.length_replicate], h3, h4, h1, h2, fun x hx => by have := List.eq_of_mem_replicate hx; omega⟩
  have kp := Blk.new (w := w.alloc (.cells ((List.replicate (n * z) (0 : Int)).map (Value.int .u8)).toArray 5 (0, 0))) (n := w.heap.size + 1) (by simp only [World.size_alloc]) (dkC z (List.replicate (n * z) (0 : Int)).length w.heap.size (.slice none 0 0) true false 0 (.slice none 0 0)) 68
  rw [List.length_replicate] at kp ⊢
  exact kp
theorem info_write : ∃ i z, Tryz.prog.info? 202 = some i ∧ i.zero = some z ∧ z.cells.size = 2 ∧ i.size = 2 ∧ i.bytes = 32 := by
  obtain ⟨i0, hi, h⟩ := Option.map_eq_some_iff.1 (show (Tryz.prog.info? 202).map (fun i => (i.zero, i.size, i.bytes)) = some (some (.agg #[.int .i64 0, .slice none 0 0]), 2, 32) by kernel_rfl)
  simp only [Prod.mk.injEq] at h
  exact ⟨i0, _, hi, h.1, rfl, h.2.1, h.2.2⟩
theorem run_build_write (x y : Value) (w : World) : (Instr.buildSlice 65 1 #[(0, .agg #[x, y])]).run Tryz.prog w = .ok (.slice (some ⟨w.heap.size, 0, none⟩) 1 1) (w.alloc (.cells #[x, y] 202 (0, 0))) := by
  obtain ⟨i, hi, h⟩ := Option.map_eq_some_iff.1 (show (Tryz.prog.info? 202).map (fun i => (i.zero, i.size)) = some (some (.agg #[.int .i64 0, .slice none 0 0]), 2) by kernel_rfl)
  simp only [Prod.mk.injEq] at h
  obtain ⟨hz0, hz2⟩ := h
  unfold Instr.buildSlice
  have hf : Instr.fill (fun i => some (i * 2, 2)) #[.int .i64 0, .slice none 0 0] [(0, .agg #[x, y])] = some #[x, y] := by
    rw [fill_part _ _ 0 0 _ _ rfl (by exact Nat.le_refl 2), Instr.fill]
    rfl
  have hm : (Array.range 2).map (fun j => (Value.agg #[.int .i64 0, .slice none 0 0]).cells[j % (Value.agg #[.int .i64 0, .slice none 0 0]).cells.size]!) = #[.int .i64 0, .slice none 0 0] := by
    refine Array.ext (by simp) fun j h1 h2 => ?_
    have : j < 2 := by simpa using h2
    rcases (show j = 0 ∨ j = 1 by omega) with rfl | rfl
    · rw [Array.getElem_map]; simp; rfl
    · rw [Array.getElem_map]; simp; rfl
  simp [run_underlying Tryz.underlying65, sizeOf, typeInfo, hi, hz2]
  rw [hm, hf]
  simp [newRow]
theorem exec_build_write {o : Oper} {A : Act} {w : World} {e : Operand} (ho : o.op = .buildSlice 65 1 #[(0, e)]) {x y : Value} (he : A.eval e = .agg #[x, y]) :
    (execOp A.eval o).run Tryz.prog w = .ok (.value (.slice (some ⟨w.heap.size, 0, none⟩) 1 1)) (w.alloc (.cells #[x, y] 202 (0, 0))) := by
  unfold execOp
  simp only [ho, List.map_toArray, List.map_cons, List.map_nil, he, Sem.run_bind, run_build_write, Result.andThen_ok, Sem.run_pure]
/-- The first write that waits. -/
theorem run_append_write {w : World} {b : Nat} {x y : Value} {T : TypeId} (ty : TypeId) (hk : Blk w b #[x, y] T) (hx : x.oneCell' = true) (hy : y.oneCell' = true) :
    ∃ g c w', (Builtin.append_ #[65, 65] ty #[.slice none 0 0, .slice (some ⟨b, 0, none⟩) 1 1]).run Tryz.prog w = .ok (.slice (some ⟨g, 0, none⟩) 1 c) w' ∧ Below w.heap.size w w' ∧ 1 ≤ c ∧ w.heap.size ≤ g ∧ ∃ cur, Blk w' g cur 202 ∧ cur[0]? = some x ∧ cur[1]? = some y := by
  obtain ⟨i, z, hi, hz, hzs, hsize, hby⟩ := info_write
  obtain ⟨v', w', h1, h2, h3, _⟩ := run_append_own (P := Tryz.prog) w w.heap.size 65 ty 202 i z 2 32 Tryz.underlying65 hi hz hsize hby hzs (by omega) (.slice none 0 0) 0 [] (World.ownsRow_nil w w.heap.size 202 2) ⟨b, 0, none⟩ 1 1 [x, y] rfl (news_blk (cs := [x, y]) hk) (fun u hu => by
    simp only [List.mem_cons, List.not_mem_nil, or_false] at hu
    rcases hu with rfl | rfl
    · exact hx
    · exact hy) (by unfold maxLen; omega) (by omega) (Nat.le_refl _)
  rw [Nat.zero_add, List.nil_append] at h2
  have hbel : Below w.heap.size w w' := ⟨h3.os, h3.tape, h3.output, h3.size, fun k hk => h3.block k hk (fun e => by cases e)⟩
  obtain ⟨q1, ⟨rfl, h0⟩ | ⟨g, cap, cur, rfl, hg, hh, hle, hmx, hsz, htk⟩⟩ := h2
  · omega
  · refine ⟨g, cap, w', h1, hbel, hle, hg, cur, hh, ?_, ?_⟩
    · rw [← Array.getElem?_toList, ← List.getElem?_take_of_lt (show 0 < 1 * 2 by omega), htk]; rfl
    · rw [← Array.getElem?_toList, ← List.getElem?_take_of_lt (show 1 < 1 * 2 by omega), htk]; rfl
theorem WaitAt.of_blk {w : World} {S : List Nat} {z g c i : Nat} {cur : Array Value} {t : List Int} {a : Option Addr} {c2 : Nat} (hk : Blk w g cur 202) (hc : 1 ≤ c) (h0 : cur[0]? = some (.int .i64 (i : Int))) (h1 : cur[1]? = some (.slice a z c2)) (hg : g ∉ S) (ht : TextO w S a z c2 t) : WaitAt w S z (some ⟨g, 0, none⟩) c [(i, t)] :=
  ⟨hc, .inr ⟨g, 0, rfl, hg, hk.lt, fun j hj => by
    obtain rfl : j = 0 := by simp at hj; omega
    exact ⟨by rw [hk.cell]; exact h0, a, c2, by rw [hk.cell]; exact h1, ht⟩⟩⟩
set_option maxHeartbeats 4000000 in
theorem write_first (w : World) (p bb z n : Nat) (B : List Int) (af : Int) (kv : Value) (hd : DkAt w p bb z n B (.slice none 0 0) true false af kv) (i : Nat) (hi : i < n) (ta : Option Addr) (tc : Nat) (t : List Int) (hT : TextAt w ta z tc t) :
    Calls Tryz.prog 142 #[.pointer (some ⟨p, 0, none⟩), .int .i64 i, .slice ta z tc] w fun e w' => ∃ wa wc, e = .returned (.int .i64 0) ∧ FlowB.ButIn [p, bb] w w' ∧ But p w w' ∧ DkAt w' p bb z n B (.slice wa 1 wc) true false af kv ∧ WaitAt w' [p, bb] z wa wc [(i, t)] := by
  have hz2 := hd.z2
  have Kd := hid hd.kp
  have Hb := hid (Below.refl w.heap.size w)
  have HD := hid hd
  have HT := hid hT
  have cd0 : w.cell? ⟨p, 0, none⟩ = some (.int .i64 z) := by rw [Kd.out.cell]; rfl
  have cd2 : w.cell? ⟨p, 2, none⟩ = some ((.slice none 0 0)) := by rw [Kd.out.cell]; rfl
  have cd3 : w.cell? ⟨p, 3, none⟩ = some (.bool true) := by rw [Kd.out.cell]; rfl
  go_enter Tryz.func142, Tryz.ntmps142
  go_wp2_with fail
  refine (has_in _ p bb z n B _ true false af kv (HD.out.below Hb.out) (i : Int) (by omega) (by omega)).mono ?_
  rintro e w1 ⟨rfl, bw1⟩
  have HBw1 := hid (Below.on Hb.out bw1)
  have hsw1 := HBw1.out.size
  have Kdw1 := hid (Kd.out.below bw1)
  clear bw1
  have cd0w1 : w1.cell? ⟨p, 0, none⟩ = some (.int .i64 z) := by rw [Kdw1.out.cell]; rfl
  have cd2w1 : w1.cell? ⟨p, 2, none⟩ = some (.slice none 0 0) := by rw [Kdw1.out.cell]; rfl
  have cd3w1 : w1.cell? ⟨p, 3, none⟩ = some (.bool true) := by rw [Kdw1.out.cell]; rfl
  go_wp2_with fail
  refine (fails_unset _ p bb z n B _ true af kv (HD.out.below HBw1.out)).mono ?_
  rintro e w2 ⟨rfl, bw2⟩
  have HBw2 := hid (Below.on HBw1.out bw2)
  have hsw2 := HBw2.out.size
  have Kdw2 := hid (Kdw1.out.below bw2)
  clear bw2
  have cd0w2 : w2.cell? ⟨p, 0, none⟩ = some (.int .i64 z) := by rw [Kdw2.out.cell]; rfl
  have cd2w2 : w2.cell? ⟨p, 2, none⟩ = some (.slice none 0 0) := by rw [Kdw2.out.cell]; rfl
  have cd3w2 : w2.cell? ⟨p, 3, none⟩ = some (.bool true) := by rw [Kdw2.out.cell]; rfl
  go_wp2_with fail
  refine wp_region_flow 11 [0, 1, 2, 3, 4, 5, 6] [] [(.c 7, [8], [9]), (.b 9, [], []), (.c 10, [], [])] (by kernel_rfl) (by kernel_rfl) ?_
  apply Exists.intro
  refine ⟨fun w0 hb0 hF0 => ?_, ?_⟩
  · skip
    have y0 : ∀ w', (∃ x : Ext w0, w' = x.at_) → w'.cell? ⟨p, 2, none⟩ = some (.slice none 0 0) := fun w' ⟨x, hx⟩ => by rw [hx, ((Kdw2.out.below hb0).below x.same).cell]; rfl
    simp only [pick, List.getElem?_toArray, List.getElem?_cons_succ, List.getElem?_cons_zero, Option.toList_some, List.cons_append, List.nil_append]
    repeat (first | (go_big_quiet_want; refine quiet_load_one_s 65 _ rfl ⟨p, 2, none⟩ rfl _ y0 _ Tryz.underlying65 rfl ?_; go_big_quiet_on; simp only [Act.put, List.setIfInBounds_toArray, List.set_cons_zero, List.set_cons_succ]) | go_big_quiet_step (fail))
    exact wpQuiet_nil rfl
  refine AlChk.nil ?_
  refine Walk.call rfl 64 #[.slice ta z tc] (fun v w' => ∃ a c, v = .slice a z c ∧ TextAt w' a z c t ∧ ∀ q : Addr, a = some q → w2.heap.size ≤ q.block) (fun v w' w'' h k => by obtain ⟨a, c, h1, h2, h3⟩ := h; exact ⟨a, c, h1, h2.below k, h3⟩) rfl (fun w1 hb1 hF1 => ⟨by go_simp, ?_⟩) ?_
  · refine (clone_any ((HT.out.below HBw2.out).below hb1) (by omega)).mono ?_
    rintro e w2 ⟨a, c, rfl, b2, t2, o2⟩
    exact ⟨_, rfl, b2, a, c, rfl, t2, fun q hq => Nat.le_trans hb1.size (o2 q hq).1⟩
  rintro v1 w1 hb1 hF1 ⟨a1, c1, rfl, _, ha1⟩
  apply Exists.intro
  refine ⟨fun w0 hb0 hF0 => ?_, ?_⟩
  · skip
    simp only [pick, List.getElem?_toArray, List.getElem?_cons_succ, List.getElem?_cons_zero, Option.toList_some, List.cons_append, List.nil_append, Act.put, List.setIfInBounds_toArray, List.set_cons_zero, List.set_cons_succ]
    repeat (first | go_big_quiet_step (fail))
    exact wpQuiet_nil rfl
  refine AlChk.one rfl (fun b => .slice (some ⟨b, 0, none⟩) 1 1) (.cells #[.int .i64 (i : Int), .slice a1 z c1] 202 (0, 0)) rfl (fun w3 hb3 hF3 => exec_build_write rfl (by go_simp)) ?_
  refine AlChk.nil ?_
  refine Walk.blk rfl (fun b => .slice (some ⟨b, 0, none⟩) 1 1) (.cells #[.int .i64 (i : Int), .slice a1 z c1] 202 (0, 0)) (by simp) ?_
  intro b9 wz hbz_ hFz hge9 _
  apply Exists.intro
  refine ⟨fun w4 hb4 hF4 => wpQuiet_nil rfl, ?_⟩
  refine AlChk.nil ?_
  refine Walk.does rfl (fun v w' => ∃ g c, v = .slice (some ⟨g, 0, none⟩) 1 c ∧ 1 ≤ c ∧ w2.heap.size ≤ g ∧ ∃ cur, Blk w' g cur 202 ∧ cur[0]? = some (.int .i64 (i : Int)) ∧ cur[1]? = some (.slice a1 z c1)) (fun v w' w'' h k => by obtain ⟨g, c, h1, h2, h3, cur, h4, h5⟩ := h; exact ⟨g, c, h1, h2, h3, cur, h4.below k, h5⟩) rfl (fun w1 hb1 hF1 => ?_) ?_
  · obtain ⟨g, c, w2, hr, hb2, hc2, hg2, cur, hk2, hc0, hc1⟩ := run_append_write (w := w1) (b := b9) (x := .int .i64 (i : Int)) (y := .slice a1 z c1) (T := 202) 65 hF1.2 rfl rfl
    refine ⟨_, w2, FlowB.exec_append rfl rfl rfl hr, hb2, g, c, rfl, hc2, Nat.le_trans hb1.size hg2, cur, hk2, hc0, hc1⟩
  rintro v2 w2 hb2 hF2 ⟨g, c, rfl, hc, hg, _⟩
  apply Exists.intro
  refine ⟨fun w4 hb4 hF4 => wpQuiet_nil rfl, ?_⟩
  refine AlChk.nil ?_
  refine Walk.fin fun w3 hw3 hFw3 _ => ?_
  simp only [List.drop_succ_cons, List.drop_zero]
  have HFF := hid hFw3
  have HBw3 := hid (Below.on HBw2.out hw3)
  have hsw3 := HBw3.out.size
  have Kdw3 := hid (Kdw2.out.below hw3)
  clear hw3 hFw3
  go_wp2_with (
        refine wpList_store_cell_s rfl 65 _ _ rfl p 2 (.slice (some ⟨g, 0, none⟩) 1 c) rfl rfl rfl rfl (dkC z B.length bb (.slice none 0 0) true false af kv) 68 Kdw3.out (by simp [dkC]) size_waits ?_
        intro w9 hb9 hk9
        have Hb9 := hid hb9
        have Kd9 := hid (show Blk w9 p (dkC z B.length bb (.slice (some ⟨g, 0, none⟩) 1 c) true false af kv) 68 from hk9)
        clear hb9 hk9)
  go_returns
  have hI := ButIn.on (ButIn.of_below (S := [p, bb]) HBw3.out) (ButIn.of_but (S := [p, bb]) Hb9.out (by simp))
  have hplt := hd.kp.lt
  have hblt := hd.kb.lt
  obtain ⟨q1, q2⟩ := HFF.out
  obtain ⟨g', c', he, _, _, cur, hk, h0, h1⟩ := q2
  obtain ⟨⟨_, a', c2, he2, ht, _⟩, _⟩ := q1
  cases he
  cases he2
  have hsz0 := HBw2.out.size
  refine ⟨_, _, rfl, hI, But.trans (But.of HBw3.out) Hb9.out, ⟨Kd9.out, Hb9.out.blk ((HD.out.kb).below HBw3.out) (Ne.symm hd.ne), hd.ne, hd.len, hd.z1, hd.z2, hd.n1, hd.n2, hd.small⟩, ?_⟩
  refine WaitAt.of_blk (Hb9.out.blk hk (by omega)) hc h0 h1 (by simp only [List.mem_cons, List.not_mem_nil, or_false]; omega) ⟨?_, fun q hq => by have := ha1 q hq; simp only [List.mem_cons, List.not_mem_nil, or_false]; omega⟩
  exact ht.butIn (S := [p]) (fun q hq => by have := ha1 q hq; simp only [List.mem_cons, List.not_mem_nil, or_false]; omega) (ButIn.of_but Hb9.out (by simp))
end Go.Proofs.YtpinamdgbijjlaaGreatDoor
namespace Go.Proofs.YtpinamdgbijjlaaGreatDoor
set_option maxRecDepth 100000
open Go.ChangeShapes Go.WideShapes Go.ChangeAt Go.RowKit
section
variable {P : Program} {ops : Array Oper} {rest : List Oper} {op : Oper} {a : Act} {w : World} {Q : Exit → Act → World → Prop} {t e : TypeId}
/-- An element's address, of elements of s cells. -/
theorem run_indexAt_s (s : Nat) (ht : P.underlying t = some (.slice e)) (hs : (P.info? e).map (·.size) = some s) (b o len cap : Nat) (k : IntKind) (i : Int) (j : Nat) (hi : i = j) (hj : j < len) (w : World) :
    (Instr.indexAt t (.slice (some ⟨b, o, none⟩) len cap) (.int k i)).run P w = .ok (.pointer (some ⟨b, o + j * s, none⟩)) w := by
  subst hi
  obtain ⟨i0, hi0, h32⟩ := Option.map_eq_some_iff.1 hs
  have hlt : (0 : Int) ≤ j ∧ (j : Int) < len := by omega
  unfold Instr.indexAt
  simp [asIntOf, Sem.run_bind, run_underlying ht, hlt, sizeOf, typeInfo, hi0, h32, hj, Addr.add_mid]
theorem wpList_index_s (s : Nat) (hw : Region.wanted op (yielded ops a.tmps) = true) (ty : TypeId) (x ix : Operand) (ho : op.op = .indexAddr ty x ix) (ht : P.underlying ty = some (.slice e)) (hs : (P.info? e).map (·.size) = some s) (b o len cap : Nat) (hx : a.eval x = .slice (some ⟨b, o, none⟩) len cap)
    (k : IntKind) (i : Int) (hix : a.eval ix = .int k i) (j : Nat) (hi : i = j) (hj : j < len) (h : wpList P ops Q rest (a.put op.dst (.pointer (some ⟨b, o + j * s, none⟩))) w) : wpList P ops Q (op :: rest) a w := by
  unfold wpList
  rw [if_pos hw]
  refine .inl ?_
  unfold Oper.wp execOp
  simp only [ho, hx, hix, Sem.run_bind, Sem.run_pure, Result.andThen_ok, run_indexAt_s s ht hs b o len cap k i j hi hj, Oper.upon_value]
  exact h
end
/-- What is on the disk, once the first of the writes are there. -/
def syncN (z : Nat) (ws : List (Nat × List Int)) (B : List Int) : Nat → List Int
  | 0 => B
  | j + 1 => putS z (ws.getD j (0, [])).1 (ws.getD j (0, [])).2 z (syncN z ws B j)
/-- As many bytes as a list says. -/
def clampZ (z : Nat) (k : Int) : Nat := if k < 0 then 0 else if (z : Int) < k then z else k.toNat
def crashN (z : Nat) (ks : List Int) (ws : List (Nat × List Int)) (B : List Int) : Nat → List Int
  | 0 => B
  | j + 1 => if j < ks.length then putS z (ws.getD j (0, [])).1 (ws.getD j (0, [])).2 (clampZ z (ks.getD j 0)) (crashN z ks ws B j) else crashN z ks ws B j
def readN (z i : Nat) (ws : List (Nat × List Int)) (B : List Int) : Nat → List Int
  | 0 => (B.drop (i * z)).take z
  | j + 1 => if (ws.getD j (0, [])).1 = i then (ws.getD j (0, [])).2 else readN z i ws B j
structure IntsAt (w : World) (S : List Nat) (ka : Option Addr) (ks : List Int) : Prop where
  mem : ks.length = 0 ∨ ∃ x o, ka = some ⟨x, o, none⟩ ∧ x ∉ S ∧ x < w.heap.size ∧ ∀ j, j < ks.length → w.cell? ⟨x, o + j, none⟩ = some (.int .i64 (ks.getD j 0))
/-- The sector's part of a disk is written. -/
theorem DkAt.put {w : World} {p bb z n : Nat} {B : List Int} {wv : Value} {on set : Bool} {af : Int} {kv : Value} (h : DkAt w p bb z n B wv on set af kv) (i : Nat) (hi : i < n) (t : List Int) (m : Nat) (hm : m ≤ z) (hm2 : m ≤ t.length) (ht : ∀ x ∈ t, 0 ≤ x ∧ x < 256) :
    DkAt (w.setCells bb (i * z) ((t.take m).map (Value.int .u8))) p bb z n (putS z i t m B) wv on set af kv ∧ FlowB.ButIn [p, bb] w (w.setCells bb (i * z) ((t.take m).map (Value.int .u8))) := by
  have hf : i * z + z ≤ B.length := by
    rw [h.len, ← Nat.succ_mul]
    exact Nat.mul_le_mul_right z hi
  have hB := But.setCells ((t.take m).map (Value.int .u8)) (i * z) w (But.of (b := bb) (Below.refl _ _))
  refine ⟨⟨?_, putS_blk h.kb hm2 (by omega), h.ne, ?_, h.z1, h.z2, h.n1, h.n2, putS_small ht h.small⟩, ButIn.of_but hB (by simp)⟩
  · rw [putS_length hm2 (by omega)]
    exact hB.blk h.kp h.ne
  · rw [putS_length hm2 (by omega)]
    exact h.len
set_option maxHeartbeats 4000000 in
theorem sync_any (w : World) (p bb z n : Nat) (B : List Int) (af : Int) (kv : Value) (wa : Option Addr) (wc : Nat) (ws : List (Nat × List Int)) (hd : DkAt w p bb z n B (.slice wa ws.length wc) true false af kv) (hW : WaitAt w [p, bb] z wa wc ws) (hi : ∀ x ∈ ws, x.1 < n ∧ x.2.length = z) (hlw : ws.length ≤ 1000) :
    Calls Tryz.prog 98 #[.pointer (some ⟨p, 0, none⟩)] w fun e w' => e = .returned (.int .i64 0) ∧ FlowB.ButIn [p, bb] w w' ∧ DkAt w' p bb z n (syncN z ws B ws.length) (.slice none 0 0) true false af kv := by
  have Kd := hid hd.kp
  have Hb := hid (Below.refl w.heap.size w)
  have HD := hid hd
  have cd0 : w.cell? ⟨p, 0, none⟩ = some (.int .i64 z) := by rw [Kd.out.cell]; rfl
  have cd2 : w.cell? ⟨p, 2, none⟩ = some ((.slice wa ws.length wc)) := by rw [Kd.out.cell]; rfl
  have cd3 : w.cell? ⟨p, 3, none⟩ = some (.bool true) := by rw [Kd.out.cell]; rfl
  go_enter Tryz.func98, Tryz.ntmps98
  go_wp2_with fail
  refine (fails_unset _ p bb z n B _ true af kv (HD.out.below Hb.out)).mono ?_
  rintro e w1 ⟨rfl, bw1⟩
  have HBw1 := hid (Below.on Hb.out bw1)
  have hsw1 := HBw1.out.size
  have Kdw1 := hid (Kd.out.below bw1)
  clear bw1
  have cd0w1 : w1.cell? ⟨p, 0, none⟩ = some (.int .i64 z) := by rw [Kdw1.out.cell]; rfl
  have cd2w1 : w1.cell? ⟨p, 2, none⟩ = some (.slice wa ws.length wc) := by rw [Kdw1.out.cell]; rfl
  have cd3w1 : w1.cell? ⟨p, 3, none⟩ = some (.bool true) := by rw [Kdw1.out.cell]; rfl
  go_wp2_with fail
  go_loopw [27] (fun iv wr => ∃ j : Nat, j ≤ ws.length ∧ iv = .int .i64 j ∧ FlowB.ButIn [p, bb] w wr ∧ DkAt wr p bb z n (syncN z ws B j) (.slice wa ws.length wc) true false af kv) (fun iv _ => ws.length - (intOf iv).toNat)
  case atStart => exact ⟨0, Nat.zero_le _, rfl, ButIn.of_below HBw1.out, HD.out.below HBw1.out⟩
  case round =>
    obtain ⟨j, hj, rfl, hbi, hdr⟩ := hrel
    have HIwr := hid hbi
    have HDr := hid hdr
    clear hbi hdr
    by_cases hlt : j < ws.length
    · skip
      have HRr := hid (Below.refl wr.heap.size wr)
      have Kdwr := hid HDr.out.kp
      have Kbwr := hid HDr.out.kb
      have hcI : (j : Int) < ws.length := by omega
      have HWr := hid (hW.butIn HIwr.out)
      have hwj0 := hi (ws.getD j (0, [])) (by rw [List.getD_eq_getElem?_getD, List.getElem?_eq_getElem hlt]; exact List.getElem_mem _)
      obtain ⟨hwle, hw0 | ⟨x, o, rfl, hx, hxl, hcell⟩⟩ := HWr.out
      · omega
      obtain ⟨hc0, ta, tc, hc1, hto⟩ := hcell j hlt
      obtain ⟨qi, qt, hX⟩ : ∃ qi qt, ws.getD j (0, []) = (qi, qt) := ⟨_, _, rfl⟩
      have Hnx := hid (show syncN z ws B (j + 1) = putS z qi qt z (syncN z ws B j) by rw [syncN, hX])
      have hwj : qi < n ∧ qt.length = z := by rw [hX] at hwj0; exact hwj0
      rw [hX] at hc0 hto
      have HTO := hid (show TextO wr [p, bb] ta z tc qt from hto)
      have hRg : Hid (wr.rangeAt x (o + j * 2) [.int .i64 (qi : Int), .slice ta z tc]) := hid (fun k v hv => by
        match k, hv with
        | 0, hv => rw [Nat.add_zero, hc0]; exact hv
        | 1, hv => rw [hc1]; exact hv)
      clear hcell hto hc0 hc1 hX hwj0
      have Kvw1 := hid (Blk.new (w := wr) rfl #[.int .i64 (qi : Int), .slice ta z tc] 202)
      have HBw1 := hid (HRr.out.alloc HRr.out.size (.cells #[.int .i64 (qi : Int), .slice ta z tc] 202 (0, 0)))
      have hsw1 := HBw1.out.size
      have hfw1 : wr.heap.size ≤ wr.heap.size := HRr.out.size
      go_wp2_with (first
         | (refine wpList_index_s 2 rfl 65 _ _ rfl Tryz.underlying65 size_write x o ws.length wc rfl _ _ rfl j rfl hlt ?_)
         | (refine wpList_load_mid rfl 202 _ rfl x (o + j * 2) rfl _ _ hRg.out Tryz.underlying202 rfl size_write ?_))
      refine wp_region_flow 6 (List.range 6) [] [] (by kernel_rfl) (by kernel_rfl) ?_
      apply Exists.intro
      refine ⟨fun w0 hb0 hF0 => ?_, ?_⟩
      · skip
        have y0 : ∀ w', (∃ x : Ext w0, w' = x.at_) → w'.cell? ⟨wr.heap.size, 0, none⟩ = some (.int .i64 (qi : Int)) := fun w' ⟨x, hx⟩ => by rw [hx, ((Kvw1.out.below hb0).below x.same).cell]; rfl
        have y1 : ∀ w', (∃ x : Ext w0, w' = x.at_) → w'.cell? ⟨wr.heap.size, 1, none⟩ = some (.slice ta z tc) := fun w' ⟨x, hx⟩ => by rw [hx, ((Kvw1.out.below hb0).below x.same).cell]; rfl
        have c0 := fun e : Ext w0 => sector_any e.at_ p bb z n _ _ true false af kv (HDr.out.below (Below.on (Below.on HBw1.out hb0) e.same)) qi hwj.1
        simp only [pick, List.range, List.range.loop, List.getElem?_toArray, List.getElem?_cons_succ, List.getElem?_cons_zero, Option.toList_some, List.cons_append, List.nil_append]
        repeat (first | (go_big_quiet_want; refine quiet_load_one_s 3 _ rfl ⟨wr.heap.size, 0, none⟩ rfl _ y0 _ Tryz.underlying3 rfl ?_; go_big_quiet_on; simp only [Act.put, List.setIfInBounds_toArray, List.set_cons_zero, List.set_cons_succ]) | (go_big_quiet_want; refine quiet_load_one_s 56 _ rfl ⟨wr.heap.size, 1, none⟩ rfl _ y1 _ Tryz.underlying56 rfl ?_; go_big_quiet_on; simp only [Act.put, List.setIfInBounds_toArray, List.set_cons_zero, List.set_cons_succ]) | go_big_quiet_step (first | (go_at_call 111; with_reducible exact Calls.ext (c0 _))))
        exact wpQuiet_nil rfl
      refine AlChk.nil ?_
      refine Walk.fin fun w2 hw2 _ _ => ?_
      simp only [List.drop_succ_cons, List.drop_zero]
      have HBw2 := hid (Below.on HBw1.out hw2)
      have hsw2 := HBw2.out.size
      have Kvw2 := hid (Kvw1.out.below hw2)
      clear hw2
      have hDz := HDr.out.below HBw2.out
      have hTz := HTO.out.text.below HBw2.out
      have hml : qi * z + z ≤ (syncN z ws B j).length := by
        rw [hDz.len, ← Nat.succ_mul]
        exact Nat.mul_le_mul_right z hwj.1
      obtain ⟨hP, hQ⟩ := hDz.put qi hwj.1 qt z (Nat.le_refl _) (by rw [hTz.length]; exact Nat.le_refl _) hTz.small
      rw [List.map_take] at hP hQ
      have Hn0 := hid (show z = Nat.min z z from (Nat.min_self z).symm)
      have Hfit := hid (show qi * z + z ≤ ((syncN z ws B j).map (Value.int .u8)).toArray.size by rw [List.size_toArray, List.length_map]; exact hml)
      have HP := hid hP
      have HQ := hid (ButIn.on (ButIn.of_below (S := [p, bb]) HBw2.out) hQ)
      have HDz := hid hDz
      have HTz := hid hTz
      clear hDz hTz hP hQ
      go_wp2_with (with_reducible refine wpList_copy_text rfl _ _ _ _ rfl 5 Tryz.underlying56 size_u8 bb (qi * z) z ((syncN z ws B j).length - qi * z) rfl _ z _ rfl _ 5 HDz.out.kb _ HTz.out Hfit.out z Hn0.out ?_)
      exact ⟨⟨j + 1, by omega, by first | rfl | simp, ButIn.on HIwr.out HQ.out, by rw [Hnx.out]; exact HP.out⟩, by simp [intOf]; omega⟩
    · skip
      have hjn : j = ws.length := by omega
      subst hjn
      have hcI : ¬ ((ws.length : Int) < ws.length) := by omega
      go_wp2_with (
            refine wpList_store_cell_s rfl 65 _ _ rfl p 2 (.slice none 0 0) rfl rfl rfl rfl _ 68 HDr.out.kp (by simp [dkC]) size_waits ?_
            intro w9 hb9 hk9
            have Hb9 := hid hb9
            have Kd9 := hid (show Blk w9 p (dkC z (syncN z ws B ws.length).length bb (.slice none 0 0) true false af kv) 68 from hk9)
            clear hb9 hk9)
      go_returns
      exact ⟨by first | rfl | simp, ButIn.on HIwr.out (ButIn.of_but Hb9.out (by simp)), Kd9.out, Hb9.out.blk HDr.out.kb (Ne.symm HDr.out.ne), HDr.out.ne, HDr.out.len, HDr.out.z1, HDr.out.z2, HDr.out.n1, HDr.out.n2, HDr.out.small⟩
end Go.Proofs.YtpinamdgbijjlaaGreatDoor
namespace Go.Proofs.YtpinamdgbijjlaaGreatDoor
set_option maxRecDepth 100000
open Go.ChangeShapes Go.WideShapes Go.ChangeAt Go.RowKit
set_option maxHeartbeats 4000000 in
theorem size_any (w : World) (p bb z n : Nat) (B : List Int) (wv : Value) (on set : Bool) (af : Int) (kv : Value) (hd : DkAt w p bb z n B wv on set af kv) :
    Calls Tryz.prog 60 #[.pointer (some ⟨p, 0, none⟩)] w fun e w' => e = .returned (.int .i64 z) ∧ Below w.heap.size w w' := by
  have Kd := hid hd.kp
  have Hb := hid (Below.refl w.heap.size w)
  have cd0 : w.cell? ⟨p, 0, none⟩ = some (.int .i64 z) := by rw [Kd.out.cell]; rfl
  go_enter Tryz.func60, Tryz.ntmps60
  go_wp2_with fail
  go_returns
  exact ⟨rfl, Hb.out⟩
theorem DkAt.sec {w : World} {p bb z n : Nat} {B : List Int} {wv : Value} {on set : Bool} {af : Int} {kv : Value} (hd : DkAt w p bb z n B wv on set af kv) (i : Nat) (hi : i < n) : TextAt w (some ⟨bb, i * z, none⟩) z (B.length - i * z) ((B.drop (i * z)).take z) := by
  have hB : B.length ≤ 32768 := by
    rw [hd.len]
    exact Nat.le_trans (Nat.mul_le_mul hd.n2 hd.z2) (by omega)
  have hf : i * z + z ≤ B.length := by
    rw [hd.len, ← Nat.succ_mul]
    exact Nat.mul_le_mul_right z hi
  have hz := hd.z1
  have h := (TextAt.of_ints hd.kb rfl (by omega) hd.small).cut (i * z) (i * z + z) (by omega) hf
  rw [show i * z + z - i * z = z by omega] at h
  unfold cutA at h
  rw [if_neg (by omega)] at h
  have he : (some (⟨bb, 0, none⟩ : Addr)).map (·.add (i * z)) = some ⟨bb, i * z, none⟩ := by
    simp [Addr.add]
    intro h
    exact h.symm
  rw [he] at h
  exact h
set_option maxHeartbeats 4000000 in
theorem read_any (w : World) (p bb z n : Nat) (B : List Int) (set : Bool) (af : Int) (kv : Value) (wa : Option Addr) (wc : Nat) (ws : List (Nat × List Int)) (hd : DkAt w p bb z n B (.slice wa ws.length wc) true set af kv) (hW : WaitAt w [p, bb] z wa wc ws) (hi : ∀ x ∈ ws, x.1 < n ∧ x.2.length = z) (hlw : ws.length ≤ 1000) (i : Nat) (hin : i < n) :
    Calls Tryz.prog 59 #[.pointer (some ⟨p, 0, none⟩), .int .i64 i] w fun e w' => ∃ g, e = .returned (.tuple #[.slice (some ⟨g, 0, none⟩) z z, .int .i64 0]) ∧ w.heap.size ≤ g ∧ Below w.heap.size w w' ∧ TextAt w' (some ⟨g, 0, none⟩) z z (readN z i ws B ws.length) := by
  have Kd := hid hd.kp
  have Hb := hid (Below.refl w.heap.size w)
  have HD := hid hd
  have cd0 : w.cell? ⟨p, 0, none⟩ = some (.int .i64 z) := by rw [Kd.out.cell]; rfl
  have cd2 : w.cell? ⟨p, 2, none⟩ = some ((.slice wa ws.length wc)) := by rw [Kd.out.cell]; rfl
  have cd3 : w.cell? ⟨p, 3, none⟩ = some (.bool true) := by rw [Kd.out.cell]; rfl
  go_enter Tryz.func59, Tryz.ntmps59
  go_wp2_with fail
  refine (has_in _ p bb z n B _ true set af kv (HD.out.below Hb.out) (i : Int) (by omega) (by omega)).mono ?_
  rintro e w1 ⟨rfl, bw1⟩
  have HBw1 := hid (Below.on Hb.out bw1)
  have hsw1 := HBw1.out.size
  have Kdw1 := hid (Kd.out.below bw1)
  clear bw1
  have cd0w1 : w1.cell? ⟨p, 0, none⟩ = some (.int .i64 z) := by rw [Kdw1.out.cell]; rfl
  have cd2w1 : w1.cell? ⟨p, 2, none⟩ = some (.slice wa ws.length wc) := by rw [Kdw1.out.cell]; rfl
  have cd3w1 : w1.cell? ⟨p, 3, none⟩ = some (.bool true) := by rw [Kdw1.out.cell]; rfl
  go_wp2_with fail
  refine (sector_any _ p bb z n B _ true set af kv (HD.out.below HBw1.out) i hin).mono ?_
  rintro e w2 ⟨rfl, bw2⟩
  have HBw2 := hid (Below.on HBw1.out bw2)
  have hsw2 := HBw2.out.size
  have Kdw2 := hid (Kdw1.out.below bw2)
  clear bw2
  have cd0w2 : w2.cell? ⟨p, 0, none⟩ = some (.int .i64 z) := by rw [Kdw2.out.cell]; rfl
  have cd2w2 : w2.cell? ⟨p, 2, none⟩ = some (.slice wa ws.length wc) := by rw [Kdw2.out.cell]; rfl
  have cd3w2 : w2.cell? ⟨p, 3, none⟩ = some (.bool true) := by rw [Kdw2.out.cell]; rfl
  go_wp2_with fail
  go_loopw [6, 33] (fun lv iv wr => ∃ (j : Nat) (la : Option Addr) (lc : Nat), j ≤ ws.length ∧ iv = .int .i64 j ∧ lv = .slice la z lc ∧ Below w.heap.size w wr ∧ TextAt wr la z lc (readN z i ws B j)) (fun _ iv _ => ws.length - (intOf iv).toNat)
  case atStart => exact ⟨0, _, _, Nat.zero_le _, rfl, rfl, HBw2.out, (HD.out.below HBw2.out).sec i hin⟩
  case round =>
    obtain ⟨j, la, lc, hj, rfl, rfl, hbi, htx⟩ := hrel
    have HBwr := hid hbi
    have HIwr := hid (ButIn.of_below (S := [p, bb]) hbi)
    have hswr := hbi.size
    have HLt := hid htx
    clear hbi htx
    by_cases hlt : j < ws.length
    · skip
      have hcI : (j : Int) < ws.length := by omega
      have HWr := hid (hW.butIn HIwr.out)
      have hwj0 := hi (ws.getD j (0, [])) (by rw [List.getD_eq_getElem?_getD, List.getElem?_eq_getElem hlt]; exact List.getElem_mem _)
      obtain ⟨hwle, hw0 | ⟨x, o, rfl, hx, hxl, hcell⟩⟩ := HWr.out
      · omega
      obtain ⟨hc0, ta, tc, hc1, hto⟩ := hcell j hlt
      obtain ⟨qi, qt, hX⟩ : ∃ qi qt, ws.getD j (0, []) = (qi, qt) := ⟨_, _, rfl⟩
      have Hyes := hid (fun (h : qi = i) => (show readN z i ws B (j + 1) = qt by rw [readN, hX, if_pos h]))
      have Hno := hid (fun (h : ¬ qi = i) => (show readN z i ws B (j + 1) = readN z i ws B j by rw [readN, hX, if_neg h]))
      have hwj : qi < n ∧ qt.length = z := by rw [hX] at hwj0; exact hwj0
      rw [hX] at hc0 hto
      have HTO := hid (show TextO wr [p, bb] ta z tc qt from hto)
      have hRg : Hid (wr.rangeAt x (o + j * 2) [.int .i64 (qi : Int), .slice ta z tc]) := hid (fun k v hv => by
        match k, hv with
        | 0, hv => rw [Nat.add_zero, hc0]; exact hv
        | 1, hv => rw [hc1]; exact hv)
      clear hcell hto hc0 hc1 hX hwj0
      have Kvw11 := hid (Blk.new (w := wr) rfl #[.int .i64 (qi : Int), .slice ta z tc] 202)
      have HBw11 := hid (HBwr.out.alloc HBwr.out.size (.cells #[.int .i64 (qi : Int), .slice ta z tc] 202 (0, 0)))
      have hsw11 := HBw11.out.size
      have hfw11 : w.heap.size ≤ wr.heap.size := HBwr.out.size
      have cv0 : (wr.alloc (.cells #[.int .i64 (qi : Int), .slice ta z tc] 202 (0, 0))).cell? ⟨wr.heap.size, 0, none⟩ = some (.int .i64 (qi : Int)) := by rw [Kvw11.out.cell]; rfl
      have cv1 : (wr.alloc (.cells #[.int .i64 (qi : Int), .slice ta z tc] 202 (0, 0))).cell? ⟨wr.heap.size, 1, none⟩ = some (.slice ta z tc) := by rw [Kvw11.out.cell]; rfl
      by_cases hqi : qi = i
      · subst hqi
        go_wp2_with (first
           | (refine wpList_index_s 2 rfl 65 _ _ rfl Tryz.underlying65 size_write x o ws.length wc rfl _ _ rfl j rfl hlt ?_)
           | (refine wpList_load_mid rfl 202 _ rfl x (o + j * 2) rfl _ _ hRg.out Tryz.underlying202 rfl size_write ?_))
        exact ⟨⟨j + 1, ta, tc, by omega, by first | rfl | simp, rfl, HBw11.out, by rw [Hyes.out rfl]; exact (HTO.out.text.below ((Below.refl _ _).alloc (Nat.le_refl _) _))⟩, by simp [intOf]; omega⟩
      · skip
        have hqI : ¬ ((qi : Int) = (i : Int)) := by omega
        have hqB : ((qi : Int) == (i : Int)) = false := by simp; omega
        go_wp2_with (first
           | (refine wpList_index_s 2 rfl 65 _ _ rfl Tryz.underlying65 size_write x o ws.length wc rfl _ _ rfl j rfl hlt ?_)
           | (refine wpList_load_mid rfl 202 _ rfl x (o + j * 2) rfl _ _ hRg.out Tryz.underlying202 rfl size_write ?_))
        exact ⟨⟨j + 1, la, lc, by omega, by first | rfl | simp, rfl, HBw11.out, by rw [Hno.out hqi]; exact (HLt.out.below ((Below.refl _ _).alloc (Nat.le_refl _) _))⟩, by simp [intOf]; omega⟩
    · skip
      have hjn : j = ws.length := by omega
      subst hjn
      have hcI : ¬ ((ws.length : Int) < ws.length) := by omega
      have cd0wr : wr.cell? ⟨p, 0, none⟩ = some (.int .i64 z) := by rw [(Kd.out.below HBwr.out).cell]; rfl
      have hmk := fun W => make_bytes z (by have := hd.z2; omega) W
      have Hk9 := hid (Blk.new (w := wr) rfl (Array.replicate z (Value.int .u8 0)) 5)
      have HLt9 := hid (HLt.out.below ((Below.refl wr.heap.size wr).alloc (Nat.le_refl _) (.cells (Array.replicate z (Value.int .u8 0)) 5 (0, 0))))
      have Hn0 := hid (show z = Nat.min z z from (Nat.min_self z).symm)
      have Hfit := hid (show 0 + z ≤ (Array.replicate z (Value.int .u8 0)).size by simp)
      have Hrep := hid (show Array.replicate z (Value.int .u8 0) = ((List.replicate z (0 : Int)).map (Value.int .u8)).toArray by simp)
      go_wp2_with (with_reducible refine wpList_copy_text rfl _ _ _ _ rfl 5 Tryz.underlying56 size_u8 (wr.heap.size) 0 z z rfl _ z _ rfl _ 5 Hk9.out _ HLt9.out Hfit.out z Hn0.out ?_)
      go_returns
      have hg := wr.heap.size
      have h9 := Hk9.out
      rw [Hrep.out] at h9
      have hb := putS_blk (i := 0) (z := z) (t := readN z i ws B ws.length) (m := z) (B := List.replicate z (0 : Int)) h9 (by rw [HLt.out.length]; exact Nat.le_refl _) (by simp)
      have hc := But.setCells ((readN z i ws B ws.length).take z |>.map (Value.int .u8)) (0 * z) _ (But.of (b := wr.heap.size) (Below.refl _ (wr.alloc (.cells ((List.replicate z (0 : Int)).map (Value.int .u8)).toArray 5 (0, 0)))))
      have he : putS z 0 (readN z i ws B ws.length) z (List.replicate z 0) = readN z i ws B ws.length := by
        unfold putS
        rw [Nat.zero_mul, List.take_zero, List.nil_append, Nat.zero_add, List.drop_eq_nil_of_le (by simp), List.append_nil, List.take_of_length_le (by rw [HLt.out.length]; exact Nat.le_refl _)]
      rw [he] at hb
      rw [Nat.zero_mul, List.map_take, ← Hrep.out] at hb hc
      refine ⟨_, rfl, HBwr.out.size, ?_, TextAt.of_ints hb HLt.out.length (by have := hd.z2; omega) HLt.out.small⟩
      exact hc.below (HBwr.out.alloc HBwr.out.size _) (by simp only [World.size_alloc]; have := HBwr.out.size; omega) HBwr.out.size
end Go.Proofs.YtpinamdgbijjlaaGreatDoor
namespace Go.Proofs.YtpinamdgbijjlaaGreatDoor
set_option maxRecDepth 100000
open Go.ChangeShapes Go.WideShapes Go.ChangeAt Go.RowKit
/-- A text, filled up with bytes 0, cut. -/
def padZ (z : Nat) (a : List Int) : List Int := (a ++ List.replicate z 0).take z
section
variable {P : Program} {w : World} {base : Nat} {t tn e : TypeId} {i : TypeInfo} {v : Value} {bs : List Int}
end
section
variable {P : Program} {ops : Array Oper} {rest : List Oper} {op : Oper} {a : Act} {w : World} {Q : Exit → Act → World → Prop}
end
end Go.Proofs.YtpinamdgbijjlaaGreatDoor
namespace Go.Proofs.YtpinamdgbijjlaaGreatDoor
set_option maxRecDepth 100000
open Go.ChangeShapes Go.WideShapes Go.ChangeAt Go.RowKit
theorem take_next (zs : List Int) (k : Nat) (h : k < zs.length) : zs.take (k + 1) = zs.take k ++ [zs.getD k 0] := by
  rw [List.take_succ_eq_append_getElem h]; simp [h]
theorem numOf_bounds : ∀ (bs : List Int), (∀ x ∈ bs, 0 ≤ x ∧ x < 256) → 0 ≤ numOf bs ∧ numOf bs < (256 : Int) ^ bs.length := by
  intro bs
  have key : ∀ (k : Nat), k ≤ bs.length → (∀ x ∈ bs, 0 ≤ x ∧ x < 256) → 0 ≤ numOf (bs.take k) ∧ numOf (bs.take k) < (256 : Int) ^ k := by
    intro k
    induction k with
    | zero => intro _ _; simp [numOf]
    | succ k ih =>
      intro hk hb
      have h1 := ih (by omega) hb
      have h2 := hb bs[k] (List.getElem_mem _)
      rw [take_next bs k (by omega), numOf_snoc, show bs.getD k 0 = bs[k] by simp [show k < bs.length by omega], Int.pow_succ]
      generalize (256 : Int) ^ k = p at *
      omega
  intro hb
  have := key bs.length (Nat.le_refl _) hb
  simpa using this
theorem or_next (n x : Int) (h0 : 0 ≤ n) (h1 : n < 72057594037927936) (h2 : 0 ≤ x) (h3 : x < 256) : bits .or .u64 (n * 256) x = 256 * n + x := by
  rw [u64_or _ _ (by omega) (by omega) h2 (by omega)]
  obtain ⟨m, rfl⟩ := Int.eq_ofNat_of_zero_le h0
  obtain ⟨y, rfl⟩ := Int.eq_ofNat_of_zero_le h2
  have h4 : y < 2 ^ 8 := by omega
  have h5 := Nat.shiftLeft_add_eq_or_of_lt h4 m
  rw [Nat.shiftLeft_eq] at h5
  have e1 : ((m : Int) * 256).toNat = m * 2 ^ 8 := by omega
  have e2 : ((y : Int)).toNat = y := by omega
  rw [e1, e2, ← h5]
  omega
set_option maxHeartbeats 1000000 in
theorem of_bytes (b off : Nat) (bs : List Int) (len cap : Nat) (w : World) (hl : bs.length = len) (h8 : len ≤ 8) (hb : ∀ x ∈ bs, 0 ≤ x ∧ x < 256)
    (hc : ∀ i, i < len → w.cell? ⟨b, off + i, none⟩ = some (.int .u8 (bs.getD i 0))) :
    Calls Tryz.prog 112 #[.slice (some ⟨b, off, none⟩) len cap] w fun e w' => e = .returned (.tuple #[.int .u64 (numOf bs), .int .i64 0]) ∧ w = w' := by
  have h1 : decide ((8 : Int) < (len : Int)) = false := by simp; omega
  have Hl := hid hl
  replace hc := hid hc
  clear hl
  go_enter Tryz.func112, Tryz.ntmps112
  go_wp2
  go_loop [4, 12] (fun n i => ∃ k : Nat, k ≤ len ∧ i = .int .i64 k ∧ n = .int .u64 (numOf (bs.take k))) (fun _ i => len - (intOf i).toNat)
  case atStart => exact ⟨0, by omega, rfl, rfl⟩
  case round =>
    obtain ⟨k, hk, rfl, rfl⟩ := hrel
    by_cases hlt : k < len
    · have hck : w.cell? ⟨b, off + k, none⟩ = some (.int .u8 (bs.getD k 0)) := hc.out k hlt
      have hkl : k < bs.length := by rw [Hl.out]; exact hlt
      have HS := hid (take_next bs k hkl)
      have hbd := numOf_bounds (bs.take k) (fun x hx => hb x (List.mem_of_mem_take hx))
      have hp : (256 : Int) ^ (bs.take k).length ≤ 72057594037927936 := by
        rw [List.length_take, Nat.min_eq_left (by omega), show (72057594037927936 : Int) = (256 : Int) ^ 7 by decide]
        exact_mod_cast Nat.pow_le_pow_right (show 0 < 256 by decide) (show k ≤ 7 by omega)
      have hx := hb (bs.getD k 0) (by rw [show bs.getD k 0 = bs[k] by simp [hkl]]; exact List.getElem_mem _)
      obtain ⟨hn0, hn1⟩ := hbd
      have hn2 := Int.lt_of_lt_of_le hn1 hp
      clear hn1 hp
      have HN := hid (numOf_snoc (bs.take k) (bs.getD k 0))
      generalize numOf (bs.take k) = n at *
      generalize bs.getD k 0 = x at hck hx HS HN
      obtain ⟨hx0, hx1⟩ := hx
      have HO := hid (or_next n x hn0 (by omega) hx0 hx1)
      clear hkl
      go_wp2
      go_round
      case rel => exact ⟨k + 1, by omega, by go_num, by rw [HS.out, HN.out, HO.out]⟩
      case measure => simp [intOf]; omega
    · obtain rfl : k = len := by omega
      have HF := hid (show numOf (bs.take k) = numOf bs by rw [List.take_of_length_le (by rw [Hl.out]; omega)])
      go_wp2
      go_ret2
      exact ⟨by rw [← HF.out]; rfl, rfl⟩
theorem of_nil (a : Option Addr) (cap : Nat) (w : World) :
    Calls Tryz.prog 112 #[.slice a 0 cap] w fun e w' => e = .returned (.tuple #[.int .u64 0, .int .i64 0]) ∧ w = w' := by
  go_enter Tryz.func112, Tryz.ntmps112
  go_wp2
  go_loop [4, 12] (fun n i => i = .int .i64 0 ∧ n = .int .u64 0) (fun _ _ => 0)
  case atStart => exact ⟨rfl, rfl⟩
  case round =>
    obtain ⟨rfl, rfl⟩ := hrel
    go_wp2
    go_ret2
    exact ⟨rfl, rfl⟩
theorem of_text {w : World} {a : Option Addr} {len cap : Nat} {bs : List Int} (h : TextAt w a len cap bs) (h8 : len ≤ 8) :
    Calls Tryz.prog 112 #[.slice a len cap] w fun e w' => e = .returned (.tuple #[.int .u64 (numOf bs), .int .i64 0]) ∧ w = w' := by
  rcases Nat.eq_zero_or_pos len with rfl | h0
  · rw [h.empty rfl]
    exact of_nil _ _ _
  · obtain ⟨x, o, rfl, hx, hc⟩ := h.at_ h0
    exact of_bytes x o bs len cap w h.length h8 h.small hc
theorem OwnB.none_ {w : World} {base : Nat} {e : TypeId} {a : Option Addr} {n c : Nat} {bs : List Int} (h : OwnB w base e (.slice a n c) bs) : OwnB w base e (.slice a 0 c) [] := by
  obtain ⟨⟨h1, ⟨h2, h3⟩ | ⟨g, cap, cur, h2, hg, hh, hle, hmx, hsz, htk⟩⟩, hs⟩ := h
  · injection h2 with e1 e2 e3
    subst e1 e2 e3
    exact OwnB.nil w base e
  · injection h2 with e1 e2 e3
    subst e1 e2 e3
    exact ⟨⟨rfl, .inr ⟨g, _, cur, rfl, hg, hh, Nat.zero_le _, hmx, hsz, by simp⟩⟩, by simp⟩
theorem wpList_append_zerosW {P : Program} {w : World} {base : Nat} {t e tn : TypeId} {i : TypeInfo} {v : Value} {bs : List Int} {ops : Array Oper} {rest : List Oper} {o : Oper} {A : Act} {Q : Exit → Act → World → Prop} (hgd : o.guard = none) (s x : Operand) (ho : o.op = .call { callee := .builtin .append, args := #[s, x], argTypes := #[t, tn] })
    (ht : P.underlying t = some (.slice e)) (htn : P.underlying tn = some (.int .i64)) (hi : P.info? e = some i) (hz : i.zero = some (.int .u8 0)) (hsize : i.size = 1) (hby : i.bytes = 1) (hs : A.eval s = v) (hown : OwnB w base e v bs)
    (k : Nat) (hx : A.eval x = .int .i64 k) (hb : bs.length + k ≤ 140737488355328) (hbase : base ≤ w.heap.size)
    (h : ∀ v' w', OwnB w' base e v' (bs ++ List.replicate k 0) → w.grownBy w' v.ownBlock → Below base w w' → wpList P ops Q rest (A.put o.dst v') w') : wpList P ops Q (o :: rest) A w :=
  wpList_plain hgd fun K hK => by
    obtain ⟨v', w', hr, h2, h3, h4⟩ := run_append_zeros o.type ht htn hi hz hsize hby hown k hb hbase
    unfold Oper.wp execOp
    simp only [ho, resolve, invoke, builtin, Sem.run_bind, Sem.run_pure, Result.andThen_ok, List.map_toArray, List.map_cons, List.map_nil, hs, hx, hr, Oper.upon_value]
    exact hK _ _ (h v' w' h2 h3 h4)
set_option maxHeartbeats 4000000 in
theorem grow_none (w : World) : Calls Tryz.prog 141 #[.slice none 0 0, .int .i64 0] w fun e w' => ∃ v, e = .returned v ∧ OwnB w' w.heap.size 5 v [] ∧ Below w.heap.size w w' := by
  go_enter Tryz.func141, Tryz.ntmps141
  go_wp2
  go_returns
  exact ⟨_, rfl, OwnB.nil w w.heap.size 5, by go_grown⟩
set_option maxHeartbeats 4000000 in
theorem grow_some (k : Nat) (w : World) (h0 : 0 < k) (hb : k ≤ 140737488355328) : Calls Tryz.prog 141 #[.slice none 0 0, .int .i64 k] w fun e w' => ∃ v, e = .returned v ∧ OwnB w' w.heap.size 5 v [] ∧ Below w.heap.size w w' := by
  obtain ⟨i0, hi, hz0, hz1, hz2⟩ := info_parts info_byte
  have q1 : ¬ (k : Int) < 0 := by omega
  have q2 : (0 : Int) < k := by omega
  have HN := hid (OwnB.nil w w.heap.size 5)
  have hw : wrap64 (k : Int) = k := by unfold wrap64; omega
  go_enter Tryz.func141, Tryz.ntmps141
  go_wp2_with (at_builtin; refine wpList_append_zerosW rfl _ _ rfl Tryz.underlying56 Tryz.underlying3 hi hz0 hz1 hz2 rfl HN.out k rfl ?c1 ?c2 ?_)
  intro v4 w4 own4 g4 b4
  obtain ⟨va, vn, vc, rfl⟩ : ∃ a n c, v4 = .slice a n c := by
    obtain ⟨a, c, e, _⟩ := own4.text
    exact ⟨a, _, c, e⟩
  have HO := hid own4.none_
  have H4 := hid b4
  have hcut := fun W : World => run_cut_h (P := Tryz.prog) Tryz.underlying56 (by rw [hi]; simp [hz1]) va vn vc 0 W (by omega) (by omega)
  clear own4 g4 b4
  go_wp2_with fail
  go_returns
  exact ⟨_, rfl, HO.out, H4.out⟩
theorem grow_any (k : Nat) (w : World) (hb : k ≤ 140737488355328) : Calls Tryz.prog 141 #[.slice none 0 0, .int .i64 k] w fun e w' => ∃ v, e = .returned v ∧ OwnB w' w.heap.size 5 v [] ∧ Below w.heap.size w w' := by
  rcases Nat.eq_zero_or_pos k with rfl | h
  · exact grow_none w
  · exact grow_some k w h hb
set_option maxHeartbeats 4000000 in
theorem concat_any (a : Option Addr) (len cap : Nat) (ts : List (List Int)) (w : World) (hT : TextsAt w a len cap ts) (hbnd : sumLen ts ≤ 140737488355328) :
    Calls Tryz.prog 94 #[.slice a len cap] w fun e w' => ∃ v, e = .returned v ∧ Below w.heap.size w w' ∧ TextV ts.flatten v w' := by
  have hlen : ts.length = len := hT.length
  have hcp := hT.le
  have hmx := hT.max
  have HT := hid hT
  clear hT
  obtain ⟨i0, hi, hz0, hz1, hz2⟩ := info_parts info_byte
  go_enter Tryz.func94, Tryz.ntmps94
  go_wp2_with fail
  go_loopw [3, 11] (fun sv iv wr => ∃ k : Nat, k ≤ len ∧ iv = .int .i64 k ∧ sv = .int .i64 (sumLen (ts.take k) : Nat) ∧ w = wr) (fun _ i _ => len - (intOf i).toNat)
  case atStart => exact ⟨0, by omega, rfl, by simp [sumLen], rfl⟩
  case round =>
    obtain ⟨k, hk, rfl, rfl, rfl⟩ := hrel
    by_cases hlt : k < len
    · obtain ⟨r, off, a', l', c', rfl, hrl, hc, hTk⟩ := HT.out.at_ k hlt
      have e1 := sumLen_take ts k (by omega)
      have e2 := sumLen_le ts (k + 1)
      have e4 := hTk.length
      rw [e4] at e1
      have hc0 : (k : Int) < len := by omega
      have Hnext := hid (show ((sumLen (ts.take (k + 1)) : Nat) : Int) = (sumLen (ts.take k) : Nat) + (l' : Nat) by omega)
      have hnn : ¬ ((sumLen (ts.take k) : Nat) : Int) + (l' : Nat) < 0 := by omega
      have hwr : wrap64 (((sumLen (ts.take k) : Nat) : Int) + (l' : Nat)) = ((sumLen (ts.take k) : Nat) : Int) + (l' : Nat) := by unfold wrap64; omega
      clear e1 e2 e4 hTk
      generalize sumLen (ts.take k) = sk at *
      go_wp2_with fail
      exact ⟨⟨k + 1, by omega, by go_num, by rw [Hnext.out, hwr], by first | rfl | trivial⟩, by simp [intOf]; omega⟩
    · have hkl : k = len := by omega
      have hft : ts.take k = ts := List.take_of_length_le (by omega)
      rw [hft]
      have hc0 : ¬ (k : Int) < len := by omega
      go_wp2_with fail
      refine (grow_any (sumLen ts) _ hbnd).mono ?_
      rintro e w1 ⟨v1, rfl, own1, bel1⟩
      have HO1 := hid own1
      have HB1 := hid bel1
      clear own1 bel1
      go_wp2_with fail
      go_loopw [6, 27] (fun v i wr => ∃ k : Nat, k ≤ len ∧ i = .int .i64 k ∧ OwnB wr w.heap.size 5 v (ts.take k).flatten ∧ Below w.heap.size w wr) (fun _ i _ => len - (intOf i).toNat)
      case atStart => exact ⟨0, by omega, rfl, by simpa using HO1.out, HB1.out⟩
      case round =>
        obtain ⟨k, hk, rfl, hown, bel⟩ := hrel
        have Hown := hid hown
        have Hbel := hid bel
        have hsz := bel.size
        clear hown bel
        by_cases hlt : k < len
        · obtain ⟨r, off, a', l', c', rfl, hrl, hc, hTk⟩ := HT.out.at_ k hlt
          have hcw : wr.cell? ⟨r, off + k, none⟩ = some (.slice a' l' c') := (Hbel.out.cell (p := ⟨r, off + k, none⟩) hrl).trans hc
          have hTw := hid (hTk.below Hbel.out)
          have HF := hid (flatten_take ts k (by omega))
          have hsl : (ts.take k).flatten.length + l' ≤ 140737488355328 := by
            have e1 := sumLen_take ts k (by omega)
            have e2 := sumLen_le ts (k + 1)
            have e3 := flatten_length (ts.take k)
            have e4 := hTk.length
            omega
          have Hsl := hid hsl
          have hc0 : (k : Int) < len := by omega
          clear hTk hc hsl
          generalize ts.getD k [] = tk at *
          go_wp2_with (at_builtin; refine wpList_append_text rfl _ _ rfl Tryz.underlying56 hi hz0 hz1 hz2 rfl Hown.out rfl hTw.out ?c1 ?c2 ?_)
          case c1 => exact Hsl.out
          case c2 => exact hsz
          intro v4 w4 own4 g4 b4
          rw [← HF.out] at own4
          have H4 := hid (And.intro own4 (Hbel.out.trans b4))
          clear own4 g4 b4 hTw Hown
          go_wp2_with fail
          exact ⟨⟨k + 1, by omega, by go_num, H4.out.1, H4.out.2⟩, by simp [intOf]; omega⟩
        · have hkl : k = len := by omega
          have hft : (ts.take k).flatten = ts.flatten := by rw [List.take_of_length_le (by omega)]
          rw [hft] at Hown
          have hc0 : ¬ (k : Int) < len := by omega
          go_wp2_with fail
          go_returns
          exact ⟨_, rfl, Hbel.out, TextV.of_own Hown.out⟩
theorem toolong_any (a : Option Addr) (len cap : Nat) (w : World) (h : len ≤ 65535) :
    Calls Tryz.prog 136 #[.slice a len cap] w fun e w' => e = .returned (.bool false) ∧ w = w' := by
  have h1 : decide ((65535 : Int) < (len : Int)) = false := by simp; omega
  go_enter Tryz.func136, Tryz.ntmps136
  go_wp2
  go_ret
  exact ⟨rfl, rfl⟩
theorem texts_len {w : World} {a : Option Addr} {n c : Nat} {ts : List (List Int)} (hT : TextsAt w a n c ts) (hts : ∀ t ∈ ts, t.length ≤ 65535) (k : Nat) (hk : k < n) : (ts.getD k []).length ≤ 65535 := by
  have := hT.length
  rw [show ts.getD k [] = ts[k]'(by omega) by simp [show k < ts.length by omega]]
  exact hts _ (List.getElem_mem _)
set_option maxHeartbeats 1000000 in
theorem index_none (a : Option Addr) (n c : Nat) (ts : List (List Int)) (w : World) (hT : TextsAt w a n c ts) (hts : ∀ t ∈ ts, t.length ≤ 65535) :
    Calls Tryz.prog 176 #[.slice a n c, .func (.func 136) #[] #[]] w fun e w' => e = .returned (.int .i64 (-1)) ∧ w = w' := by
  have hn : n ≤ 9223372036854775807 := Nat.le_trans hT.le hT.max
  have HT := hid hT
  have Hts := hid hts
  clear hT hts
  go_enter Tryz.func176, Tryz.ntmps176
  go_wp2
  go_loop [8] (fun i => ∃ k : Nat, k ≤ n ∧ i = .int .i64 k) (fun i => n - (intOf i).toNat)
  case atStart => exact ⟨0, by omega, rfl⟩
  case round =>
    obtain ⟨k, hk, rfl⟩ := hrel
    by_cases hlt : k < n
    · obtain ⟨x, o, a', l', c', rfl, hx, hc, ht⟩ := HT.out.at_ k hlt
      have ht := toolong_any a' l' c' w (by rw [← ht.length]; exact texts_len HT.out Hts.out k hlt)
      go_wp2_with (go_at_call 136; refine ht.mono ?_; rintro e w5 ⟨rfl, rfl⟩)
      go_round
      case rel => exact ⟨k + 1, by omega, by go_num⟩
      case measure => simp [intOf]; omega
    · obtain rfl : k = n := by omega
      go_wp2
      go_ret
      exact ⟨rfl, rfl⟩
theorem contains_none (a : Option Addr) (n c : Nat) (ts : List (List Int)) (w : World) (hT : TextsAt w a n c ts) (hts : ∀ t ∈ ts, t.length ≤ 65535) :
    Calls Tryz.prog 135 #[.slice a n c, .func (.func 136) #[] #[]] w fun e w' => e = .returned (.bool false) ∧ w = w' := by
  have h := index_none a n c ts w hT hts
  go_enter Tryz.func135, Tryz.ntmps135
  go_wp2_with (go_at_call 176; refine h.mono ?_; rintro e w5 ⟨rfl, rfl⟩)
  go_ret
  exact ⟨rfl, rfl⟩
def rowB (ts : List (List Int)) : List Int := ts.flatMap fun t => be 2 t.length ++ t
theorem rowB_take (ts : List (List Int)) (k : Nat) (h : k < ts.length) : rowB (ts.take (k + 1)) = rowB (ts.take k) ++ (be 2 (ts.getD k []).length ++ ts.getD k []) := by
  unfold rowB
  rw [List.take_succ_eq_append_getElem h, List.flatMap_append, List.flatMap_singleton, show ts.getD k [] = ts[k] by simp [h]]
theorem rowB_length (ts : List (List Int)) (ht : ∀ t ∈ ts, t.length ≤ 65535) : (rowB ts).length ≤ ts.length * 65537 := by
  unfold rowB
  induction ts with
  | nil => simp
  | cons t ts ih =>
    have h1 := ih (fun t h => ht t (by simp [h]))
    have h2 := ht t (by simp)
    simp only [List.flatMap_cons, List.length_append, be_length, List.length_cons]
    omega
set_option maxHeartbeats 4000000 in
theorem row_any (ra : Option Addr) (n c : Nat) (ts : List (List Int)) (w : World) (hT : TextsAt w ra n c ts) (hn : n ≤ 65535) (hts : ∀ t ∈ ts, t.length ≤ 65535) :
    Calls Tryz.prog 83 #[.slice ra n c] w fun e w' => ∃ g m cap, e = .returned (.tuple #[.slice (some ⟨g, 0, none⟩) m cap, .int .i64 0]) ∧ m = 2 + (rowB ts).length ∧ m ≤ cap ∧ cap ≤ 9223372036854775807 ∧ w.heap.size ≤ g ∧ Below w.heap.size w w' ∧ Row8 w' g (be 2 n ++ rowB ts) := by
  obtain ⟨i0, hi, hz0, hz1, hz2⟩ := info_parts info_byte
  have hcon := contains_none ra n c ts w hT hts
  have hl := hT.length
  have h1 : decide ((65535 : Int) < (n : Int)) = false := by simp; omega
  have Hr := hid hT
  have Hl := hid hl
  have Hts := hid hts
  clear hT hl hts
  go_enter Tryz.func83, Tryz.ntmps83
  go_wp2_with (first | (go_at_call 135; refine hcon.mono ?_; rintro e w5 ⟨rfl, rfl⟩) | (go_at_call 73; refine (number_any n 2 2 _ (by omega) (by omega) (by decide)).mono ?_; rintro e w2 ⟨g0, hg0, rfl, bel, kB⟩))
  have hown : w2.ownsRow w.heap.size 5 1 (.slice (some ⟨g0, 0, none⟩) 2 2) 2 ((be 2 n).map (Value.int .u8)) :=
    ⟨by simp [be_length], .inr ⟨g0, 2, _, rfl, hg0, kB, by omega, by decide, by simp [be_length], by simp; exact List.take_of_length_le (by simp [be_length])⟩⟩
  clear kB
  go_loopw [4, 20] (fun v i wr => ∃ k : Nat, k ≤ n ∧ i = .int .i64 k ∧ ∃ g L cap, v = .slice (some ⟨g, 0, none⟩) L cap ∧ L = 2 + (rowB (ts.take k)).length ∧ wr.ownsRow w.heap.size 5 1 v L ((be 2 n ++ rowB (ts.take k)).map (Value.int .u8)) ∧ Below w.heap.size w wr) (fun _ i _ => n - (intOf i).toNat)
  case atStart => exact ⟨0, by omega, rfl, g0, 2, 2, rfl, by simp [rowB], by simpa [rowB] using hown, bel⟩
  case round =>
    clear hown bel
    obtain ⟨k, hk, rfl, g, L, cap, rfl, hL, hown, bel⟩ := hrel
    by_cases hlt : k < n
    · obtain ⟨r, off, a, len, tc, rfl, hrl, hc, hT⟩ := Hr.out.at_ k hlt
      have hcw : wr.cell? ⟨r, off + k, none⟩ = some (.slice a len tc) := (bel.cell (p := ⟨r, off + k, none⟩) hrl).trans hc
      have hkt : k < ts.length := by rw [Hl.out]; exact hlt
      have HS := hid (rowB_take ts k hkt)
      have htl : (ts.getD k []).length ≤ 65535 := by
        rw [show ts.getD k [] = ts[k] by simp [hkt]]
        exact Hts.out _ (List.getElem_mem _)
      have hB : (rowB (ts.take k)).length ≤ k * 65537 := by
        have := rowB_length (ts.take k) (fun t h => Hts.out t (List.mem_of_mem_take h))
        rwa [List.length_take, Nat.min_eq_left (by omega)] at this
      generalize ts.getD k [] = t at *
      generalize rowB (ts.take k) = RB at *
      have hlen := hT.length
      have HT := hid hT
      have HLen := hid hlen
      clear hT hc hrl
      have hL2 : L ≤ 4294967295 := by omega
      have HL := hid hL
      clear hL
      go_wp2_with (first | (go_at_call 73; refine (number_any len 2 2 _ (by omega) (by omega) (by decide)).mono ?_; rintro e w3 ⟨gN, hgN, rfl, b3, kN⟩; replace hown := owns_below hown b3; replace bel := Below.on bel b3) | (at_builtin; refine wpList_append_own _ rfl _ _ 56 rfl w.heap.size 5 i0 (.int .u8 0) 1 1 Tryz.underlying56 hi hz0 hz1 hz2 rfl (by decide) (.slice (some ⟨g, 0, none⟩) L cap) L _ rfl hown ⟨gN, 0, none⟩ 2 2 ((be 2 len).map (Value.int .u8)) rfl ?c0 ?c1 ?c2 ?c3 ?c4 ?c5 ?_))
      case c0 => simp [be_length]
      case c1 => exact news_blk kN
      case c2 => intro u hu; simp only [List.mem_map] at hu; obtain ⟨y, _, rfl⟩ := hu; rfl
      case c3 => unfold maxLen; omega
      case c4 => omega
      case c5 => exact bel.size
      intro v' w4 hown4 hgrow hnil
      have bel4 := bel.grown hgrow bel.size (fun q hq => by have := hown.lt q hq; omega)
      have hv : ∃ g cap, v' = .slice (some ⟨g, 0, none⟩) (L + 2) cap := by
        obtain ⟨_, h | ⟨g, cap, cur, h, _⟩⟩ := hown4
        · omega
        · exact ⟨g, cap, h⟩
      obtain ⟨g', cap', rfl⟩ := hv
      clear hown hgrow hnil kN b3 bel
      rcases HT.out.mem with ⟨rfl, rfl, rfl⟩ | ⟨x, o, s, rfl, _⟩
      · have ht0 : t = [] := List.eq_nil_of_length_eq_zero HLen.out
        rw [ht0] at HS
        have HS2 := hid (show rowB (ts.take (k + 1)) = RB ++ be 2 0 by rw [HS.out]; simp)
        clear HS
        have hcap : L + 2 ≤ cap' := by
          obtain ⟨_, h | ⟨_, _, _, h, _, _, hle, _⟩⟩ := hown4
          · omega
          · injection h with e1 e2 e3
            omega
        go_wp2_with (at_builtin; refine wpList_append_fits_any _ rfl _ _ 56 rfl w.heap.size 5 i0 1 Tryz.underlying56 hi hz1 g' (L + 2) cap' _ rfl hown4 none 0 0 [] rfl rfl (fun _ => ⟨rfl, rfl⟩) (fun _ h => by cases h) (fun _ h => by cases h) ?c6 ?_)
        case c6 => omega
        intro w5 hown5 hgrow
        have bel5 := bel4.grown hgrow bel4.size (fun q hq => by have := hown4.lt q hq; omega)
        clear hown4 hgrow bel4
        go_wp2_with fail
        refine ⟨⟨k + 1, by omega, by go_num, g', L + 2, cap', rfl, ?_, ?_, bel5⟩, by simp [intOf]; omega⟩
        · rw [HS2.out, List.length_append, be_length, HL.out]; omega
        · rw [HS2.out]
          simpa only [List.map_append, List.append_assoc] using hown5
      · have hnews := (HT.out.below bel4).news
        go_wp2_with (at_builtin; refine wpList_append_own _ rfl _ _ 56 rfl w.heap.size 5 i0 (.int .u8 0) 1 1 Tryz.underlying56 hi hz0 hz1 hz2 rfl (by decide) (.slice (some ⟨g', 0, none⟩) (L + 2) cap') (L + 2) _ rfl hown4 ⟨x, o, s⟩ len tc (t.map (Value.int .u8)) rfl ?c0 ?c1 ?c2 ?c3 ?c4 ?c5 ?_)
        case c0 => simp [HLen.out]
        case c1 => exact hnews
        case c2 => intro u hu; simp only [List.mem_map] at hu; obtain ⟨y, _, rfl⟩ := hu; rfl
        case c3 => unfold maxLen; omega
        case c4 => omega
        case c5 => exact bel4.size
        intro v' w5 hown5 hgrow hnil
        have bel5 := bel4.grown hgrow bel4.size (fun q hq => by have := hown4.lt q hq; omega)
        have hv : ∃ g cap, v' = .slice (some ⟨g, 0, none⟩) (L + 2 + len) cap := by
          obtain ⟨_, h | ⟨g, cap, cur, h, _⟩⟩ := hown5
          · omega
          · exact ⟨g, cap, h⟩
        obtain ⟨g2, cap2, rfl⟩ := hv
        clear hown4 hgrow hnil hnews bel4
        go_wp2_with fail
        refine ⟨⟨k + 1, by omega, by go_num, g2, L + 2 + len, cap2, rfl, ?_, ?_, bel5⟩, by simp [intOf]; omega⟩
        · rw [HS.out, List.length_append, List.length_append, be_length, HLen.out, HL.out]; omega
        · rw [HS.out, HLen.out]
          simpa only [List.map_append, List.append_assoc] using hown5
    · obtain rfl : k = n := by omega
      rw [List.take_of_length_le (by rw [Hl.out]; omega)] at hL hown
      obtain ⟨hg, hrow⟩ := Row8.of_owns (bs := be 2 k ++ rowB ts) hown
      have hcap : L ≤ cap ∧ cap ≤ 9223372036854775807 := by
        obtain ⟨_, h | ⟨_, _, _, h, _, _, hle, hmx, _⟩⟩ := hown
        · omega
        · injection h with e1 e2 e3
          unfold maxLen at hmx
          omega
      clear hown
      go_wp2_with fail
      go_ret2
      exact ⟨g, L, cap, rfl, hL, hcap.1, hcap.2, hg, bel, hrow⟩
end Go.Proofs.YtpinamdgbijjlaaGreatDoor
namespace Go.Proofs.YtpinamdgbijjlaaGreatDoor
set_option maxRecDepth 100000
open Go.ChangeShapes Go.WideShapes Go.ChangeAt Go.RowKit
/-- The cells of slots. -/
def slC (p : Nat) (at_ turn : Int) (tv : Value) (st : Bool) : Array Value := #[.pointer (some ⟨p, 0, none⟩), .int .i64 at_, .int .i64 turn, tv, .bool st]
/-- Does a slot count? -/
def slotOk (b : List Int) : Bool := decide (numOf (b.take 8) = numOf (b.drop (b.length - 8)) ∧ 1 ≤ numOf (b.take 8) ∧ numOf (b.take 8) ≤ 4611686018427387904 ∧ numOf ((b.drop 8).take 2) ≤ (b.length : Int) - 18)
def slotTurn (b : List Int) : Int := if slotOk b then numOf (b.take 8) else 0
def slotText (b : List Int) : List Int := if slotOk b then (b.drop 10).take (numOf ((b.drop 8).take 2)).toNat else []
set_option maxHeartbeats 4000000 in
theorem room_any (w : World) (q p : Nat) (at_ turn : Int) (tv : Value) (st : Bool) (bb z n : Nat) (B : List Int) (wv : Value) (on set : Bool) (af : Int) (kv : Value) (hd : DkAt w p bb z n B wv on set af kv) (hk : Blk w q (slC p at_ turn tv st) 141) (hz : 18 ≤ z) :
    Calls Tryz.prog 54 #[.pointer (some ⟨q, 0, none⟩)] w fun e w' => e = .returned (.int .i64 ((z : Int) - 18)) ∧ Below w.heap.size w w' := by
  have hz0 : (0 : Int) ≤ (z : Int) - 18 := by omega
  have hz1 := hd.z2
  have hm : max (0 : Int) ((z : Int) - 18) = (z : Int) - 18 := by omega
  have Ks := hid hk
  have Hb := hid (Below.refl w.heap.size w)
  clear hk
  have c0 : w.cell? ⟨q, 0, none⟩ = some (.pointer (some ⟨p, 0, none⟩)) := by rw [Ks.out.cell]; rfl
  go_enter Tryz.func54, Tryz.ntmps54
  go_wp2_with fail
  refine (size_any _ p bb z n B wv on set af kv hd).mono ?_
  rintro e w1 ⟨rfl, b1⟩
  have HB1 := hid b1
  clear b1
  go_wp2_with fail
  all_goals (go_returns; exact ⟨by first | rfl | (show Ending.returned (Value.int .i64 0) = Ending.returned (Value.int .i64 ((z : Int) - 18)); have h0 : (z : Int) - 18 = 0 := (by omega); rw [h0]), HB1.out⟩)
set_option maxHeartbeats 4000000 in
theorem turn_any (w : World) (q p : Nat) (at_ turn : Int) (tv : Value) (st : Bool) (hk : Blk w q (slC p at_ turn tv st) 141) :
    Calls Tryz.prog 55 #[.pointer (some ⟨q, 0, none⟩)] w fun e w' => e = .returned (.int .i64 turn) ∧ Below w.heap.size w w' := by
  have Ks := hid hk
  have Hb := hid (Below.refl w.heap.size w)
  clear hk
  have c2 : w.cell? ⟨q, 2, none⟩ = some (.int .i64 turn) := by rw [Ks.out.cell]; rfl
  go_enter Tryz.func55, Tryz.ntmps55
  go_wp2_with fail
  go_returns
  exact ⟨rfl, Hb.out⟩
set_option maxHeartbeats 4000000 in
theorem text_any (w : World) (q p : Nat) (at_ turn : Int) (ta : Option Addr) (tn tc : Nat) (t : List Int) (st : Bool) (hk : Blk w q (slC p at_ turn (.slice ta tn tc) st) 141) (hT : TextAt w ta tn tc t) (htn : tn ≤ 1000) :
    Calls Tryz.prog 57 #[.pointer (some ⟨q, 0, none⟩)] w fun e w' => ∃ a c, e = .returned (.slice a tn c) ∧ Below w.heap.size w w' ∧ TextAt w' a tn c t ∧ ∀ p : Addr, a = some p → w.heap.size ≤ p.block := by
  have Ks := hid hk
  have Hb := hid (Below.refl w.heap.size w)
  clear hk
  have c3 : w.cell? ⟨q, 3, none⟩ = some (.slice ta tn tc) := by rw [Ks.out.cell]; rfl
  go_enter Tryz.func57, Tryz.ntmps57
  go_wp2_with fail
  refine (clone_any hT (by omega)).mono ?_
  rintro e w1 ⟨a1, k1, rfl, b1, t1, o1⟩
  have HB1 := hid b1
  have HT1 := hid t1
  have HO1 := hid o1
  clear b1 t1 o1
  go_wp2_with fail
  go_returns
  exact ⟨_, _, rfl, HB1.out, HT1.out, fun p hp => (HO1.out p hp).1⟩
set_option maxHeartbeats 4000000 in
theorem content_ne {w : World} {a : Option Addr} {len cap : Nat} {b : List Int} (hT : TextAt w a len cap b) (h18 : 18 ≤ len) (h512 : len ≤ 512) (h1 : ¬ numOf (b.take 8) = numOf (b.drop (b.length - 8))) :
    Calls Tryz.prog 63 #[.slice a len cap] w fun e w' => e = .returned (.tuple #[.int .i64 0, .slice none 0 0, .bool false]) ∧ Below w.heap.size w w' := by
  have hle := hT.le
  have hmx := hT.max
  have hbl := hT.length
  have s1 : ∀ w, (Instr.slice 56 (.slice a len cap) none (some (.int .i64 8)) none).run Tryz.prog w = .ok (.slice a 8 cap) w := fun w => run_cut_h Tryz.underlying56 size_u8 a len cap 8 w (by omega) (by omega)
  have s2 : ∀ w, (Instr.slice 56 (.slice a len cap) (some (.int .i64 ((len : Int) - 8))) none none).run Tryz.prog w = .ok (.slice (cutA a (len - 8) cap) 8 (cap - (len - 8))) w := fun w => by
    have := run_cut_l (P := Tryz.prog) Tryz.underlying56 size_u8 a len cap ((len - 8 : Nat) : Int) w (by omega) (by omega)
    rw [show ((len - 8 : Nat) : Int) = (len : Int) - 8 by omega, show ((len : Int) - 8).toNat = len - 8 by omega, show len - (len - 8) = 8 by omega] at this
    exact this
  have s3 : ∀ w, (Instr.slice 56 (.slice a len cap) (some (.int .i64 8)) (some (.int .i64 10)) none).run Tryz.prog w = .ok (.slice (cutA a 8 cap) 2 (cap - 8)) w := fun w => run_cut_lh Tryz.underlying56 size_u8 a len cap 8 10 w (by omega) (by omega) (by omega)
  have t1 := hT.cut 0 8 (by omega) (by omega)
  have t2 := hT.cut (len - 8) len (by omega) (by omega)
  have t3 := hT.cut 8 10 (by omega) (by omega)
  simp only [cutA_zero, List.drop_zero, Nat.sub_zero] at t1
  rw [show len - (len - 8) = 8 by omega] at t2
  have n1 := numOf_bounds _ t1.small
  have n2 := numOf_bounds _ t2.small
  have n3 := numOf_bounds _ t3.small
  have l1 := t1.length
  have l2 := t2.length
  have l3 := t3.length
  rw [l1] at n1
  rw [l2] at n2
  rw [l3] at n3
  have O1 := hid (fun W : World => fun h => of_text (w := W) (a := a) (len := 8) (cap := cap) (bs := b.take 8) h (by omega))
  have O2 := hid (fun W : World => fun h => of_text (w := W) (a := cutA a (len - 8) cap) (len := 8) (cap := cap - (len - 8)) (bs := (b.drop (len - 8)).take 8) h (by omega))
  have O3 := hid (fun W : World => fun h => of_text (w := W) (a := cutA a 8 cap) (len := 2) (cap := cap - 8) (bs := (b.drop 8).take 2) h (by omega))
  have e2 : (b.drop (len - 8)).take 8 = b.drop (b.length - 8) := by rw [hbl]; exact List.take_of_length_le (by rw [List.length_drop]; omega)
  have T1 := hid t1
  have T2 := hid t2
  have T3 := hid t3
  clear t1 t2 t3
  rw [e2] at n2 O2 T2
  clear e2
  generalize numOf (b.take 8) = A at *
  generalize numOf ((b.drop 8).take 2) = N at *
  generalize numOf (b.drop (b.length - 8)) = C at *
  have q1 : (A != C) = true := by simp [h1]
  clear h1
  go_enter Tryz.func63, Tryz.ntmps63
  go_wp2_with fail
  refine (O1.out _ T1.out).mono ?_
  rintro e wq ⟨rfl, rfl⟩
  go_wp2_with fail
  refine (O2.out _ T2.out).mono ?_
  rintro e wq ⟨rfl, rfl⟩
  go_wp2_with fail
  refine (O3.out _ T3.out).mono ?_
  rintro e wq ⟨rfl, rfl⟩
  go_wp2_with fail
  go_returns
  exact ⟨rfl, Below.refl _ _⟩
set_option maxHeartbeats 4000000 in
theorem content_low {w : World} {a : Option Addr} {len cap : Nat} {b : List Int} (hT : TextAt w a len cap b) (h18 : 18 ≤ len) (h512 : len ≤ 512) (h1 : numOf (b.take 8) = numOf (b.drop (b.length - 8))) (h2 : numOf (b.take 8) < 1) :
    Calls Tryz.prog 63 #[.slice a len cap] w fun e w' => e = .returned (.tuple #[.int .i64 0, .slice none 0 0, .bool false]) ∧ Below w.heap.size w w' := by
  have hle := hT.le
  have hmx := hT.max
  have hbl := hT.length
  have s1 : ∀ w, (Instr.slice 56 (.slice a len cap) none (some (.int .i64 8)) none).run Tryz.prog w = .ok (.slice a 8 cap) w := fun w => run_cut_h Tryz.underlying56 size_u8 a len cap 8 w (by omega) (by omega)
  have s2 : ∀ w, (Instr.slice 56 (.slice a len cap) (some (.int .i64 ((len : Int) - 8))) none none).run Tryz.prog w = .ok (.slice (cutA a (len - 8) cap) 8 (cap - (len - 8))) w := fun w => by
    have := run_cut_l (P := Tryz.prog) Tryz.underlying56 size_u8 a len cap ((len - 8 : Nat) : Int) w (by omega) (by omega)
    rw [show ((len - 8 : Nat) : Int) = (len : Int) - 8 by omega, show ((len : Int) - 8).toNat = len - 8 by omega, show len - (len - 8) = 8 by omega] at this
    exact this
  have s3 : ∀ w, (Instr.slice 56 (.slice a len cap) (some (.int .i64 8)) (some (.int .i64 10)) none).run Tryz.prog w = .ok (.slice (cutA a 8 cap) 2 (cap - 8)) w := fun w => run_cut_lh Tryz.underlying56 size_u8 a len cap 8 10 w (by omega) (by omega) (by omega)
  have t1 := hT.cut 0 8 (by omega) (by omega)
  have t2 := hT.cut (len - 8) len (by omega) (by omega)
  have t3 := hT.cut 8 10 (by omega) (by omega)
  simp only [cutA_zero, List.drop_zero, Nat.sub_zero] at t1
  rw [show len - (len - 8) = 8 by omega] at t2
  have n1 := numOf_bounds _ t1.small
  have n2 := numOf_bounds _ t2.small
  have n3 := numOf_bounds _ t3.small
  have l1 := t1.length
  have l2 := t2.length
  have l3 := t3.length
  rw [l1] at n1
  rw [l2] at n2
  rw [l3] at n3
  have O1 := hid (fun W : World => fun h => of_text (w := W) (a := a) (len := 8) (cap := cap) (bs := b.take 8) h (by omega))
  have O2 := hid (fun W : World => fun h => of_text (w := W) (a := cutA a (len - 8) cap) (len := 8) (cap := cap - (len - 8)) (bs := (b.drop (len - 8)).take 8) h (by omega))
  have O3 := hid (fun W : World => fun h => of_text (w := W) (a := cutA a 8 cap) (len := 2) (cap := cap - 8) (bs := (b.drop 8).take 2) h (by omega))
  have e2 : (b.drop (len - 8)).take 8 = b.drop (b.length - 8) := by rw [hbl]; exact List.take_of_length_le (by rw [List.length_drop]; omega)
  have T1 := hid t1
  have T2 := hid t2
  have T3 := hid t3
  clear t1 t2 t3
  rw [e2] at n2 O2 T2
  clear e2
  rw [← h1] at n2 O2
  generalize numOf (b.take 8) = A at *
  generalize numOf ((b.drop 8).take 2) = N at *
  have q2 : A < 1 := h2
  clear h1
  go_enter Tryz.func63, Tryz.ntmps63
  go_wp2_with fail
  refine (O1.out _ T1.out).mono ?_
  rintro e wq ⟨rfl, rfl⟩
  go_wp2_with fail
  refine (O2.out _ T2.out).mono ?_
  rintro e wq ⟨rfl, rfl⟩
  go_wp2_with fail
  refine (O3.out _ T3.out).mono ?_
  rintro e wq ⟨rfl, rfl⟩
  go_wp2_with fail
  go_returns
  exact ⟨rfl, Below.refl _ _⟩
set_option maxHeartbeats 4000000 in
theorem content_big {w : World} {a : Option Addr} {len cap : Nat} {b : List Int} (hT : TextAt w a len cap b) (h18 : 18 ≤ len) (h512 : len ≤ 512) (h1 : numOf (b.take 8) = numOf (b.drop (b.length - 8))) (h2 : 1 ≤ numOf (b.take 8)) (h3 : 4611686018427387904 < numOf (b.take 8)) :
    Calls Tryz.prog 63 #[.slice a len cap] w fun e w' => e = .returned (.tuple #[.int .i64 0, .slice none 0 0, .bool false]) ∧ Below w.heap.size w w' := by
  have hle := hT.le
  have hmx := hT.max
  have hbl := hT.length
  have s1 : ∀ w, (Instr.slice 56 (.slice a len cap) none (some (.int .i64 8)) none).run Tryz.prog w = .ok (.slice a 8 cap) w := fun w => run_cut_h Tryz.underlying56 size_u8 a len cap 8 w (by omega) (by omega)
  have s2 : ∀ w, (Instr.slice 56 (.slice a len cap) (some (.int .i64 ((len : Int) - 8))) none none).run Tryz.prog w = .ok (.slice (cutA a (len - 8) cap) 8 (cap - (len - 8))) w := fun w => by
    have := run_cut_l (P := Tryz.prog) Tryz.underlying56 size_u8 a len cap ((len - 8 : Nat) : Int) w (by omega) (by omega)
    rw [show ((len - 8 : Nat) : Int) = (len : Int) - 8 by omega, show ((len : Int) - 8).toNat = len - 8 by omega, show len - (len - 8) = 8 by omega] at this
    exact this
  have s3 : ∀ w, (Instr.slice 56 (.slice a len cap) (some (.int .i64 8)) (some (.int .i64 10)) none).run Tryz.prog w = .ok (.slice (cutA a 8 cap) 2 (cap - 8)) w := fun w => run_cut_lh Tryz.underlying56 size_u8 a len cap 8 10 w (by omega) (by omega) (by omega)
  have t1 := hT.cut 0 8 (by omega) (by omega)
  have t2 := hT.cut (len - 8) len (by omega) (by omega)
  have t3 := hT.cut 8 10 (by omega) (by omega)
  simp only [cutA_zero, List.drop_zero, Nat.sub_zero] at t1
  rw [show len - (len - 8) = 8 by omega] at t2
  have n1 := numOf_bounds _ t1.small
  have n2 := numOf_bounds _ t2.small
  have n3 := numOf_bounds _ t3.small
  have l1 := t1.length
  have l2 := t2.length
  have l3 := t3.length
  rw [l1] at n1
  rw [l2] at n2
  rw [l3] at n3
  have O1 := hid (fun W : World => fun h => of_text (w := W) (a := a) (len := 8) (cap := cap) (bs := b.take 8) h (by omega))
  have O2 := hid (fun W : World => fun h => of_text (w := W) (a := cutA a (len - 8) cap) (len := 8) (cap := cap - (len - 8)) (bs := (b.drop (len - 8)).take 8) h (by omega))
  have O3 := hid (fun W : World => fun h => of_text (w := W) (a := cutA a 8 cap) (len := 2) (cap := cap - 8) (bs := (b.drop 8).take 2) h (by omega))
  have e2 : (b.drop (len - 8)).take 8 = b.drop (b.length - 8) := by rw [hbl]; exact List.take_of_length_le (by rw [List.length_drop]; omega)
  have T1 := hid t1
  have T2 := hid t2
  have T3 := hid t3
  clear t1 t2 t3
  rw [e2] at n2 O2 T2
  clear e2
  rw [← h1] at n2 O2
  generalize numOf (b.take 8) = A at *
  generalize numOf ((b.drop 8).take 2) = N at *
  have q2 : ¬ A < 1 := by omega
  clear h1
  go_enter Tryz.func63, Tryz.ntmps63
  go_wp2_with fail
  refine (O1.out _ T1.out).mono ?_
  rintro e wq ⟨rfl, rfl⟩
  go_wp2_with fail
  refine (O2.out _ T2.out).mono ?_
  rintro e wq ⟨rfl, rfl⟩
  go_wp2_with fail
  refine (O3.out _ T3.out).mono ?_
  rintro e wq ⟨rfl, rfl⟩
  go_wp2_with fail
  go_returns
  exact ⟨rfl, Below.refl _ _⟩
set_option maxHeartbeats 4000000 in
theorem content_size {w : World} {a : Option Addr} {len cap : Nat} {b : List Int} (hT : TextAt w a len cap b) (h18 : 18 ≤ len) (h512 : len ≤ 512) (h1 : numOf (b.take 8) = numOf (b.drop (b.length - 8))) (h2 : 1 ≤ numOf (b.take 8)) (h3 : numOf (b.take 8) ≤ 4611686018427387904) (h4 : (b.length : Int) - 18 < numOf ((b.drop 8).take 2)) :
    Calls Tryz.prog 63 #[.slice a len cap] w fun e w' => e = .returned (.tuple #[.int .i64 0, .slice none 0 0, .bool false]) ∧ Below w.heap.size w w' := by
  have hle := hT.le
  have hmx := hT.max
  have hbl := hT.length
  have s1 : ∀ w, (Instr.slice 56 (.slice a len cap) none (some (.int .i64 8)) none).run Tryz.prog w = .ok (.slice a 8 cap) w := fun w => run_cut_h Tryz.underlying56 size_u8 a len cap 8 w (by omega) (by omega)
  have s2 : ∀ w, (Instr.slice 56 (.slice a len cap) (some (.int .i64 ((len : Int) - 8))) none none).run Tryz.prog w = .ok (.slice (cutA a (len - 8) cap) 8 (cap - (len - 8))) w := fun w => by
    have := run_cut_l (P := Tryz.prog) Tryz.underlying56 size_u8 a len cap ((len - 8 : Nat) : Int) w (by omega) (by omega)
    rw [show ((len - 8 : Nat) : Int) = (len : Int) - 8 by omega, show ((len : Int) - 8).toNat = len - 8 by omega, show len - (len - 8) = 8 by omega] at this
    exact this
  have s3 : ∀ w, (Instr.slice 56 (.slice a len cap) (some (.int .i64 8)) (some (.int .i64 10)) none).run Tryz.prog w = .ok (.slice (cutA a 8 cap) 2 (cap - 8)) w := fun w => run_cut_lh Tryz.underlying56 size_u8 a len cap 8 10 w (by omega) (by omega) (by omega)
  have t1 := hT.cut 0 8 (by omega) (by omega)
  have t2 := hT.cut (len - 8) len (by omega) (by omega)
  have t3 := hT.cut 8 10 (by omega) (by omega)
  simp only [cutA_zero, List.drop_zero, Nat.sub_zero] at t1
  rw [show len - (len - 8) = 8 by omega] at t2
  have n1 := numOf_bounds _ t1.small
  have n2 := numOf_bounds _ t2.small
  have n3 := numOf_bounds _ t3.small
  have l1 := t1.length
  have l2 := t2.length
  have l3 := t3.length
  rw [l1] at n1
  rw [l2] at n2
  rw [l3] at n3
  have O1 := hid (fun W : World => fun h => of_text (w := W) (a := a) (len := 8) (cap := cap) (bs := b.take 8) h (by omega))
  have O2 := hid (fun W : World => fun h => of_text (w := W) (a := cutA a (len - 8) cap) (len := 8) (cap := cap - (len - 8)) (bs := (b.drop (len - 8)).take 8) h (by omega))
  have O3 := hid (fun W : World => fun h => of_text (w := W) (a := cutA a 8 cap) (len := 2) (cap := cap - 8) (bs := (b.drop 8).take 2) h (by omega))
  have e2 : (b.drop (len - 8)).take 8 = b.drop (b.length - 8) := by rw [hbl]; exact List.take_of_length_le (by rw [List.length_drop]; omega)
  have T1 := hid t1
  have T2 := hid t2
  have T3 := hid t3
  clear t1 t2 t3
  rw [e2] at n2 O2 T2
  clear e2
  rw [← h1] at n2 O2
  rw [hbl] at h4
  generalize numOf (b.take 8) = A at *
  generalize numOf ((b.drop 8).take 2) = N at *
  have q2 : ¬ A < 1 := by omega
  have q3 : ¬ 4611686018427387904 < A := by omega
  have q5 : ((len : Int) - 18) % 18446744073709551616 = (len : Int) - 18 := by omega
  clear h1
  have q4 : (len : Int) - 18 < N := h4
  go_enter Tryz.func63, Tryz.ntmps63
  go_wp2_with fail
  refine (O1.out _ T1.out).mono ?_
  rintro e wq ⟨rfl, rfl⟩
  go_wp2_with fail
  refine (O2.out _ T2.out).mono ?_
  rintro e wq ⟨rfl, rfl⟩
  go_wp2_with fail
  refine (O3.out _ T3.out).mono ?_
  rintro e wq ⟨rfl, rfl⟩
  go_wp2_with fail
  go_returns
  exact ⟨rfl, Below.refl _ _⟩
set_option maxHeartbeats 4000000 in
theorem content_good {w : World} {a : Option Addr} {len cap : Nat} {b : List Int} (hT : TextAt w a len cap b) (h18 : 18 ≤ len) (h512 : len ≤ 512) (h1 : numOf (b.take 8) = numOf (b.drop (b.length - 8))) (h2 : 1 ≤ numOf (b.take 8)) (h3 : numOf (b.take 8) ≤ 4611686018427387904) (h4 : numOf ((b.drop 8).take 2) ≤ (b.length : Int) - 18) :
    Calls Tryz.prog 63 #[.slice a len cap] w fun e w' => ∃ sa sc, e = .returned (.tuple #[.int .i64 (numOf (b.take 8)), .slice sa (numOf ((b.drop 8).take 2)).toNat sc, .bool true]) ∧ Below w.heap.size w w' ∧ sa = cutA a 10 cap ∧ TextAt w' sa (numOf ((b.drop 8).take 2)).toNat sc ((b.drop 10).take (numOf ((b.drop 8).take 2)).toNat) := by
  have hle := hT.le
  have hmx := hT.max
  have hbl := hT.length
  have s1 : ∀ w, (Instr.slice 56 (.slice a len cap) none (some (.int .i64 8)) none).run Tryz.prog w = .ok (.slice a 8 cap) w := fun w => run_cut_h Tryz.underlying56 size_u8 a len cap 8 w (by omega) (by omega)
  have s2 : ∀ w, (Instr.slice 56 (.slice a len cap) (some (.int .i64 ((len : Int) - 8))) none none).run Tryz.prog w = .ok (.slice (cutA a (len - 8) cap) 8 (cap - (len - 8))) w := fun w => by
    have := run_cut_l (P := Tryz.prog) Tryz.underlying56 size_u8 a len cap ((len - 8 : Nat) : Int) w (by omega) (by omega)
    rw [show ((len - 8 : Nat) : Int) = (len : Int) - 8 by omega, show ((len : Int) - 8).toNat = len - 8 by omega, show len - (len - 8) = 8 by omega] at this
    exact this
  have s3 : ∀ w, (Instr.slice 56 (.slice a len cap) (some (.int .i64 8)) (some (.int .i64 10)) none).run Tryz.prog w = .ok (.slice (cutA a 8 cap) 2 (cap - 8)) w := fun w => run_cut_lh Tryz.underlying56 size_u8 a len cap 8 10 w (by omega) (by omega) (by omega)
  have t1 := hT.cut 0 8 (by omega) (by omega)
  have t2 := hT.cut (len - 8) len (by omega) (by omega)
  have t3 := hT.cut 8 10 (by omega) (by omega)
  simp only [cutA_zero, List.drop_zero, Nat.sub_zero] at t1
  rw [show len - (len - 8) = 8 by omega] at t2
  have n1 := numOf_bounds _ t1.small
  have n2 := numOf_bounds _ t2.small
  have n3 := numOf_bounds _ t3.small
  have l1 := t1.length
  have l2 := t2.length
  have l3 := t3.length
  rw [l1] at n1
  rw [l2] at n2
  rw [l3] at n3
  have O1 := hid (fun W : World => fun h => of_text (w := W) (a := a) (len := 8) (cap := cap) (bs := b.take 8) h (by omega))
  have O2 := hid (fun W : World => fun h => of_text (w := W) (a := cutA a (len - 8) cap) (len := 8) (cap := cap - (len - 8)) (bs := (b.drop (len - 8)).take 8) h (by omega))
  have O3 := hid (fun W : World => fun h => of_text (w := W) (a := cutA a 8 cap) (len := 2) (cap := cap - 8) (bs := (b.drop 8).take 2) h (by omega))
  have e2 : (b.drop (len - 8)).take 8 = b.drop (b.length - 8) := by rw [hbl]; exact List.take_of_length_le (by rw [List.length_drop]; omega)
  have T1 := hid t1
  have T2 := hid t2
  have T3 := hid t3
  clear t1 t2 t3
  rw [e2] at n2 O2 T2
  clear e2
  rw [← h1] at n2 O2
  rw [hbl] at h4
  generalize numOf (b.take 8) = A at *
  generalize numOf ((b.drop 8).take 2) = N at *
  have q2 : ¬ A < 1 := by omega
  have q3 : ¬ 4611686018427387904 < A := by omega
  have q5 : ((len : Int) - 18) % 18446744073709551616 = (len : Int) - 18 := by omega
  clear h1
  have q4 : ¬ (len : Int) - 18 < N := by omega
  have q6 : wrap64 A = A := by unfold wrap64; omega
  obtain ⟨M, rfl⟩ : ∃ M : Nat, N = M := ⟨N.toNat, by omega⟩
  go_enter Tryz.func63, Tryz.ntmps63
  go_wp2_with fail
  refine (O1.out _ T1.out).mono ?_
  rintro e wq ⟨rfl, rfl⟩
  go_wp2_with fail
  refine (O2.out _ T2.out).mono ?_
  rintro e wq ⟨rfl, rfl⟩
  go_wp2_with fail
  refine (O3.out _ T3.out).mono ?_
  rintro e wq ⟨rfl, rfl⟩
  go_wp2_with fail
  have Hb := hid (Below.refl w.heap.size w)
  refine wp_region_flow 7 (List.range 7) [] [] (by kernel_rfl) (by kernel_rfl) ?_
  apply Exists.intro
  refine ⟨fun w0 hb0 hF0 => ?_, ?_⟩
  · skip
    simp only [pick, List.range, List.range.loop, List.getElem?_toArray, List.getElem?_cons_succ, List.getElem?_cons_zero, Option.toList_some, List.cons_append, List.nil_append]
    repeat (first | go_big_quiet_step (fail) | (go_big_quiet_want; refine quiet_cut_lo _ _ rfl a len cap 10 _ rfl _ rfl rfl rfl (by omega) ?_; go_big_quiet_on; simp only [Act.put, List.setIfInBounds_toArray, List.set_cons_zero, List.set_cons_succ]) | (go_big_quiet_want; refine quiet_cut_hu .u64 _ _ rfl (cutA a 10 cap) (len - 10) (cap - 10) M _ rfl _ rfl rfl rfl (by omega) ?_; go_big_quiet_on; simp only [Act.put, List.setIfInBounds_toArray, List.set_cons_zero, List.set_cons_succ]))
    exact wpQuiet_nil rfl
  refine AlChk.nil ?_
  refine Walk.fin fun w1 hw1 _ _ => ?_
  simp only [List.drop_succ_cons, List.drop_zero]
  have HBw1 := hid (Below.on Hb.out hw1)
  have hsw1 := HBw1.out.size
  clear hw1
  go_wp2_with fail
  have t10 := hT.cut 10 (10 + M) (by omega) (by omega)
  rw [show 10 + M - 10 = M by omega] at t10
  go_returns
  refine ⟨cutA a 10 cap, cap - 10, ?_, HBw1.out, rfl, t10.below HBw1.out⟩
  first
    | rfl
    | (unfold cutA; rw [if_neg (by omega)]; rfl)
    | (unfold cutA; simp [show ¬ cap = 10 by omega]; rfl)
theorem slotText_len {b : List Int} (h : slotOk b = true) (hs : ∀ x ∈ b, 0 ≤ x ∧ x < 256) (h18 : 18 ≤ b.length) : (slotText b).length = (numOf ((b.drop 8).take 2)).toNat := by
  have hb := numOf_bounds ((b.drop 8).take 2) (fun x hx => hs x (List.mem_of_mem_drop (List.mem_of_mem_take hx)))
  have h2 := of_decide_eq_true h
  unfold slotText
  rw [if_pos h, List.length_take, List.length_drop]
  omega
theorem content_any {w : World} {a : Option Addr} {len cap : Nat} {b : List Int} (hT : TextAt w a len cap b) (h18 : 18 ≤ len) (h512 : len ≤ 512) :
    Calls Tryz.prog 63 #[.slice a len cap] w fun e w' => Below w.heap.size w w' ∧ (slotOk b = false ∧ e = .returned (.tuple #[.int .i64 0, .slice none 0 0, .bool false]) ∨ slotOk b = true ∧ ∃ sa sc, e = .returned (.tuple #[.int .i64 (slotTurn b), .slice sa (slotText b).length sc, .bool true]) ∧ sa = cutA a 10 cap ∧ TextAt w' sa (slotText b).length sc (slotText b)) := by
  have hbl := hT.length
  by_cases h1 : numOf (b.take 8) = numOf (b.drop (b.length - 8))
  · by_cases h2 : 1 ≤ numOf (b.take 8)
    · by_cases h3 : numOf (b.take 8) ≤ 4611686018427387904
      · by_cases h4 : numOf ((b.drop 8).take 2) ≤ (b.length : Int) - 18
        · have hok : slotOk b = true := decide_eq_true ⟨h1, h2, h3, h4⟩
          have hl := slotText_len hok hT.small (by omega)
          refine (content_good hT h18 h512 h1 h2 h3 h4).mono ?_
          rintro e w' ⟨sa, sc, rfl, hb, hsa, ht⟩
          refine ⟨hb, .inr ⟨hok, sa, sc, ?_, hsa, ?_⟩⟩
          · rw [hl]; unfold slotTurn; rw [if_pos hok]
          · rw [hl]; unfold slotText; rw [if_pos hok]; exact ht
        · have hok : slotOk b = false := decide_eq_false fun h => h4 h.2.2.2
          exact (content_size hT h18 h512 h1 h2 h3 (by omega)).mono fun e w' h => ⟨h.2, .inl ⟨hok, h.1⟩⟩
      · have hok : slotOk b = false := decide_eq_false fun h => h3 h.2.2.1
        exact (content_big hT h18 h512 h1 h2 (by omega)).mono fun e w' h => ⟨h.2, .inl ⟨hok, h.1⟩⟩
    · have hok : slotOk b = false := decide_eq_false fun h => h2 h.2.1
      exact (content_low hT h18 h512 h1 (by omega)).mono fun e w' h => ⟨h.2, .inl ⟨hok, h.1⟩⟩
  · have hok : slotOk b = false := decide_eq_false fun h => h1 h.1
    exact (content_ne hT h18 h512 h1).mono fun e w' h => ⟨h.2, .inl ⟨hok, h.1⟩⟩
end Go.Proofs.YtpinamdgbijjlaaGreatDoor
namespace Go.Proofs.YtpinamdgbijjlaaGreatDoor
set_option maxRecDepth 100000
open Go.ChangeShapes Go.WideShapes Go.ChangeAt Go.RowKit
theorem cutA_block {g o l cap : Nat} {p : Addr} (h : cutA (some ⟨g, o, none⟩) l cap = some p) : p.block = g := by
  unfold cutA at h
  split at h
  · cases h; rfl
  · rw [Option.map_some, Addr.add_mid] at h
    cases h; rfl
theorem cell_skips {P : Program} {o : Oper} {A : Act} {w : World} (ty : TypeId) (x y : Operand) (ho : o.op = .store ty x y) (b off : Nat) (v : Value) (hx : A.eval x = .pointer (some ⟨b, off, none⟩)) (hy : A.eval y = v) (h1 : v.oneCell' = true) (hc : v.cells = #[v])
    (cs : Array Value) (T : TypeId) (hk : Blk w b cs T) (hlt : off < cs.size) (hi : (P.info? ty).map (·.size) = some 1) {S : List Nat} {G : World → Prop} (hb : b ∈ S) (hG : ∀ w2, But b w w2 → Blk w2 b (cs.setIfInBounds off v) T → G w2) :
    ∃ w2, (execOp A.eval o).run P w = .ok .skip w2 ∧ FlowB.ButIn S w w2 ∧ G w2 := by
  have q := But.setCells (b := b) [v] off w (But.of (Below.refl w.heap.size w))
  refine ⟨w.setCells b off [v], ?_, ButIn.of_but q hb, hG _ q (hk.set off v)⟩
  unfold execOp
  simp only [ho, hx, hy, Instr.storeAt, Instr.sureAddr, Sem.run_bind, Sem.run_pure, Result.andThen_ok, run_store_one w hk hlt hi h1 hc]
theorem but_of_in {b : Nat} {w w' : World} (h : FlowB.ButIn [b] w w') : But b w w' := ⟨h.os, h.tape, h.output, h.size, fun k hk hne => h.block k hk (by simpa using hne)⟩
/-- The text of slots: in memory of its own. -/
structure TextQ (w : World) (base q : Nat) (a : Option Addr) (n c : Nat) (t : List Int) : Prop where
  text : TextAt w a n c t
  out : ∀ p : Addr, a = some p → base ≤ p.block ∧ p.block ≠ q
theorem TextQ.below {w w' : World} {base q : Nat} {a : Option Addr} {n c : Nat} {t : List Int} (h : TextQ w base q a n c t) (hb : Below w.heap.size w w') : TextQ w' base q a n c t := ⟨h.text.below hb, h.out⟩
theorem TextQ.nil (w : World) (base q : Nat) : TextQ w base q none 0 0 [] := ⟨TextAt.nil, fun p hp => by cases hp⟩
theorem size_pslots : (Tryz.prog.info? 3).map (·.size) = some 1 := by kernel_rfl
set_option maxHeartbeats 4000000 in
theorem open1_bad (w : World) (bd bs q p bb z n : Nat) (B : List Int) (set : Bool) (af : Int) (kv : Value) (at_ T : Int) (ta : Option Addr) (tn tc : Nat) (t : List Int) (base i : Nat) (hd : DkAt w p bb z n B (.slice none 0 0) true set af kv) (kd : Blk w bd #[.pointer (some ⟨p, 0, none⟩)] 30) (ks : Blk w bs #[.pointer (some ⟨q, 0, none⟩)] 73) (kq : Blk w q (slC p at_ T (.slice ta tn tc) false) 141) (hT : TextQ w base q ta tn tc t) (_hbase : base ≤ w.heap.size) (hin : i < n) (h18 : 18 ≤ z) (_hne : bs ≠ q) (ho : slotOk ((B.drop (i * z)).take z) = false) :
    Calls Tryz.prog 62 #[.int .i64 i, .pointer (some ⟨bd, 0, none⟩), .pointer (some ⟨bs, 0, none⟩)] w fun e w' => e = .returned (.int .i64 0) ∧ But q w w' ∧ ∃ ta' tn' tc', Blk w' q (slC p at_ T (.slice ta' tn' tc') false) 141 ∧ TextQ w' base q ta' tn' tc' t := by
  have Hb := hid (Below.refl w.heap.size w)
  have Kd := hid kd
  have Ks := hid ks
  have Kq := hid kq
  have HTQ := hid hT
  have cd : w.cell? ⟨bd, 0, none⟩ = some (.pointer (some ⟨p, 0, none⟩)) := by rw [kd.cell]; rfl
  have hz2 := hd.z2
  have hql := kq.lt
  have hsm : ∀ x ∈ ((B.drop (i * z)).take z), 0 ≤ x ∧ x < 256 := fun x hx => hd.small x (List.mem_of_mem_drop (List.mem_of_mem_take hx))
  have CR := hid (read_any w p bb z n B set af kv none 0 [] hd (WaitAt.nil w [p, bb] z) (fun x hx => absurd hx (by simp)) (by simp) i hin)
  have hrd : readN z i [] B ([] : List (Nat × List Int)).length = ((B.drop (i * z)).take z) := rfl
  rw [hrd] at CR
  generalize ((B.drop (i * z)).take z) = b at *
  clear kd ks kq hT hd
  go_enter Tryz.func62, Tryz.ntmps62
  go_wp2_with fail
  refine (CR.out).mono ?_
  rintro e w1 ⟨g, rfl, hg, b1, t1⟩
  have HB1 := hid b1
  have Kd1 := hid (Kd.out.below b1)
  have Ks1 := hid (Ks.out.below b1)
  have Kq1 := hid (Kq.out.below b1)
  have HQ1 := hid (HTQ.out.below b1)
  have hs1 := b1.size
  have CC := hid (content_any t1 (by omega) (by omega))
  have hbl := t1.length
  clear b1 t1 cd
  go_wp2_with fail
  refine (CC.out).mono ?_
  rintro e w2 ⟨b2, hcase⟩
  have HB2 := hid (Below.on HB1.out b2)
  have Kd2 := hid (Kd1.out.below b2)
  have Ks2 := hid (Ks1.out.below b2)
  have Kq2 := hid (Kq1.out.below b2)
  have HQ2 := hid (HQ1.out.below b2)
  have hs2 := HB2.out.size
  clear b2
  rcases hcase with ⟨hk, rfl⟩ | ⟨hk, sa, sc, rfl, hsa, hst⟩
  · skip
    go_wp2_with fail
    go_returns
    exact ⟨rfl, But.of HB2.out, _, _, _, Kq2.out, HQ2.out⟩
  · rw [hk] at ho
    cases ho
set_option maxHeartbeats 4000000 in
theorem open1_old (w : World) (bd bs q p bb z n : Nat) (B : List Int) (set : Bool) (af : Int) (kv : Value) (at_ T : Int) (ta : Option Addr) (tn tc : Nat) (t : List Int) (base i : Nat) (hd : DkAt w p bb z n B (.slice none 0 0) true set af kv) (kd : Blk w bd #[.pointer (some ⟨p, 0, none⟩)] 30) (ks : Blk w bs #[.pointer (some ⟨q, 0, none⟩)] 73) (kq : Blk w q (slC p at_ T (.slice ta tn tc) false) 141) (hT : TextQ w base q ta tn tc t) (_hbase : base ≤ w.heap.size) (hin : i < n) (h18 : 18 ≤ z) (_hne : bs ≠ q) (ho : slotOk ((B.drop (i * z)).take z) = true) (hnew : ¬ T < slotTurn ((B.drop (i * z)).take z)) :
    Calls Tryz.prog 62 #[.int .i64 i, .pointer (some ⟨bd, 0, none⟩), .pointer (some ⟨bs, 0, none⟩)] w fun e w' => e = .returned (.int .i64 0) ∧ But q w w' ∧ ∃ ta' tn' tc', Blk w' q (slC p at_ T (.slice ta' tn' tc') false) 141 ∧ TextQ w' base q ta' tn' tc' t := by
  have Hb := hid (Below.refl w.heap.size w)
  have Kd := hid kd
  have Ks := hid ks
  have Kq := hid kq
  have HTQ := hid hT
  have cd : w.cell? ⟨bd, 0, none⟩ = some (.pointer (some ⟨p, 0, none⟩)) := by rw [kd.cell]; rfl
  have hz2 := hd.z2
  have hql := kq.lt
  have hsm : ∀ x ∈ ((B.drop (i * z)).take z), 0 ≤ x ∧ x < 256 := fun x hx => hd.small x (List.mem_of_mem_drop (List.mem_of_mem_take hx))
  have CR := hid (read_any w p bb z n B set af kv none 0 [] hd (WaitAt.nil w [p, bb] z) (fun x hx => absurd hx (by simp)) (by simp) i hin)
  have hrd : readN z i [] B ([] : List (Nat × List Int)).length = ((B.drop (i * z)).take z) := rfl
  rw [hrd] at CR
  generalize ((B.drop (i * z)).take z) = b at *
  clear kd ks kq hT hd
  go_enter Tryz.func62, Tryz.ntmps62
  go_wp2_with fail
  refine (CR.out).mono ?_
  rintro e w1 ⟨g, rfl, hg, b1, t1⟩
  have HB1 := hid b1
  have Kd1 := hid (Kd.out.below b1)
  have Ks1 := hid (Ks.out.below b1)
  have Kq1 := hid (Kq.out.below b1)
  have HQ1 := hid (HTQ.out.below b1)
  have hs1 := b1.size
  have CC := hid (content_any t1 (by omega) (by omega))
  have hbl := t1.length
  clear b1 t1 cd
  go_wp2_with fail
  refine (CC.out).mono ?_
  rintro e w2 ⟨b2, hcase⟩
  have HB2 := hid (Below.on HB1.out b2)
  have Kd2 := hid (Kd1.out.below b2)
  have Ks2 := hid (Ks1.out.below b2)
  have Kq2 := hid (Kq1.out.below b2)
  have HQ2 := hid (HQ1.out.below b2)
  have hs2 := HB2.out.size
  clear b2
  rcases hcase with ⟨hk, rfl⟩ | ⟨hk, sa, sc, rfl, hsa, hst⟩
  · rw [hk] at ho
    cases ho
  · skip
    have hsl : (slotText b).length ≤ 512 := by
      unfold slotText
      rw [if_pos hk, List.length_take, List.length_drop]
      omega
    have HTX := hid hst
    have csl : w2.cell? ⟨bs, 0, none⟩ = some (.pointer (some ⟨q, 0, none⟩)) := by rw [Ks2.out.cell]; rfl
    have cq2 : w2.cell? ⟨q, 2, none⟩ = some (.int .i64 T) := by rw [Kq2.out.cell]; rfl
    have hsq : ∀ p : Addr, sa = some p → p.block ≠ q := fun p hp => by
      have h2 := cutA_block (hsa ▸ hp)
      omega
    obtain ⟨U, hU⟩ : ∃ U, slotTurn b = U := ⟨_, rfl⟩
    obtain ⟨V, hV⟩ : ∃ V, slotText b = V := ⟨_, rfl⟩
    rw [hU, hV]
    rw [hU] at hnew
    rw [hV] at hsl HTX
    have HU := hid hU
    have HV := hid hV
    clear hU hV
    have hlt : ¬ T < U := by omega
    clear hst hsa
    go_wp2_with fail
    go_returns
    exact ⟨rfl, But.of HB2.out, _, _, _, Kq2.out, HQ2.out⟩
set_option maxHeartbeats 4000000 in
theorem open1_new (w : World) (bd bs q p bb z n : Nat) (B : List Int) (set : Bool) (af : Int) (kv : Value) (at_ T : Int) (ta : Option Addr) (tn tc : Nat) (t : List Int) (base i : Nat) (hd : DkAt w p bb z n B (.slice none 0 0) true set af kv) (kd : Blk w bd #[.pointer (some ⟨p, 0, none⟩)] 30) (ks : Blk w bs #[.pointer (some ⟨q, 0, none⟩)] 73) (kq : Blk w q (slC p at_ T (.slice ta tn tc) false) 141) (hT : TextQ w base q ta tn tc t) (hbase : base ≤ w.heap.size) (hin : i < n) (h18 : 18 ≤ z) (hne : bs ≠ q) (ho : slotOk ((B.drop (i * z)).take z) = true) (hnew : T < slotTurn ((B.drop (i * z)).take z)) :
    Calls Tryz.prog 62 #[.int .i64 i, .pointer (some ⟨bd, 0, none⟩), .pointer (some ⟨bs, 0, none⟩)] w fun e w' => e = .returned (.int .i64 0) ∧ But q w w' ∧ ∃ ta' tn' tc', Blk w' q (slC p at_ (slotTurn ((B.drop (i * z)).take z)) (.slice ta' tn' tc') false) 141 ∧ TextQ w' base q ta' tn' tc' (slotText ((B.drop (i * z)).take z)) := by
  have Hb := hid (Below.refl w.heap.size w)
  have Kd := hid kd
  have Ks := hid ks
  have Kq := hid kq
  have HTQ := hid hT
  have cd : w.cell? ⟨bd, 0, none⟩ = some (.pointer (some ⟨p, 0, none⟩)) := by rw [kd.cell]; rfl
  have hz2 := hd.z2
  have hql := kq.lt
  have hsm : ∀ x ∈ ((B.drop (i * z)).take z), 0 ≤ x ∧ x < 256 := fun x hx => hd.small x (List.mem_of_mem_drop (List.mem_of_mem_take hx))
  have CR := hid (read_any w p bb z n B set af kv none 0 [] hd (WaitAt.nil w [p, bb] z) (fun x hx => absurd hx (by simp)) (by simp) i hin)
  have hrd : readN z i [] B ([] : List (Nat × List Int)).length = ((B.drop (i * z)).take z) := rfl
  rw [hrd] at CR
  generalize ((B.drop (i * z)).take z) = b at *
  clear kd ks kq hT hd
  go_enter Tryz.func62, Tryz.ntmps62
  go_wp2_with fail
  refine (CR.out).mono ?_
  rintro e w1 ⟨g, rfl, hg, b1, t1⟩
  have HB1 := hid b1
  have Kd1 := hid (Kd.out.below b1)
  have Ks1 := hid (Ks.out.below b1)
  have Kq1 := hid (Kq.out.below b1)
  have HQ1 := hid (HTQ.out.below b1)
  have hs1 := b1.size
  have CC := hid (content_any t1 (by omega) (by omega))
  have hbl := t1.length
  clear b1 t1 cd
  go_wp2_with fail
  refine (CC.out).mono ?_
  rintro e w2 ⟨b2, hcase⟩
  have HB2 := hid (Below.on HB1.out b2)
  have Kd2 := hid (Kd1.out.below b2)
  have Ks2 := hid (Ks1.out.below b2)
  have Kq2 := hid (Kq1.out.below b2)
  have HQ2 := hid (HQ1.out.below b2)
  have hs2 := HB2.out.size
  clear b2
  rcases hcase with ⟨hk, rfl⟩ | ⟨hk, sa, sc, rfl, hsa, hst⟩
  · rw [hk] at ho
    cases ho
  · skip
    have hsl : (slotText b).length ≤ 512 := by
      unfold slotText
      rw [if_pos hk, List.length_take, List.length_drop]
      omega
    have HTX := hid hst
    have csl : w2.cell? ⟨bs, 0, none⟩ = some (.pointer (some ⟨q, 0, none⟩)) := by rw [Ks2.out.cell]; rfl
    have cq2 : w2.cell? ⟨q, 2, none⟩ = some (.int .i64 T) := by rw [Kq2.out.cell]; rfl
    have hsq : ∀ p : Addr, sa = some p → p.block ≠ q := fun p hp => by
      have h2 := cutA_block (hsa ▸ hp)
      omega
    obtain ⟨U, hU⟩ : ∃ U, slotTurn b = U := ⟨_, rfl⟩
    obtain ⟨V, hV⟩ : ∃ V, slotText b = V := ⟨_, rfl⟩
    rw [hU, hV]
    rw [hU] at hnew
    rw [hV] at hsl HTX
    have HU := hid hU
    have HV := hid hV
    clear hU hV
    have hlt : T < U := by omega
    clear hst hsa
    go_wp2_with fail
    clear csl cq2
    refine FlowB.wp_region_butIn [q] (fun wz => Blk wz q (slC p at_ T (.slice ta tn tc) false) 141) 11 [0, 1, 2, 3] [] [(.c 4, [5, 6], []), (.c 7, [8, 9], []), (.c 10, [], [])] (by kernel_rfl) (by kernel_rfl) Kq2.out (fun _ _ h hb => h.below hb) ?_
    apply Exists.intro
    refine ⟨fun w0 hb0 hF0 => ?_, ?_⟩
    · skip
      have y0 : ∀ w', (∃ x : Ext w0, w' = x.at_) → w'.cell? ⟨bs, 0, none⟩ = some (.pointer (some ⟨q, 0, none⟩)) := fun w' ⟨x, hx⟩ => by rw [hx, ((hb0.blk Ks2.out (by simpa using hne)).below x.same).cell]; rfl
      simp only [pick, List.getElem?_toArray, List.getElem?_cons_succ, List.getElem?_cons_zero, Option.toList_some, List.cons_append, List.nil_append]
      repeat (first | (go_big_quiet_want; refine quiet_load_one_s 73 _ rfl ⟨bs, 0, none⟩ rfl _ y0 _ Tryz.underlying73 rfl ?_; go_big_quiet_on; simp only [Act.put, List.setIfInBounds_toArray, List.set_cons_zero, List.set_cons_succ]) | go_big_quiet_step (fail))
      exact wpQuiet_nil rfl
    refine FlowB.AlChk.nil ?_
    refine FlowB.Walk.call rfl 64 #[.slice sa V.length sc] (fun v w' => ∃ a c, v = .slice a V.length c ∧ TextQ w' base q a V.length c V) (fun _ w' => Blk w' q (slC p at_ T (.slice ta tn tc) false) 141) (fun v w' w'' hb h k => by obtain ⟨a, c, h1, h2⟩ := h; exact ⟨a, c, h1, h2.text.butIn (S := [q]) (fun p hp => by have := (h2.out p hp).2; simpa using this) k, h2.out⟩) (fun _ _ _ h k => h.below k) rfl (fun w1' hb1 hF1 hG1 => ⟨by go_simp, ?_⟩) ?_
    · refine (clone_any (HTX.out.butIn (S := [q]) (fun p hp => by simpa using hsq p hp) hb1) (by omega)).mono ?_
      rintro e w3 ⟨a', c', rfl, hb3, ht3, ho3⟩
      exact ⟨_, rfl, ButIn.of_below hb3, ⟨a', c', rfl, ht3, fun p hp => by have := (ho3 p hp).1; have := hb1.size; exact ⟨by omega, by omega⟩⟩, hG1.below hb3⟩
    rintro v1 w1' hb1 hF1 ⟨a3, c3, rfl, -⟩
    apply Exists.intro
    refine ⟨fun w4 hb4 hF4 => ?_, ?_⟩
    · skip
      simp only [pick, List.getElem?_toArray, List.getElem?_cons_succ, List.getElem?_cons_zero, Option.toList_some, List.cons_append, List.nil_append, Act.put, List.setIfInBounds_toArray, List.set_cons_zero, List.set_cons_succ]
      repeat (first | go_big_quiet_step (fail))
      exact wpQuiet_nil rfl
    refine FlowB.AlChk.nil ?_
    refine FlowB.Walk.skips rfl (fun wz => Blk wz q (slC p at_ U (.slice ta tn tc) false) 141) (fun _ _ h hb => h.below hb) rfl (fun w5 hb5 hF5 hG5 => ?_) ?_
    · exact cell_skips 3 _ _ rfl q 2 (.int .i64 U) rfl rfl rfl rfl (slC p at_ T (.slice ta tn tc) false) 141 hG5 (by simp [slC]) size_dint (by simp) (fun w6 h6 h7 => h7)
    intro w5 hb5 hF5
    apply Exists.intro
    refine ⟨fun w6 hb6 hF6 => ?_, ?_⟩
    · skip
      simp only [pick, List.getElem?_toArray, List.getElem?_cons_succ, List.getElem?_cons_zero, Option.toList_some, List.cons_append, List.nil_append, Act.put]
      repeat (first | go_big_quiet_step (fail))
      exact wpQuiet_nil rfl
    refine FlowB.AlChk.nil ?_
    refine FlowB.Walk.skips rfl (fun wz => Blk wz q (slC p at_ U (.slice a3 V.length c3) false) 141) (fun _ _ h hb => h.below hb) rfl (fun w7 hb7 hF7 hG7 => ?_) ?_
    · exact cell_skips 56 _ _ rfl q 3 (.slice a3 V.length c3) rfl rfl rfl rfl (slC p at_ U (.slice ta tn tc) false) 141 hG7 (by simp [slC]) size_dtext (by simp) (fun w8 h8 h9 => h9)
    intro w7 hb7 hF7
    apply Exists.intro
    refine ⟨fun w8 hb8 hF8 => wpQuiet_nil rfl, ?_⟩
    refine FlowB.AlChk.nil ?_
    refine FlowB.Walk.fin fun w9 h9 hF9 hG9 => ?_
    simp only [List.drop_succ_cons, List.drop_zero]
    have HG9 := hid hG9
    have HBt := hid (But.trans (But.of HB2.out) (but_of_in h9))
    obtain ⟨a4, c4, hq4, ht4⟩ := hF9.1.1.2
    cases hq4
    have HT9 := hid ht4
    clear h9 hF9 hG9 ht4
    go_wp2_with fail
    go_returns
    rw [HU.out, HV.out]
    exact ⟨rfl, HBt.out, _, _, _, HG9.out, HT9.out⟩
theorem DkAt.but {w w' : World} {p bb z n b : Nat} {B : List Int} {wv : Value} {on set : Bool} {af : Int} {kv : Value} (h : DkAt w p bb z n B wv on set af kv) (hb : But b w w') (h1 : p ≠ b) (h2 : bb ≠ b) : DkAt w' p bb z n B wv on set af kv :=
  ⟨hb.blk h.kp h1, hb.blk h.kb h2, h.ne, h.len, h.z1, h.z2, h.n1, h.n2, h.small⟩
/-- The turn and the text that slots have behind a sector. -/
def pickS (s : Int × List Int) (b : List Int) : Int × List Int := if slotOk b = true ∧ s.1 < slotTurn b then (slotTurn b, slotText b) else s
theorem open1_any (w : World) (bd bs q p bb z n : Nat) (B : List Int) (set : Bool) (af : Int) (kv : Value) (at_ T : Int) (ta : Option Addr) (tn tc : Nat) (t : List Int) (base i : Nat) (hd : DkAt w p bb z n B (.slice none 0 0) true set af kv) (kd : Blk w bd #[.pointer (some ⟨p, 0, none⟩)] 30) (ks : Blk w bs #[.pointer (some ⟨q, 0, none⟩)] 73) (kq : Blk w q (slC p at_ T (.slice ta tn tc) false) 141) (hT : TextQ w base q ta tn tc t) (hbase : base ≤ w.heap.size) (hin : i < n) (h18 : 18 ≤ z) (hne : bs ≠ q) :
    Calls Tryz.prog 62 #[.int .i64 i, .pointer (some ⟨bd, 0, none⟩), .pointer (some ⟨bs, 0, none⟩)] w fun e w' => e = .returned (.int .i64 0) ∧ But q w w' ∧ ∃ ta' tn' tc', Blk w' q (slC p at_ (pickS (T, t) ((B.drop (i * z)).take z)).1 (.slice ta' tn' tc') false) 141 ∧ TextQ w' base q ta' tn' tc' (pickS (T, t) ((B.drop (i * z)).take z)).2 := by
  have AA := open1_bad w bd bs q p bb z n B set af kv at_ T ta tn tc t base i hd kd ks kq hT hbase hin h18 hne
  by_cases ho : slotOk ((B.drop (i * z)).take z) = true
  · by_cases hnew : T < slotTurn ((B.drop (i * z)).take z)
    · rw [show pickS (T, t) ((B.drop (i * z)).take z) = (slotTurn ((B.drop (i * z)).take z), slotText ((B.drop (i * z)).take z)) from if_pos ⟨ho, hnew⟩]
      exact open1_new w bd bs q p bb z n B set af kv at_ T ta tn tc t base i hd kd ks kq hT hbase hin h18 hne ho hnew
    · rw [show pickS (T, t) ((B.drop (i * z)).take z) = (T, t) from if_neg fun h => hnew h.2]
      exact open1_old w bd bs q p bb z n B set af kv at_ T ta tn tc t base i hd kd ks kq hT hbase hin h18 hne ho hnew
  · rw [show pickS (T, t) ((B.drop (i * z)).take z) = (T, t) from if_neg fun h => ho h.1]
    exact AA (by simpa using ho)
/-- What slots have, of a disk's bytes. -/
def openS (z : Nat) (B : List Int) (a : Nat) : Int × List Int := pickS (pickS (0, []) ((B.drop (a * z)).take z)) ((B.drop ((a + 1) * z)).take z)
theorem build_slots (p : Nat) (a : Int) (w : World) : (Instr.build 141 #[(0, .pointer (some ⟨p, 0, none⟩)), (1, .int .i64 a)]).run Tryz.prog w = .ok (.agg (slC p a 0 (.slice none 0 0) false)) w := by
  refine run_build w _ _ _ ?_
  obtain ⟨i0, hi, hz0⟩ := Option.map_eq_some_iff.1 (show (Tryz.prog.info? 141).map (·.zero) = some (some (.agg #[.pointer none, .int .i64 0, .int .i64 0, .slice none 0 0, .bool false])) by kernel_rfl)
  obtain ⟨fields, hu, hq⟩ : ∃ fields, Tryz.prog.underlying 141 = some (.struct fields) ∧ fields.toList.mapM (fun f => (Tryz.prog.info? f.type).map fun i => (f.offset, i.size)) = some [(0, 1), (1, 1), (2, 1), (3, 1), (4, 1)] := ⟨_, Tryz.underlying141, by kernel_rfl⟩
  have hz : (Value.agg #[.pointer none, .int .i64 0, .int .i64 0, .slice none 0 0, .bool false]).cells = #[.pointer none, .int .i64 0, .int .i64 0, .slice none 0 0, .bool false] := rfl
  unfold Program.built
  simp only [hi, hu, hz0, hq, hz]
  have t0 : splice ([.pointer none, .int .i64 0, .int .i64 0, .slice none 0 0, .bool false] : List Value) 0 (Value.pointer (some ⟨p, 0, none⟩)).cells.toList = [.pointer (some ⟨p, 0, none⟩), .int .i64 0, .int .i64 0, .slice none 0 0, .bool false] := by rfl
  have t1 : splice ([.pointer (some ⟨p, 0, none⟩), .int .i64 0, .int .i64 0, .slice none 0 0, .bool false] : List Value) 1 (Value.int .i64 a).cells.toList = [.pointer (some ⟨p, 0, none⟩), .int .i64 a, .int .i64 0, .slice none 0 0, .bool false] := by rfl
  rw [fill_part _ _ 0 0 _ _ (by rfl) (by show 0 + 1 ≤ 5; omega), t0]
  rw [fill_part _ _ 1 1 _ _ (by rfl) (by show 1 + 1 ≤ 5; omega), List.toList_toArray, t1, Instr.fill]
  rfl
def stepS (z : Nat) (B : List Int) (a : Nat) : Nat → Int × List Int
  | 0 => (0, [])
  | k + 1 => pickS (stepS z B a k) ((B.drop ((a + k) * z)).take z)
set_option maxHeartbeats 4000000 in
theorem open_good (w : World) (p bb z n : Nat) (B : List Int) (set : Bool) (af : Int) (kv : Value) (a0 : Nat) (hd : DkAt w p bb z n B (.slice none 0 0) true set af kv) (h18 : 18 ≤ z) (ha : a0 + 2 ≤ n) :
    Calls Tryz.prog 21 #[.pointer (some ⟨p, 0, none⟩), .int .i64 a0] w fun e w' => ∃ q ta tn tc, e = .returned (.tuple #[.pointer (some ⟨q, 0, none⟩), .int .i64 0]) ∧ w.heap.size ≤ q ∧ Below w.heap.size w w' ∧ Blk w' q (slC p a0 (openS z B a0).1 (.slice ta tn tc) false) 141 ∧ TextQ w' w.heap.size q ta tn tc (openS z B a0).2 := by
  have b1 := (Below.refl w.heap.size w).alloc (Nat.le_refl _) (.cells #[.pointer (some ⟨p, 0, none⟩)] 30 (0, 0))
  have Kd := hid (Blk.new (w := w) (n := w.heap.size) rfl #[.pointer (some ⟨p, 0, none⟩)] 30)
  have HD := hid (hd.below b1)
  have Hb := hid b1
  have hbz := b1.size
  clear b1
  have hz2 := hd.z2
  have hn2 := hd.n2
  have hn1 := hd.n1
  go_enter Tryz.func21, Tryz.ntmps21
  go_wp2_with fail
  refine (read_any _ p bb z n B set af kv none 0 [] HD.out (WaitAt.nil _ [p, bb] z) (fun x hx => absurd hx (by simp)) (by simp) a0 (by omega)).mono ?_
  rintro e w1 ⟨g, rfl, -, b1, -⟩
  have HB1 := hid (Below.on Hb.out b1)
  have Kd1 := hid (Kd.out.below b1)
  have HD1 := hid (HD.out.below b1)
  have hs1 := HB1.out.size
  clear b1
  have cd1 : w1.cell? ⟨w.heap.size, 0, none⟩ = some (.pointer (some ⟨p, 0, none⟩)) := by rw [Kd1.out.cell]; rfl
  go_wp2_with fail
  clear cd1
  refine (size_any _ p bb z n B (.slice none 0 0) true set af kv HD1.out).mono ?_
  rintro e w2 ⟨rfl, b2⟩
  have HB2 := hid (Below.on HB1.out b2)
  have Kd2 := hid (Kd1.out.below b2)
  have HD2 := hid (HD1.out.below b2)
  have hs2 := HB2.out.size
  clear b2
  have cd2 : w2.cell? ⟨w.heap.size, 0, none⟩ = some (.pointer (some ⟨p, 0, none⟩)) := by rw [Kd2.out.cell]; rfl
  have qz : ¬ (z : Int) < 18 := by omega
  have qa : ¬ (a0 : Int) < 0 := by omega
  have qn : ¬ (n : Int) - 2 < (a0 : Int) := by omega
  go_wp2_with fail
  clear cd2
  refine (sectors_any _ p bb z n B (.slice none 0 0) true set af kv HD2.out).mono ?_
  rintro e w3 ⟨rfl, b3⟩
  have HB3 := hid (Below.on HB2.out b3)
  have Kd3 := hid (Kd2.out.below b3)
  have HD3 := hid (HD2.out.below b3)
  have hs3 := HB3.out.size
  clear b3
  have cd3 : w3.cell? ⟨w.heap.size, 0, none⟩ = some (.pointer (some ⟨p, 0, none⟩)) := by rw [Kd3.out.cell]; rfl
  have HBS := hid (fun W : World => build_slots p a0 W)
  go_wp2_with (refine wpList_buildv rfl 141 _ rfl [(0, .pointer (some ⟨p, 0, none⟩)), (1, .int .i64 a0)] rfl _ HBS.out ?_)
  clear cd3
  have c1 := (Below.refl w3.heap.size w3).alloc (Nat.le_refl _) (.cells (slC p a0 0 (.slice none 0 0) false) 141 (0, 0))
  have c2 := c1.alloc c1.size (.cells #[.pointer (some ⟨w3.heap.size, 0, none⟩)] 73 (0, 0))
  have c3 := c2.alloc c2.size (.cells #[.int .i64 a0, .int .i64 ((a0 : Int) + 1)] 3 (0, 0))
  have Kq4 := hid (((Blk.new (w := w3) (n := w3.heap.size) rfl (slC p a0 0 (.slice none 0 0) false) 141).old (.cells #[.pointer (some ⟨w3.heap.size, 0, none⟩)] 73 (0, 0))).old (.cells #[.int .i64 a0, .int .i64 ((a0 : Int) + 1)] 3 (0, 0)))
  have Ks4 := hid ((Blk.new (w := (w3.alloc (.cells (slC p a0 0 (.slice none 0 0) false) 141 (0, 0)))) (n := w3.heap.size + 1) (by simp only [World.size_alloc]) #[.pointer (some ⟨w3.heap.size, 0, none⟩)] 73).old (.cells #[.int .i64 a0, .int .i64 ((a0 : Int) + 1)] 3 (0, 0)))
  have Ki4 := hid (Blk.new (w := ((w3.alloc (.cells (slC p a0 0 (.slice none 0 0) false) 141 (0, 0))).alloc (.cells #[.pointer (some ⟨w3.heap.size, 0, none⟩)] 73 (0, 0)))) (n := w3.heap.size + 1 + 1) (by simp only [World.size_alloc]) #[.int .i64 a0, .int .i64 ((a0 : Int) + 1)] 3)
  have HB4 := hid (Below.on HB3.out c3)
  have Kd4 := hid (Kd3.out.below c3)
  have HD4 := hid (HD3.out.below c3)
  have hkl := Kd3.out.lt
  have hpl := hd.kp.lt
  have hbl := hd.kb.lt
  clear c1 c2 c3
  go_loopw [46] (fun iv wr => ∃ (k : Nat) (ta : Option Addr) (tn tc : Nat), k ≤ 2 ∧ iv = .int .i64 k ∧ Blk wr w.heap.size #[.pointer (some ⟨p, 0, none⟩)] 30 ∧ Blk wr (w3.heap.size + 1) #[.pointer (some ⟨w3.heap.size, 0, none⟩)] 73 ∧ Blk wr (w3.heap.size + 1 + 1) #[.int .i64 a0, .int .i64 ((a0 : Int) + 1)] 3 ∧ Blk wr (w3.heap.size) (slC p a0 (stepS z B a0 k).1 (.slice ta tn tc) false) 141 ∧ TextQ wr w.heap.size (w3.heap.size) ta tn tc (stepS z B a0 k).2 ∧ DkAt wr p bb z n B (.slice none 0 0) true set af kv ∧ Below w.heap.size w wr) (fun iv _ => 2 - (intOf iv).toNat)
  case atStart => exact ⟨0, none, 0, 0, by omega, rfl, Kd4.out, Ks4.out, Ki4.out, Kq4.out, TextQ.nil _ _ _, HD4.out, HB4.out⟩
  case round =>
    obtain ⟨k, ta, tn, tc, hk, rfl, kd, ks, ki, kq, ht, hdr, bel⟩ := hrel
    have Kdr := hid kd
    have Ksr := hid ks
    have Kir := hid ki
    have Kqr := hid kq
    have HTr := hid ht
    have HDr := hid hdr
    have HBr := hid bel
    have hsr := bel.size
    clear kd ks ki kq ht hdr bel
    rcases (show k = 0 ∨ k = 1 ∨ k = 2 by omega) with rfl | rfl | rfl
    · skip
      have C1 := open1_any wr w.heap.size (w3.heap.size + 1) (w3.heap.size) p bb z n B set af kv a0 (stepS z B a0 0).1 ta tn tc (stepS z B a0 0).2 w.heap.size (a0 + 0) HDr.out Kdr.out Ksr.out Kqr.out HTr.out hsr (by omega) h18 (by omega)
      rw [show ((a0 + 0 : Nat) : Int) = (a0 : Int) from by omega] at C1
      have CC := hid C1
      clear C1
      have ci : wr.cell? ⟨w3.heap.size + 1 + 1, 0, none⟩ = some (.int .i64 a0) := by rw [Kir.out.cell]; rfl
      go_wp2_with fail
      refine CC.out.mono ?_
      rintro e w5 ⟨rfl, b5, ta', tn', tc', k5, t5⟩
      have Kd5 := hid (b5.blk Kdr.out (by omega))
      have Ks5 := hid (b5.blk Ksr.out (by omega))
      have Ki5 := hid (b5.blk Kir.out (by omega))
      have HD5 := hid (HDr.out.but b5 (by omega) (by omega))
      have HB5 := hid (b5.below HBr.out hsr (by omega))
      have Kq5 := hid k5
      have HT5 := hid t5
      clear b5 k5 t5
      go_wp2_with fail
      exact ⟨⟨1, ta', tn', tc', by omega, by first | rfl | simp, Kd5.out, Ks5.out, Ki5.out, Kq5.out, HT5.out, HD5.out, HB5.out⟩, by simp [intOf]⟩
    · skip
      have C1 := open1_any wr w.heap.size (w3.heap.size + 1) (w3.heap.size) p bb z n B set af kv a0 (stepS z B a0 1).1 ta tn tc (stepS z B a0 1).2 w.heap.size (a0 + 1) HDr.out Kdr.out Ksr.out Kqr.out HTr.out hsr (by omega) h18 (by omega)
      rw [show ((a0 + 1 : Nat) : Int) = (a0 : Int) + 1 from by omega] at C1
      have CC := hid C1
      clear C1
      have ci : wr.cell? ⟨w3.heap.size + 1 + 1, 1, none⟩ = some (.int .i64 ((a0 : Int) + 1)) := by rw [Kir.out.cell]; rfl
      go_wp2_with fail
      refine CC.out.mono ?_
      rintro e w5 ⟨rfl, b5, ta', tn', tc', k5, t5⟩
      have Kd5 := hid (b5.blk Kdr.out (by omega))
      have Ks5 := hid (b5.blk Ksr.out (by omega))
      have Ki5 := hid (b5.blk Kir.out (by omega))
      have HD5 := hid (HDr.out.but b5 (by omega) (by omega))
      have HB5 := hid (b5.below HBr.out hsr (by omega))
      have Kq5 := hid k5
      have HT5 := hid t5
      clear b5 k5 t5
      go_wp2_with fail
      exact ⟨⟨2, ta', tn', tc', by omega, by first | rfl | simp, Kd5.out, Ks5.out, Ki5.out, Kq5.out, HT5.out, HD5.out, HB5.out⟩, by simp [intOf]⟩
    · skip
      have cs : wr.cell? ⟨w3.heap.size + 1, 0, none⟩ = some (.pointer (some ⟨w3.heap.size, 0, none⟩)) := by rw [Ksr.out.cell]; rfl
      go_wp2_with fail
      go_returns
      exact ⟨_, _, _, _, rfl, hs3, HBr.out, Kqr.out, HTr.out⟩
end Go.Proofs.YtpinamdgbijjlaaGreatDoor
namespace Go.Proofs.YtpinamdgbijjlaaGreatDoor
set_option maxRecDepth 100000
open Go.ChangeShapes Go.WideShapes Go.ChangeAt Go.RowKit
/-- The bytes of a slot. -/
def slotB (z u : Nat) (b : List Int) : List Int := be 8 u ++ (be 2 b.length ++ (b ++ (List.replicate (z - 18 - b.length) 0 ++ be 8 u)))
theorem slotB_length {z u : Nat} {b : List Int} (h : b.length + 18 ≤ z) : (slotB z u b).length = z := by
  unfold slotB
  simp only [List.length_append, be_length, List.length_replicate]
  omega
theorem tmod_two (u : Nat) : Int.tmod (u : Int) 2 = ((u % 2 : Nat) : Int) := by
  rw [Int.tmod_eq_emod_of_nonneg (by omega)]; omega
set_option maxHeartbeats 4000000 in
theorem swrite_ok (w : World) (q p bb z n : Nat) (B : List Int) (af : Int) (kv : Value) (a0 T u : Nat) (tv : Value) (st : Bool) (ba : Option Addr) (bn bc : Nat) (b : List Int) (hd : DkAt w p bb z n B (.slice none 0 0) true false af kv) (hk : Blk w q (slC p a0 T tv st) 141) (hT : TextAt w ba bn bc b) (hbn : bn + 18 ≤ z) (ha : a0 + 2 ≤ n) (hu : u < 9223372036854775807) (hqp : q ≠ p ∧ q ≠ bb) :
    Calls Tryz.prog 145 #[.pointer (some ⟨q, 0, none⟩), .int .i64 u, .slice ba bn bc] w fun e w' => e = .returned (.int .i64 0) ∧ FlowB.ButIn [p, bb] w w' ∧ DkAt w' p bb z n (putS z (a0 + u % 2) (slotB z u b) z B) (.slice none 0 0) true false af kv := by
  have Hb := hid (Below.refl w.heap.size w)
  have Ks := hid hk
  have HD := hid hd
  have HT := hid hT
  have hz2 := hd.z2
  have hn2 := hd.n2
  have hbl := hT.length
  have hbs := hT.small
  have hbm := hT.max
  have hbe := hT.le
  have qu : (u : Int) % 18446744073709551616 = u := by omega
  have qm := tmod_two u
  obtain ⟨Z, hZ⟩ : ∃ Z : List Int, Z = List.replicate (z - 18 - bn) 0 := ⟨_, rfl⟩
  have hmk0 := fun W : World => make_bytes (z - 18 - bn) (by omega) W
  rw [← hZ] at hmk0
  have HMK := hid hmk0
  have HZL := hid hZ
  have HZS := hid (show ∀ x ∈ Z, 0 ≤ x ∧ x < 256 from fun x hx => by rw [hZ, List.mem_replicate] at hx; omega)
  clear hk hT hd hmk0 hZ
  go_enter Tryz.func145, Tryz.ntmps145
  go_wp2_with fail
  refine wp_region_flow 10 (List.range 10) [] [] (by kernel_rfl) (by kernel_rfl) ?_
  apply Exists.intro
  refine ⟨fun w0 hb0 hF0 => ?_, ?_⟩
  · skip
    have y1 : ∀ w', (∃ x : Ext w0, w' = x.at_) → w'.cell? ⟨q, 1, none⟩ = some (.int .i64 a0) := fun w' ⟨x, hx⟩ => by rw [hx, ((Ks.out.below hb0).below x.same).cell]; rfl
    simp only [pick, List.range, List.range.loop, List.getElem?_toArray, List.getElem?_cons_succ, List.getElem?_cons_zero, Option.toList_some, List.cons_append, List.nil_append]
    repeat (first | (go_big_quiet_want; refine quiet_load_one_s 3 _ rfl ⟨q, 1, none⟩ rfl _ y1 _ Tryz.underlying3 rfl ?_; go_big_quiet_on; simp only [Act.put, List.setIfInBounds_toArray, List.set_cons_zero, List.set_cons_succ]) | go_big_quiet_step (fail))
    exact wpQuiet_nil rfl
  refine AlChk.nil ?_
  refine Walk.fin fun w1 h1 _ _ => ?_
  simp only [List.drop_succ_cons, List.drop_zero]
  have HB1 := hid h1
  have Ks1 := hid (Ks.out.below h1)
  have HD1 := hid (HD.out.below h1)
  have HT1 := hid (HT.out.below h1)
  clear h1
  rcases (show u % 2 = 0 ∨ u % 2 = 1 by omega) with hpar | hpar
  · skip
    rw [hpar] at qm
    have ci : ∀ W : World, Blk W q (slC p a0 T tv st) 141 → W.cell? ⟨q, 0, none⟩ = some (.pointer (some ⟨p, 0, none⟩)) := fun W k => by rw [k.cell]; rfl
    have CI := hid ci
    clear ci
    go_wp2_with fail
    refine (number_any u 8 8 _ (by omega) (by omega) (by decide)).mono ?_
    rintro e w2 ⟨g1, hg1, rfl, b2, m2⟩
    have HB2 := hid (Below.on HB1.out b2)
    have Ks2 := hid (Ks1.out.below b2)
    have HD2 := hid (HD1.out.below b2)
    have HT2 := hid (HT1.out.below b2)
    have HM2 := hid m2
    clear b2 m2
    go_wp2_with fail
    refine (room_any _ q p a0 T tv st bb z n B (.slice none 0 0) true false af kv HD2.out Ks2.out (by omega)).mono ?_
    rintro e w3 ⟨rfl, b3⟩
    have HB3 := hid (Below.on HB2.out b3)
    have Ks3 := hid (Ks2.out.below b3)
    have HD3 := hid (HD2.out.below b3)
    have HT3 := hid (HT2.out.below b3)
    have HM3 := hid (HM2.out.below b3)
    clear b3
    have hmk : ∀ W : World, (Instr.makeSlice 56 (.int .i64 ((z : Int) - 18 - (bn : Int))) (.int .i64 ((z : Int) - 18 - (bn : Int)))).run Tryz.prog W = .ok (.slice (some ⟨W.heap.size, 0, none⟩) (z - 18 - bn) (z - 18 - bn)) (W.alloc (.cells (Z.map (Value.int .u8)).toArray 5)) := fun W => by
      have := HMK.out W
      rw [show ((z - 18 - bn : Nat) : Int) = (z : Int) - 18 - (bn : Int) by omega] at this
      exact this
    have ql : (bn : Int) % 18446744073709551616 = bn := by omega
    go_wp2_with fail
    have z4 := (Below.refl w3.heap.size w3).alloc (Nat.le_refl _) (.cells (Z.map (Value.int .u8)).toArray 5 (0, 0))
    have HZ := hid (Blk.new (w := w3) (n := w3.heap.size) rfl (Z.map (Value.int .u8)).toArray 5)
    have HB4 := hid (Below.on HB3.out z4)
    have Ks4 := hid (Ks3.out.below z4)
    have HD4 := hid (HD3.out.below z4)
    have HT4 := hid (HT3.out.below z4)
    have HM4 := hid (HM3.out.below z4)
    clear z4 hmk
    refine (number_any bn 2 2 _ (by omega) (by omega) (by decide)).mono ?_
    rintro e w5 ⟨g2, hg2, rfl, b5, m5⟩
    have HB5 := hid (Below.on HB4.out b5)
    have Ks5 := hid (Ks4.out.below b5)
    have HD5 := hid (HD4.out.below b5)
    have HT5 := hid (HT4.out.below b5)
    have HM5 := hid (HM4.out.below b5)
    have HZ5 := hid (HZ.out.below b5)
    have HN5 := hid m5
    have hs5 := HB5.out.size
    clear b5 m5
    go_wp2_with fail
    have c6 := (Below.refl w5.heap.size w5).alloc (Nat.le_refl _) (.cells #[.slice (some ⟨g1, 0, none⟩) 8 8, .slice (some ⟨g2, 0, none⟩) 2 2, .slice ba bn bc, .slice (some ⟨w3.heap.size, 0, none⟩) (z - 18 - bn) (z - 18 - bn), .slice (some ⟨g1, 0, none⟩) 8 8] 56 (0, 0))
    have Kc := hid (Blk.new (w := w5) (n := w5.heap.size) rfl #[.slice (some ⟨g1, 0, none⟩) 8 8, .slice (some ⟨g2, 0, none⟩) 2 2, .slice ba bn bc, .slice (some ⟨w3.heap.size, 0, none⟩) (z - 18 - bn) (z - 18 - bn), .slice (some ⟨g1, 0, none⟩) 8 8] 56)
    have HB6 := hid (Below.on HB5.out c6)
    have Ks6 := hid (Ks5.out.below c6)
    have HD6 := hid (HD5.out.below c6)
    have HT6 := hid (HT5.out.below c6)
    have HM6 := hid (HM5.out.below c6)
    have HZ6 := hid (HZ5.out.below c6)
    have HN6 := hid (HN5.out.below c6)
    clear c6
    have hcat := concat_any (some ⟨w5.heap.size, 0, none⟩) 5 5 [be 8 u, be 2 bn, b, Z, be 8 u] _ (TextsAt.of_blk Kc.out rfl (Nat.le_refl _) (by omega) fun j hj => by
      match j, hj with
      | 0, _ => exact ⟨_, _, _, rfl, TextAt.of_ints HM6.out (be_length _ _) (by omega) (be_small _ _)⟩
      | 1, _ => exact ⟨_, _, _, rfl, TextAt.of_ints HN6.out (be_length _ _) (by omega) (be_small _ _)⟩
      | 2, _ => exact ⟨_, _, _, rfl, HT6.out⟩
      | 3, _ => exact ⟨_, _, _, rfl, TextAt.of_ints HZ6.out (by rw [HZL.out]; simp) (by omega) HZS.out⟩
      | 4, _ => exact ⟨_, _, _, rfl, TextAt.of_ints HM6.out (be_length _ _) (by omega) (be_small _ _)⟩) (by simp only [sumLen, List.map_cons, List.map_nil, List.sum_cons, List.sum_nil, be_length]; rw [show Z.length = z - 18 - bn by rw [HZL.out]; simp]; omega)
    rw [show ([be 8 u, be 2 bn, b, Z, be 8 u] : List (List Int)).flatten = slotB z u b by unfold slotB; rw [hbl, HZL.out]; simp] at hcat
    have hsb := slotB_length (z := z) (u := u) (b := b) (by omega)
    refine hcat.mono ?_
    clear hcat
    rintro e w7 ⟨v7, rfl, b7, t7⟩
    obtain ⟨sa, sn, sc, rfl, t7⟩ := t7
    obtain rfl : z = sn := by rw [← hsb, t7.length]
    have HB7 := hid (Below.on HB6.out b7)
    have Ks7 := hid (Ks6.out.below b7)
    have HD7 := hid (HD6.out.below b7)
    have HS7 := hid t7
    have hs7 := HB7.out.size
    clear b7 t7
    have ci7 := CI.out _ Ks7.out
    go_wp2_with fail
    clear ci7
    have CW := write_first w7 p bb z n B af kv HD7.out (a0) (by omega) sa sc (slotB z u b) HS7.out
    refine CW.mono ?_
    rintro e w8 ⟨wa, wc, rfl, b8, bp8, d8, k8⟩
    have HX8 := hid (ButIn.on (ButIn.of_below HB7.out) b8)
    have HD8 := hid d8
    have HK8 := hid k8
    have Ks8 := hid (b8.blk Ks7.out (by simp; omega))
    clear b8 d8 k8 bp8 CW
    have ci8 := CI.out _ Ks8.out
    go_wp2_with fail
    clear ci8
    have CY := sync_any w8 p bb z n B af kv wa wc [(a0, slotB z u b)] HD8.out HK8.out (by
      intro x hx
      simp only [List.mem_singleton] at hx
      subst hx
      exact ⟨by show a0 < n; omega, hsb⟩) (by simp)
    refine CY.mono ?_
    rintro e w9 ⟨rfl, b9, d9⟩
    have HX9 := hid (ButIn.on HX8.out b9)
    have HD9 := hid d9
    clear b9 d9 CY
    go_wp2_with fail
    go_returns
    rw [hpar]
    exact ⟨rfl, HX9.out, HD9.out⟩
  · skip
    rw [hpar] at qm
    have ci : ∀ W : World, Blk W q (slC p a0 T tv st) 141 → W.cell? ⟨q, 0, none⟩ = some (.pointer (some ⟨p, 0, none⟩)) := fun W k => by rw [k.cell]; rfl
    have CI := hid ci
    clear ci
    go_wp2_with fail
    refine (number_any u 8 8 _ (by omega) (by omega) (by decide)).mono ?_
    rintro e w2 ⟨g1, hg1, rfl, b2, m2⟩
    have HB2 := hid (Below.on HB1.out b2)
    have Ks2 := hid (Ks1.out.below b2)
    have HD2 := hid (HD1.out.below b2)
    have HT2 := hid (HT1.out.below b2)
    have HM2 := hid m2
    clear b2 m2
    go_wp2_with fail
    refine (room_any _ q p a0 T tv st bb z n B (.slice none 0 0) true false af kv HD2.out Ks2.out (by omega)).mono ?_
    rintro e w3 ⟨rfl, b3⟩
    have HB3 := hid (Below.on HB2.out b3)
    have Ks3 := hid (Ks2.out.below b3)
    have HD3 := hid (HD2.out.below b3)
    have HT3 := hid (HT2.out.below b3)
    have HM3 := hid (HM2.out.below b3)
    clear b3
    have hmk : ∀ W : World, (Instr.makeSlice 56 (.int .i64 ((z : Int) - 18 - (bn : Int))) (.int .i64 ((z : Int) - 18 - (bn : Int)))).run Tryz.prog W = .ok (.slice (some ⟨W.heap.size, 0, none⟩) (z - 18 - bn) (z - 18 - bn)) (W.alloc (.cells (Z.map (Value.int .u8)).toArray 5)) := fun W => by
      have := HMK.out W
      rw [show ((z - 18 - bn : Nat) : Int) = (z : Int) - 18 - (bn : Int) by omega] at this
      exact this
    have ql : (bn : Int) % 18446744073709551616 = bn := by omega
    go_wp2_with fail
    have z4 := (Below.refl w3.heap.size w3).alloc (Nat.le_refl _) (.cells (Z.map (Value.int .u8)).toArray 5 (0, 0))
    have HZ := hid (Blk.new (w := w3) (n := w3.heap.size) rfl (Z.map (Value.int .u8)).toArray 5)
    have HB4 := hid (Below.on HB3.out z4)
    have Ks4 := hid (Ks3.out.below z4)
    have HD4 := hid (HD3.out.below z4)
    have HT4 := hid (HT3.out.below z4)
    have HM4 := hid (HM3.out.below z4)
    clear z4 hmk
    refine (number_any bn 2 2 _ (by omega) (by omega) (by decide)).mono ?_
    rintro e w5 ⟨g2, hg2, rfl, b5, m5⟩
    have HB5 := hid (Below.on HB4.out b5)
    have Ks5 := hid (Ks4.out.below b5)
    have HD5 := hid (HD4.out.below b5)
    have HT5 := hid (HT4.out.below b5)
    have HM5 := hid (HM4.out.below b5)
    have HZ5 := hid (HZ.out.below b5)
    have HN5 := hid m5
    have hs5 := HB5.out.size
    clear b5 m5
    go_wp2_with fail
    have c6 := (Below.refl w5.heap.size w5).alloc (Nat.le_refl _) (.cells #[.slice (some ⟨g1, 0, none⟩) 8 8, .slice (some ⟨g2, 0, none⟩) 2 2, .slice ba bn bc, .slice (some ⟨w3.heap.size, 0, none⟩) (z - 18 - bn) (z - 18 - bn), .slice (some ⟨g1, 0, none⟩) 8 8] 56 (0, 0))
    have Kc := hid (Blk.new (w := w5) (n := w5.heap.size) rfl #[.slice (some ⟨g1, 0, none⟩) 8 8, .slice (some ⟨g2, 0, none⟩) 2 2, .slice ba bn bc, .slice (some ⟨w3.heap.size, 0, none⟩) (z - 18 - bn) (z - 18 - bn), .slice (some ⟨g1, 0, none⟩) 8 8] 56)
    have HB6 := hid (Below.on HB5.out c6)
    have Ks6 := hid (Ks5.out.below c6)
    have HD6 := hid (HD5.out.below c6)
    have HT6 := hid (HT5.out.below c6)
    have HM6 := hid (HM5.out.below c6)
    have HZ6 := hid (HZ5.out.below c6)
    have HN6 := hid (HN5.out.below c6)
    clear c6
    have hcat := concat_any (some ⟨w5.heap.size, 0, none⟩) 5 5 [be 8 u, be 2 bn, b, Z, be 8 u] _ (TextsAt.of_blk Kc.out rfl (Nat.le_refl _) (by omega) fun j hj => by
      match j, hj with
      | 0, _ => exact ⟨_, _, _, rfl, TextAt.of_ints HM6.out (be_length _ _) (by omega) (be_small _ _)⟩
      | 1, _ => exact ⟨_, _, _, rfl, TextAt.of_ints HN6.out (be_length _ _) (by omega) (be_small _ _)⟩
      | 2, _ => exact ⟨_, _, _, rfl, HT6.out⟩
      | 3, _ => exact ⟨_, _, _, rfl, TextAt.of_ints HZ6.out (by rw [HZL.out]; simp) (by omega) HZS.out⟩
      | 4, _ => exact ⟨_, _, _, rfl, TextAt.of_ints HM6.out (be_length _ _) (by omega) (be_small _ _)⟩) (by simp only [sumLen, List.map_cons, List.map_nil, List.sum_cons, List.sum_nil, be_length]; rw [show Z.length = z - 18 - bn by rw [HZL.out]; simp]; omega)
    rw [show ([be 8 u, be 2 bn, b, Z, be 8 u] : List (List Int)).flatten = slotB z u b by unfold slotB; rw [hbl, HZL.out]; simp] at hcat
    have hsb := slotB_length (z := z) (u := u) (b := b) (by omega)
    refine hcat.mono ?_
    clear hcat
    rintro e w7 ⟨v7, rfl, b7, t7⟩
    obtain ⟨sa, sn, sc, rfl, t7⟩ := t7
    obtain rfl : z = sn := by rw [← hsb, t7.length]
    have HB7 := hid (Below.on HB6.out b7)
    have Ks7 := hid (Ks6.out.below b7)
    have HD7 := hid (HD6.out.below b7)
    have HS7 := hid t7
    have hs7 := HB7.out.size
    clear b7 t7
    have ci7 := CI.out _ Ks7.out
    go_wp2_with fail
    clear ci7
    have CW := write_first w7 p bb z n B af kv HD7.out (a0 + 1) (by omega) sa sc (slotB z u b) HS7.out
    rw [show ((a0 + 1 : Nat) : Int) = (a0 : Int) + 1 by omega] at CW
    refine CW.mono ?_
    rintro e w8 ⟨wa, wc, rfl, b8, bp8, d8, k8⟩
    have HX8 := hid (ButIn.on (ButIn.of_below HB7.out) b8)
    have HD8 := hid d8
    have HK8 := hid k8
    have Ks8 := hid (b8.blk Ks7.out (by simp; omega))
    clear b8 d8 k8 bp8 CW
    have ci8 := CI.out _ Ks8.out
    go_wp2_with fail
    clear ci8
    have CY := sync_any w8 p bb z n B af kv wa wc [(a0 + 1, slotB z u b)] HD8.out HK8.out (by
      intro x hx
      simp only [List.mem_singleton] at hx
      subst hx
      exact ⟨by show a0 + 1 < n; omega, hsb⟩) (by simp)
    refine CY.mono ?_
    rintro e w9 ⟨rfl, b9, d9⟩
    have HX9 := hid (ButIn.on HX8.out b9)
    have HD9 := hid d9
    clear b9 d9 CY
    go_wp2_with fail
    go_returns
    rw [hpar]
    exact ⟨rfl, HX9.out, HD9.out⟩
end Go.Proofs.YtpinamdgbijjlaaGreatDoor
namespace Go.Proofs.YtpinamdgbijjlaaGreatDoor
set_option maxRecDepth 100000
open Go.ChangeShapes Go.WideShapes Go.ChangeAt Go.RowKit
theorem DkAt.butQ {w w' : World} {p bb z n q : Nat} {B : List Int} {wv : Value} {on set : Bool} {af : Int} {kv : Value} (h : DkAt w p bb z n B wv on set af kv) (hb : FlowB.ButIn [q] w w') (h1 : p ≠ q) (h2 : bb ≠ q) : DkAt w' p bb z n B wv on set af kv :=
  ⟨hb.blk h.kp (by simpa using h1), hb.blk h.kb (by simpa using h2), h.ne, h.len, h.z1, h.z2, h.n1, h.n2, h.small⟩
theorem ButIn.wide {S S' : List Nat} {w w' : World} (h : FlowB.ButIn S w w') (hs : ∀ b ∈ S, b ∈ S') : FlowB.ButIn S' w w' := ⟨h.os, h.tape, h.output, h.size, fun k hk hn => h.block k hk (fun e => hn (hs _ e))⟩
set_option maxHeartbeats 4000000 in
theorem replace_ok (w : World) (q p bb z n : Nat) (B : List Int) (af : Int) (kv : Value) (a0 T : Nat) (tv : Value) (ba : Option Addr) (bn bc : Nat) (b : List Int) (hd : DkAt w p bb z n B (.slice none 0 0) true false af kv) (hk : Blk w q (slC p a0 T tv false) 141) (hT : TextO w [p, bb, q] ba bn bc b) (hbn : bn + 18 ≤ z) (ha : a0 + 2 ≤ n) (hu : T < 9223372036854775806) (hqp : q ≠ p ∧ q ≠ bb) :
    Calls Tryz.prog 99 #[.pointer (some ⟨q, 0, none⟩), .slice ba bn bc] w fun e w' => e = .returned (.int .i64 0) ∧ FlowB.ButIn [p, bb, q] w w' ∧ DkAt w' p bb z n (putS z (a0 + (T + 1) % 2) (slotB z (T + 1) b) z B) (.slice none 0 0) true false af kv ∧ ∃ a c, Blk w' q (slC p a0 ((T : Int) + 1) (.slice a bn c) false) 141 ∧ TextAt w' a bn c b ∧ ∀ x : Addr, a = some x → w.heap.size ≤ x.block := by
  have Hb := hid (Below.refl w.heap.size w)
  have Ks := hid hk
  have HD := hid hd
  have HT := hid hT
  have hz2 := hd.z2
  have hql := hk.lt
  have hbl := hT.text.length
  clear hk hT hd
  have qr : ¬ (z : Int) - 18 < (bn : Int) := by omega
  have cq : ∀ W : World, Blk W q (slC p a0 T tv false) 141 → W.cell? ⟨q, 4, none⟩ = some (.bool false) := fun W k => by rw [k.cell]; rfl
  have ct : ∀ W : World, Blk W q (slC p a0 T tv false) 141 → W.cell? ⟨q, 2, none⟩ = some (.int .i64 T) := fun W k => by rw [k.cell]; rfl
  have CQ := hid cq
  have CT := hid ct
  clear cq ct
  go_enter Tryz.func99, Tryz.ntmps99
  go_wp2_with fail
  refine (room_any _ q p a0 T tv false bb z n B (.slice none 0 0) true false af kv HD.out Ks.out (by omega)).mono ?_
  rintro e w1 ⟨rfl, b1⟩
  have HB1 := hid b1
  have Ks1 := hid (Ks.out.below b1)
  have HD1 := hid (HD.out.below b1)
  have HT1 := hid (HT.out.butIn (ButIn.of_below b1))
  clear b1
  have c4 := CQ.out _ Ks1.out
  have c2 := CT.out _ Ks1.out
  go_wp2_with fail
  clear c4 c2
  have CW := swrite_ok w1 q p bb z n B af kv a0 T (T + 1) tv false ba bn bc b HD1.out Ks1.out HT1.out.text hbn ha (by omega) hqp
  rw [show ((T + 1 : Nat) : Int) = (T : Int) + 1 by omega] at CW
  refine CW.mono ?_
  clear CW
  rintro e w2 ⟨rfl, b2, d2⟩
  have HX2 := hid (ButIn.on (ButIn.of_below HB1.out) b2)
  have HD2 := hid d2
  have Ks2 := hid (b2.blk Ks1.out (by simp; omega))
  have HT2 := hid (HT1.out.text.butIn (S := [p, bb]) (fun x hx => by have := HT1.out.out x hx; simp at this ⊢; omega) b2)
  have hs2 := HX2.out.size
  clear b2 d2
  obtain ⟨B2, hE⟩ : ∃ B2, putS z (a0 + (T + 1) % 2) (slotB z (T + 1) b) z B = B2 := ⟨_, rfl⟩
  rw [hE] at HD2
  have HE := hid hE
  clear hE
  go_wp2_with fail
  refine wp_region_late_s 11 1 11 [0, 1, 2, 3, 4, 5, 6, 7] [] [(.c 8, [9, 10], [])] (by kernel_rfl) (by kernel_rfl) rfl (by kernel_rfl) (fun _ _ d _ _ h => by cases d <;> exact h) ?_
  simp only [late_s]
  apply Exists.intro
  refine ⟨fun w0 hb0 hF0 => ?_, ?_⟩
  · skip
    have y2 : ∀ w', (∃ x : Ext w0, w' = x.at_) → w'.cell? ⟨q, 2, none⟩ = some (.int .i64 T) := fun w' ⟨x, hx⟩ => by rw [hx]; exact CT.out _ ((Ks2.out.below hb0).below x.same)
    simp only [pick, List.getElem?_toArray, List.getElem?_cons_succ, List.getElem?_cons_zero, Option.toList_some, List.cons_append, List.nil_append]
    repeat (first | (go_big_quiet_want; refine quiet_load_one_s 3 _ rfl ⟨q, 2, none⟩ rfl _ y2 _ Tryz.underlying3 rfl ?_; go_big_quiet_on; simp only [Act.put, List.setIfInBounds_toArray, List.set_cons_zero, List.set_cons_succ]) | go_big_quiet_step (fail))
    exact wpQuiet_nil rfl
  refine AlChk.nil ?_
  refine Walk.call rfl 64 #[.slice ba bn bc] (fun v w' => ∃ a c, v = .slice a bn c ∧ TextAt w' a bn c b ∧ ∀ p : Addr, a = some p → w2.heap.size ≤ p.block) (fun v w' w'' h k => by obtain ⟨a, c, h1, h2, h3⟩ := h; exact ⟨a, c, h1, h2.below k, h3⟩) rfl (fun w1' hb1 hF1 => ⟨by go_simp, ?_⟩) ?_
  · refine (clone_any (HT2.out.below hb1) (by omega)).mono ?_
    rintro e w3 ⟨a', c', rfl, hb3, ht3, ho3⟩
    exact ⟨_, rfl, hb3, a', c', rfl, ht3, fun p hp => Nat.le_trans hb1.size (ho3 p hp).1⟩
  rintro v1 w1' hb1 hF1 ⟨a3, c3, rfl, -⟩
  apply Exists.intro
  refine ⟨fun w4 hb4 hF4 => ?_, ?_⟩
  · skip
    simp only [pick, List.getElem?_toArray, List.getElem?_cons_succ, List.getElem?_cons_zero, Option.toList_some, List.cons_append, List.nil_append, Act.put, List.setIfInBounds_toArray, List.set_cons_zero, List.set_cons_succ]
    repeat (first | go_big_quiet_step (fail))
    exact wpQuiet_nil rfl
  refine AlChk.nil ?_
  refine Walk.fin fun w5 h5 hF5 _ => ?_
  simp only [List.drop_succ_cons, List.drop_zero]
  have HX5 := hid (ButIn.on HX2.out (ButIn.of_below h5))
  have HD5 := hid (HD2.out.below h5)
  have Ks5 := hid (Ks2.out.below h5)
  have hs5 := h5.size
  obtain ⟨a4, c4, hq4, ht4, ho4⟩ := hF5.2
  cases hq4
  have HT5 := hid ht4
  have HO5 := hid ho4
  clear h5 hF5 ht4 ho4
  go_wp2_with (first
     | (
        refine wpList_store_cell_s rfl 3 _ _ rfl q 2 (.int .i64 ((T : Int) + 1)) rfl rfl rfl rfl _ 141 Ks5.out (by simp [slC]) size_dint ?_
        intro w6 hb6 hk6
        have Hq6 := hid hb6
        have Ks6 := hid (show Blk w6 q (slC p a0 ((T : Int) + 1) tv false) 141 from hk6)
        clear hb6 hk6)
     | (
        refine wpList_store_cell_s rfl 56 _ _ rfl q 3 (.slice a3 bn c3) rfl rfl rfl rfl _ 141 Ks6.out (by simp [slC]) size_dtext ?_
        intro w7 hb7 hk7
        have Hq7 := hid (But.trans Hq6.out hb7)
        have Ks7 := hid (show Blk w7 q (slC p a0 ((T : Int) + 1) (.slice a3 bn c3) false) 141 from hk7)
        clear hb7 hk7))
  have hqs := Ks2.out.lt
  go_returns
  rw [HE.out]
  refine ⟨rfl, ?_, HD5.out.but Hq7.out (Ne.symm hqp.1) (Ne.symm hqp.2), a3, c3, Ks7.out, HT5.out.butIn (S := [q]) (fun x hx => by have := HO5.out x hx; simp; omega) (ButIn.of_but Hq7.out (by simp)), fun x hx => by have := HO5.out x hx; omega⟩
  exact ButIn.on (ButIn.wide HX5.out (by simp)) (ButIn.of_but Hq7.out (by simp))
end Go.Proofs.YtpinamdgbijjlaaGreatDoor
namespace Go.Proofs.YtpinamdgbijjlaaGreatDoor
set_option maxRecDepth 100000
open Go.ChangeShapes Go.WideShapes Go.ChangeAt Go.RowKit
theorem least_gt (g k h g' k' h' : Int) (w : World) (hk : k' < k) :
    Calls Tryz.prog 109 #[.agg #[.int .i64 g, .int .i64 k, .int .i64 h], .agg #[.int .i64 g', .int .i64 k', .int .i64 h']] w fun e w' => e = .returned (.agg #[.int .i64 (max g g'), .int .i64 k, .int .i64 h]) ∧ Below w.heap.size w w' := by
  go_enter Tryz.func109, Tryz.ntmps109
  go_wp2
  all_goals
    go_returns
    refine ⟨?_, by go_grown⟩
    congr; omega
theorem least_lt (g k h g' k' h' : Int) (w : World) (hk : k < k') :
    Calls Tryz.prog 109 #[.agg #[.int .i64 g, .int .i64 k, .int .i64 h], .agg #[.int .i64 g', .int .i64 k', .int .i64 h']] w fun e w' => e = .returned (.agg #[.int .i64 (max g g'), .int .i64 k', .int .i64 h']) ∧ Below w.heap.size w w' := by
  have hk' : ¬ k' < k := by omega
  go_enter Tryz.func109, Tryz.ntmps109
  go_wp2
  all_goals
    go_returns
    refine ⟨?_, by go_grown⟩
    congr; omega
theorem least_eq (g k h g' h' : Int) (w : World) :
    Calls Tryz.prog 109 #[.agg #[.int .i64 g, .int .i64 k, .int .i64 h], .agg #[.int .i64 g', .int .i64 k, .int .i64 h']] w fun e w' => e = .returned (.agg #[.int .i64 (max g g'), .int .i64 k, .int .i64 (max h h')]) ∧ Below w.heap.size w w' := by
  go_enter Tryz.func109, Tryz.ntmps109
  go_wp2
  all_goals
    go_returns
    refine ⟨?_, by go_grown⟩
    congr <;> omega
/-- plain -/
def lk (k h k' h' : Int) : Int × Int := if k' < k then (k, h) else if k < k' then (k', h') else (k, max h h')
theorem least_any (g k h g' k' h' : Int) (w : World) :
    Calls Tryz.prog 109 #[.agg #[.int .i64 g, .int .i64 k, .int .i64 h], .agg #[.int .i64 g', .int .i64 k', .int .i64 h']] w fun e w' => e = .returned (.agg #[.int .i64 (max g g'), .int .i64 (lk k h k' h').1, .int .i64 (lk k h k' h').2]) ∧ Below w.heap.size w w' := by
  by_cases h1 : k' < k
  · simpa [lk, h1] using least_gt g k h g' k' h' w h1
  · by_cases h2 : k < k'
    · simpa [lk, h1, h2] using least_lt g k h g' k' h' w h2
    · obtain rfl : k = k' := by omega
      simpa [lk] using least_eq g k h g' h' w
theorem neq3 (a b c a' b' c' : Int) (w : World) : (binOp .neq 85 (.agg #[.int .i64 a, .int .i64 b, .int .i64 c]) (.agg #[.int .i64 a', .int .i64 b', .int .i64 c'])).run Tryz.prog w = .ok (.bool (!decide (a = a' ∧ b = b' ∧ c = c'))) w := by
  simp [go_sem] <;> by_cases h1 : a = a' <;> by_cases h2 : b = b' <;> by_cases h3 : c = c' <;> simp [h1, h2, h3]
set_option maxHeartbeats 1600000 in
theorem raise_any (b : Nat) (g k h g' k' h' : Int) (w : World) (hb : Blk w b #[.int .i64 g, .int .i64 k, .int .i64 h] 87) :
    Calls Tryz.prog 139 #[.pointer (some ⟨b, 0, none⟩), .agg #[.int .i64 g', .int .i64 k', .int .i64 h']] w fun e w' => 
      e = .returned (.agg #[.int .i64 (max g g'), .int .i64 (lk k h k' h').1, .int .i64 (lk k h k' h').2]) ∧ But b w w' ∧ Blk w' b #[.int .i64 (max g g'), .int .i64 (lk k h k' h').1, .int .i64 (lk k h k' h').2] 87 := by
  generalize hL : lk k h k' h' = L
  obtain ⟨lk1, lh1⟩ := L
  have HL := hid hL; clear hL
  generalize hG : max g g' = lg
  have HG := hid hG; clear hG
  have hlt := hb.lt
  go_enter Tryz.func139, Tryz.ntmps139
  go_wp2_with fail
  have k0 := (hb.old (Obj.cells #[.int .i64 g', .int .i64 k', .int .i64 h'] 85)).old (Obj.cells #[.int .i64 0, .int .i64 0, .int .i64 0] 85)
  have k1 := (Blk.new rfl #[.int .i64 g', .int .i64 k', .int .i64 h'] 85 : Blk (w.alloc _) _ _ _).old (Obj.cells #[.int .i64 0, .int .i64 0, .int .i64 0] 85)
  have kr := (Blk.new (by simp) #[.int .i64 0, .int .i64 0, .int .i64 0] 85 : Blk ((w.alloc (Obj.cells #[.int .i64 g', .int .i64 k', .int .i64 h'] 85)).alloc _) (w.heap.size + 1) _ _)
  have hz0 : w.heap.size + 2 ≤ ((w.alloc (Obj.cells #[.int .i64 g', .int .i64 k', .int .i64 h'] 85)).alloc (Obj.cells #[.int .i64 0, .int .i64 0, .int .i64 0] 85)).heap.size := by simp
  have bel : Below w.heap.size w ((w.alloc (Obj.cells #[.int .i64 g', .int .i64 k', .int .i64 h'] 85)).alloc (Obj.cells #[.int .i64 0, .int .i64 0, .int .i64 0] 85)) := by go_grown
  generalize (w.alloc (Obj.cells #[.int .i64 g', .int .i64 k', .int .i64 h'] 85)).alloc (Obj.cells #[.int .i64 0, .int .i64 0, .int .i64 0] 85) = w0 at k0 k1 kr bel hz0 ⊢
  refine wp_region_hda (n := 6) _ 5 #[.int .i64 0, .int .i64 0, .int .i64 0] 85 (by kernel_rfl) (by kernel_rfl) rfl rfl rfl (fun a' w' => by go_simp) ?_
  apply Exists.intro
  refine ⟨fun w1 hw1 => ?_, fun w1 b1 hw1 hb1 hblk => ?_⟩
  · have x0 := (k0.below hw1).ext
    have x1 := (k1.below hw1).ext
    simp only [List.take_succ_cons, List.take_zero]
    have hq := least_any g k h g' k' h'
    rw [HL.out, HG.out] at hq
    repeat (go_big_quiet_step ((go_at_call 109; exact Calls.ext (hq _))))
    exact wpQuiet_nil rfl
  · have hblk : Blk w1 b1 #[.int .i64 0, .int .i64 0, .int .i64 0] 85 := hblk
    have bel : Below w.heap.size w w1 := bel.trans (hw1.mono bel.size)
    have k0 := k0.below hw1
    have kr := kr.below hw1
    have c2 := hblk.cell
    have f2 := hblk.free
    simp only [List.drop_succ_cons, List.drop_zero, Act.put, List.setIfInBounds_toArray, List.set_cons_zero, List.set_cons_succ]
    go_wp2
    have hn0 : b1 ≠ b := by omega
    have hnr : b1 ≠ w.heap.size + 1 := by omega
    have k0 := ((k0.other ⟨b1, 0, none⟩ hn0 (.int .i64 lg)).other ⟨b1, 1, none⟩ hn0 (.int .i64 lk1)).other ⟨b1, 2, none⟩ hn0 (.int .i64 lh1)
    have kr := ((kr.other ⟨b1, 0, none⟩ hnr (.int .i64 lg)).other ⟨b1, 1, none⟩ hnr (.int .i64 lk1)).other ⟨b1, 2, none⟩ hnr (.int .i64 lh1)
    have k2 := ((hblk.set 0 (Value.int IntKind.i64 lg)).set 1 (Value.int IntKind.i64 lk1)).set 2 (Value.int IntKind.i64 lh1)
    have bel := ((bel.setCell (p := ⟨b1, 0, none⟩) (by simp; omega) (.int .i64 lg)).setCell (p := ⟨b1, 1, none⟩) (by simp; omega) (.int .i64 lk1)).setCell (p := ⟨b1, 2, none⟩) (by simp; omega) (.int .i64 lh1)
    simp only [List.setIfInBounds_toArray, List.set_cons_zero, List.set_cons_succ] at k2
    generalize ((w1.setCell ⟨b1, 0, none⟩ (Value.int IntKind.i64 lg)).setCell ⟨b1, 1, none⟩ (Value.int IntKind.i64 lk1)).setCell ⟨b1, 2, none⟩ (Value.int IntKind.i64 lh1) = w2 at k0 k2 kr bel ⊢
    clear c2 f2 hblk hw1
    refine wp_region_ext (by kernel_rfl) (by kernel_rfl) ?_
    have x0 := k0.ext
    have x2 := k2.ext
    have hn := fun w => neq3 lg lk1 lh1 g k h w
    by_cases heq : lg = g ∧ lk1 = k ∧ lh1 = h
    · obtain ⟨rfl, rfl, rfl⟩ := heq
      simp only [true_and, decide_true, Bool.not_true] at hn
      repeat (go_big_quiet_step (fail))
      refine wpQuiet_nil ?_
      rintro _ ⟨y, rfl⟩
      have c0 := (k0.below y.same).cell
      have cr := (kr.below y.same).cell
      have fr := (kr.below y.same).free
      clear x0 x2 hn
      go_wp2
      have bel := bel.trans (y.same.mono bel.size)
      have hk := (((k0.below y.same).other ⟨w.heap.size + 1, 0, none⟩ (by simp; omega) (.int .i64 lg)).other ⟨w.heap.size + 1, 1, none⟩ (by simp; omega) (.int .i64 lk1)).other ⟨w.heap.size + 1, 2, none⟩ (by simp; omega) (.int .i64 lh1)
      have kr := (((kr.below y.same).set 0 (Value.int IntKind.i64 lg)).set 1 (Value.int IntKind.i64 lk1)).set 2 (Value.int IntKind.i64 lh1)
      have bel := ((bel.setCell (p := ⟨w.heap.size + 1, 0, none⟩) (by simp) (.int .i64 lg)).setCell (p := ⟨w.heap.size + 1, 1, none⟩) (by simp) (.int .i64 lk1)).setCell (p := ⟨w.heap.size + 1, 2, none⟩) (by simp) (.int .i64 lh1)
      simp only [List.setIfInBounds_toArray, List.set_cons_zero, List.set_cons_succ] at kr
      have cr := kr.cell
      generalize ((y.at_.setCell ⟨w.heap.size + 1, 0, none⟩ (.int .i64 lg)).setCell ⟨w.heap.size + 1, 1, none⟩ (.int .i64 lk1)).setCell ⟨w.heap.size + 1, 2, none⟩ (.int .i64 lh1) = w3 at hk cr bel ⊢
      exact bodyPost_ret (v := .agg #[.int .i64 lg, .int .i64 lk1, .int .i64 lh1]) (by simp [results, Tryz.results139, go_sem, cr]) rfl ⟨rfl, But.of bel, hk⟩
    · simp only [heq, decide_false, Bool.not_false] at hn
      repeat (go_big_quiet_step (fail))
      refine wpQuiet_nil ?_
      rintro _ ⟨y, rfl⟩
      have c0 := (k0.below y.same).cell
      have f0 := (k0.below y.same).free
      have c2 := (k2.below y.same).cell
      have cr := (kr.below y.same).cell
      have fr := (kr.below y.same).free
      have hnb : ¬ w.heap.size + 1 = b := by omega
      have hnb' : ¬ b = w.heap.size + 1 := by omega
      clear x0 x2 hn heq
      go_wp2_with fail
      have bel := bel.trans (y.same.mono bel.size)
      have hk := (((((k0.below y.same).set 0 (Value.int IntKind.i64 lg)).set 1 (Value.int IntKind.i64 lk1)).set 2 (Value.int IntKind.i64 lh1)).other ⟨w.heap.size + 1, 0, none⟩ (by simp; omega) (.int .i64 lg)).other ⟨w.heap.size + 1, 1, none⟩ (by simp; omega) (.int .i64 lk1) |>.other ⟨w.heap.size + 1, 2, none⟩ (by simp; omega) (.int .i64 lh1)
      have but := (((But.of (b := b) bel).set (p := ⟨b, 0, none⟩) (.inl rfl) (Value.int IntKind.i64 lg)).set (p := ⟨b, 1, none⟩) (.inl rfl) (Value.int IntKind.i64 lk1)).set (p := ⟨b, 2, none⟩) (.inl rfl) (Value.int IntKind.i64 lh1)
      have but := ((but.set (p := ⟨w.heap.size + 1, 0, none⟩) (.inr (by simp)) (Value.int IntKind.i64 lg)).set (p := ⟨w.heap.size + 1, 1, none⟩) (.inr (by simp)) (Value.int IntKind.i64 lk1)).set (p := ⟨w.heap.size + 1, 2, none⟩) (.inr (by simp)) (Value.int IntKind.i64 lh1)
      have kr := ((((((kr.below y.same).other ⟨b, 0, none⟩ hnb' (Value.int IntKind.i64 lg)).other ⟨b, 1, none⟩ hnb' (Value.int IntKind.i64 lk1)).other ⟨b, 2, none⟩ hnb' (Value.int IntKind.i64 lh1)).set 0 (Value.int IntKind.i64 lg)).set 1 (Value.int IntKind.i64 lk1)).set 2 (Value.int IntKind.i64 lh1)
      simp only [List.setIfInBounds_toArray, List.set_cons_zero, List.set_cons_succ] at kr hk
      have cr := kr.cell
      exact bodyPost_ret (v := .agg #[.int .i64 lg, .int .i64 lk1, .int .i64 lh1]) (by simp [results, Tryz.results139, go_sem, cr]) rfl ⟨rfl, but, hk⟩
theorem marks_any (b : Nat) (g k h : Int) (T : TypeId) (w : World) (hb : Blk w b #[.int .i64 g, .int .i64 k, .int .i64 h] T) :
    Calls Tryz.prog 108 #[.pointer (some ⟨b, 0, none⟩)] w fun e w' => e = .returned (.agg #[.int .i64 g, .int .i64 k, .int .i64 h]) ∧ Below w.heap.size w w' := by
  have hc := (hb.old (Obj.cells #[Value.int IntKind.i64 0, Value.int IntKind.i64 0, Value.int IntKind.i64 0] 85)).cell
  go_enter Tryz.func108, Tryz.ntmps108
  go_wp2
  go_returns
  exact ⟨rfl, by go_grown⟩
theorem new_any (w : World) :
    Calls Tryz.prog 8 #[] w fun e w' => e = .returned (.pointer (some ⟨w.heap.size, 0, none⟩)) ∧ Below w.heap.size w w' ∧ Blk w' w.heap.size #[.int .i64 0, .int .i64 0, .int .i64 0] 87 := by
  go_enter Tryz.func8, Tryz.ntmps8
  go_wp2
  go_ret
  exact ⟨rfl, by go_grown, Blk.new rfl _ _⟩
end Go.Proofs.YtpinamdgbijjlaaGreatDoor
namespace Go.Proofs.YtpinamdgbijjlaaGreatDoor
set_option maxRecDepth 100000
open Go.ChangeShapes Go.WideShapes Go.ChangeAt Go.RowKit
/-- A row of cells of the call's own. -/
def OwnV (w : World) (base : Nat) (e : TypeId) (v : Value) (xs : List Value) : Prop := w.ownsRow base e 1 v xs.length xs ∧ ∀ x ∈ xs, x.oneCell' = true
theorem OwnV.nil (w : World) (base : Nat) (e : TypeId) : OwnV w base e (.slice none 0 0) [] := ⟨World.ownsRow_nil w base e 1, by simp⟩
theorem OwnV.below {w w' : World} {base : Nat} {e : TypeId} {v : Value} {xs : List Value} (h : OwnV w base e v xs) (hb : Below w.heap.size w w') : OwnV w' base e v xs := ⟨owns_below h.1 hb, h.2⟩
theorem OwnV.lt {w : World} {base : Nat} {e : TypeId} {v : Value} {xs : List Value} (h : OwnV w base e v xs) : ∀ k, v.ownBlock = some k → base ≤ k ∧ k < w.heap.size := h.1.lt
/-- One cell more. -/
theorem run_append_v {w : World} {base : Nat} {t e : TypeId} {i : TypeInfo} {z : Value} {v : Value} {xs : List Value} (ty : TypeId) (ht : Tryz.prog.underlying t = some (.slice e)) (hi : Tryz.prog.info? e = some i) (hz : i.zero = some z) (hzs : z.cells.size = 1) (hsize : i.size = 1) (hby : i.bytes ≤ 24) (hown : OwnV w base e v xs) {b : Nat} {x : Value} {T : TypeId} (hk : Blk w b #[x] T) (hx : x.oneCell' = true) (hb : xs.length ≤ 1000000000) (hbase : base ≤ w.heap.size) :
    ∃ v' w', (Builtin.append_ #[t, t] ty #[v, .slice (some ⟨b, 0, none⟩) 1 1]).run Tryz.prog w = .ok v' w' ∧ OwnV w' base e v' (xs ++ [x]) ∧ w.grownBy w' v.ownBlock ∧ Below base w w' ∧ (v'.ownBlock = v.ownBlock ∨ v'.ownBlock = some w.heap.size) := by
  have hbel : ∀ {w' : World}, w.grownBy w' v.ownBlock → Below base w w' := fun hg => ⟨hg.os, hg.tape, hg.output, hg.size, fun k hk => hg.block k (by omega) (fun e => by have := (hown.lt k e.symm).1; omega)⟩
  obtain ⟨v', w', h1, h2, h3, _, h5⟩ := run_append_own_at (P := Tryz.prog) w base t ty e i z 1 i.bytes ht hi hz hsize rfl hzs (by omega) v xs.length xs hown.1 ⟨b, 0, none⟩ 1 1 [x] rfl (fun j u hj => by
    have hj0 : j = 0 := by have := (List.getElem?_eq_some_iff.1 hj).1; simp at this; omega
    subst hj0
    rw [Addr.add_mid, hk.cell]
    simpa using hj) (fun u hu => by simp only [List.mem_singleton] at hu; rw [hu]; exact hx) (by unfold maxLen; omega) (Nat.le_trans (Nat.mul_le_mul_left _ hby) (by omega)) hbase
  refine ⟨v', w', h1, ⟨by rw [List.length_append]; exact h2, fun u hu => ?_⟩, h3, hbel h3, h5⟩
  rcases List.mem_append.1 hu with h | h
  · exact hown.2 u h
  · simp only [List.mem_singleton] at h; rw [h]; exact hx
/-- A row of texts of the call's own; the texts lie in other blocks, and in none of a list. -/
def OwnR (w : World) (S : List Nat) (base : Nat) (v : Value) (ts : List (List Int)) : Prop := ∃ xs, OwnV w base 56 v xs ∧ xs.length = ts.length ∧ ∀ j, j < ts.length → ∃ a l c, xs[j]? = some (.slice a l c) ∧ TextAt w a l c (ts.getD j []) ∧ (0 < l → ∀ p : Addr, a = some p → v.ownBlock ≠ some p.block ∧ p.block ∉ S)
theorem OwnR.nil (w : World) (S : List Nat) (base : Nat) : OwnR w S base (.slice none 0 0) [] := ⟨[], OwnV.nil w base 56, rfl, fun j hj => by simp at hj⟩
theorem OwnR.below {w w' : World} {S : List Nat} {base : Nat} {v : Value} {ts : List (List Int)} (h : OwnR w S base v ts) (hb : Below w.heap.size w w') : OwnR w' S base v ts := by
  obtain ⟨xs, h1, h2, h3⟩ := h
  exact ⟨xs, h1.below hb, h2, fun j hj => by obtain ⟨a, l, c, q1, q2, q3⟩ := h3 j hj; exact ⟨a, l, c, q1, q2.below hb, q3⟩⟩
theorem OwnR.lt {w : World} {S : List Nat} {base : Nat} {v : Value} {ts : List (List Int)} (h : OwnR w S base v ts) : ∀ k, v.ownBlock = some k → base ≤ k ∧ k < w.heap.size := by
  obtain ⟨xs, h1, _⟩ := h
  exact h1.lt
theorem OwnR.texts {w : World} {S : List Nat} {base : Nat} {v : Value} {ts : List (List Int)} (h : OwnR w S base v ts) : ∃ a cap, v = .slice a ts.length cap ∧ TextsAt w a ts.length cap ts := by
  obtain ⟨xs, ⟨⟨h1, ⟨rfl, h2⟩ | ⟨g, cap, cur, rfl, hg, hh, hle, hmx, hsz, htk⟩⟩, _⟩, hl, h3⟩ := h
  · exact ⟨none, 0, by rw [← hl, h2], rfl, by omega, by omega, .inl (by omega)⟩
  · rw [hl] at hle
    refine ⟨_, cap, by rw [hl], rfl, hle, by unfold maxLen at hmx; omega, .inr ⟨g, 0, rfl, (Array.getElem?_eq_some_iff.1 hh).1, fun j hj => ?_⟩⟩
    obtain ⟨a, l, c, q1, q2, _⟩ := h3 j hj
    refine ⟨a, l, c, ?_, q2⟩
    rw [Nat.zero_add, (show Blk w g cur 56 from hh).cell]
    rw [← htk, List.getElem?_take, if_pos (by omega)] at q1
    simpa using q1
theorem TextAt.none_len {w w' : World} {a : Option Addr} {l c : Nat} {t : List Int} (h : TextAt w a l c t) (h0 : l = 0) : TextAt w' a l c t := by
  subst h0
  obtain ⟨h1, h2, h3, h4, h5 | ⟨x, o, s, h5, _⟩⟩ := h
  · exact ⟨h1, h2, h3, h4, .inl h5⟩
  · exact ⟨h1, h2, h3, h4, .inr ⟨x, o, s, h5, fun j hj => absurd hj (Nat.not_lt_zero _)⟩⟩
/-- One text more. -/
theorem run_append_t {w : World} {S : List Nat} {base : Nat} {v : Value} {ts : List (List Int)} (hown : OwnR w S base v ts) {b : Nat} {ta : Option Addr} {tl tc : Nat} {t : List Int} {T : TypeId} (hk : Blk w b #[.slice ta tl tc] T) (hT : TextAt w ta tl tc t) (hsep : 0 < tl → ∀ p : Addr, ta = some p → v.ownBlock ≠ some p.block ∧ p.block ∉ S) (hb : ts.length ≤ 1000000) (hbase : base ≤ w.heap.size) :
    ∃ v' w', (Builtin.append_ #[154, 154] 154 #[v, .slice (some ⟨b, 0, none⟩) 1 1]).run Tryz.prog w = .ok v' w' ∧ OwnR w' S base v' (ts ++ [t]) ∧ w.grownBy w' v.ownBlock ∧ Below base w w' := by
  obtain ⟨xs, h1, h2, h3⟩ := hown
  obtain ⟨i0, hi, hz0, hz1, hz2⟩ := info_parts info_text
  obtain ⟨v', w', r1, r2, r3, r4, r5⟩ := run_append_v 154 Tryz.underlying154 hi hz0 rfl hz1 (by omega) h1 hk rfl (by omega) hbase
  have hkeep : ∀ {a : Option Addr} {l c : Nat} {y : List Int}, TextAt w a l c y → (0 < l → ∀ p : Addr, a = some p → v.ownBlock ≠ some p.block) → TextAt w' a l c y := by
    intro a l c y hy hp
    rcases Nat.eq_zero_or_pos l with h0 | h0
    · exact hy.none_len h0
    · exact hy.grown r3 fun k hk => .inr fun p hpp e => hp h0 p hpp (by rw [hk, e])
  have hnew : ∀ {a : Option Addr} {l c : Nat} {y : List Int}, TextAt w a l c y → (0 < l → ∀ p : Addr, a = some p → v.ownBlock ≠ some p.block ∧ p.block ∉ S) → (0 < l → ∀ p : Addr, a = some p → v'.ownBlock ≠ some p.block ∧ p.block ∉ S) := by
    intro a l c y hy hp h0 p hpp
    refine ⟨?_, (hp h0 p hpp).2⟩
    rcases r5 with r5 | r5
    · rw [r5]; exact (hp h0 p hpp).1
    · obtain ⟨x, o, he, hx, _⟩ := hy.at_ h0
      rw [hpp] at he
      cases he
      rw [r5]
      intro e
      have := Option.some.inj e
      simp only at this
      omega
  refine ⟨v', w', r1, ⟨xs ++ [.slice ta tl tc], r2, by rw [List.length_append, List.length_append, h2]; rfl, fun j hj => ?_⟩, r3, r4⟩
  rw [List.length_append] at hj
  rcases Nat.lt_or_ge j ts.length with hlt | hge
  · obtain ⟨a, l, c, q1, q2, q3⟩ := h3 j hlt
    refine ⟨a, l, c, by rw [List.getElem?_append_left (by omega)]; exact q1, ?_, hnew q2 q3⟩
    rw [show (ts ++ [t]).getD j [] = ts.getD j [] by simp [List.getD_eq_getElem?_getD, List.getElem?_append_left hlt]]
    exact hkeep q2 fun h0 p hp => (q3 h0 p hp).1
  · have hj0 : j = ts.length := by simp at hj; omega
    subst hj0
    refine ⟨ta, tl, tc, by rw [List.getElem?_append_right (by omega), h2, Nat.sub_self]; rfl, ?_, hnew hT hsep⟩
    rw [show (ts ++ [t]).getD ts.length [] = t by simp [List.getD_eq_getElem?_getD]]
    exact hkeep hT fun h0 p hp => (hsep h0 p hp).1
theorem wpList_append_t {ops : Array Oper} {rest : List Oper} {o : Oper} {A : Act} {w : World} {Q : Exit → Act → World → Prop} {S : List Nat} {base : Nat} {v : Value} {ts : List (List Int)} (hgd : o.guard = none) (s x : Operand) (ho : o.op = .call { callee := .builtin .append, args := #[s, x], argTypes := #[154, 154] }) (hs : A.eval s = v) (hown : OwnR w S base v ts)
    {b : Nat} {ta : Option Addr} {tl tc : Nat} {t : List Int} {T : TypeId} (hx : A.eval x = .slice (some ⟨b, 0, none⟩) 1 1) (hk : Blk w b #[.slice ta tl tc] T) (hT : TextAt w ta tl tc t) (hsep : 0 < tl → ∀ p : Addr, ta = some p → v.ownBlock ≠ some p.block ∧ p.block ∉ S) (hb : ts.length ≤ 1000000) (hbase : base ≤ w.heap.size)
    (h : ∀ v' w', OwnR w' S base v' (ts ++ [t]) → w.grownBy w' v.ownBlock → Below base w w' → wpList Tryz.prog ops Q rest (A.put o.dst v') w') (hty : o.type = 154 := by rfl) : wpList Tryz.prog ops Q (o :: rest) A w :=
  wpList_plain hgd fun K hK => by
    obtain ⟨v', w', hr, h2, h3, h4⟩ := run_append_t hown hk hT hsep hb hbase
    unfold Oper.wp execOp
    simp only [ho, hty, resolve, invoke, builtin, Sem.run_bind, Sem.run_pure, Result.andThen_ok, List.map_toArray, List.map_cons, List.map_nil, hs, hx, hr, Oper.upon_value]
    exact hK _ _ (h v' w' h2 h3 h4)
/-- The cells of a signer's state, and of a signer. -/
def stC (g k r ik ii : Int) (mv : Value) : Array Value := #[.int .i64 g, .int .i64 k, .int .i64 r, .int .i64 ik, .int .i64 ii, mv]
def sgC (g k r ik ii : Int) (mv : Value) (nx tt bt : Int) (q f : Nat) (sp : Bool) : Array Value := #[.int .i64 g, .int .i64 k, .int .i64 r, .int .i64 ik, .int .i64 ii, mv, .int .i64 nx, .int .i64 tt, .int .i64 bt, .pointer (some ⟨q, 0, none⟩), .pointer (some ⟨f, 0, none⟩), .bool sp]
theorem size_state : (Tryz.prog.info? 131).map (·.size) = some 6 := by kernel_rfl
/-- The bytes of a state. -/
def stB (g k r ik ii : Int) (m : List Int) : List Int := be 2 6 ++ rowB [be 8 g, be 8 k, be 8 r, be 8 ik, be 8 ii, m]
theorem stB_length (g k r ik ii : Int) (m : List Int) : (stB g k r ik ii m).length = 54 + m.length := by
  simp only [stB, rowB, List.flatMap_cons, List.flatMap_nil, List.length_append, be_length, List.length_nil]
  omega
theorem rowB_small {ts : List (List Int)} (h : ∀ t ∈ ts, ∀ x ∈ t, 0 ≤ x ∧ x < 256) : ∀ x ∈ rowB ts, 0 ≤ x ∧ x < 256 := fun x hx => by
  unfold rowB at hx
  obtain ⟨t, ht, hx⟩ := List.mem_flatMap.1 hx
  rcases List.mem_append.1 hx with h1 | h1
  · exact be_small _ _ x h1
  · exact h t ht x h1
theorem stB_small {g k r ik ii : Int} {m : List Int} (h : ∀ x ∈ m, 0 ≤ x ∧ x < 256) : ∀ x ∈ stB g k r ik ii m, 0 ≤ x ∧ x < 256 := fun x hx => by
  unfold stB at hx
  rcases List.mem_append.1 hx with h1 | h1
  · exact be_small _ _ x h1
  · refine rowB_small (fun t ht y hy => ?_) x h1
    simp only [List.mem_cons, List.not_mem_nil, or_false] at ht
    rcases ht with rfl | rfl | rfl | rfl | rfl | rfl
    · exact be_small _ _ y hy
    · exact be_small _ _ y hy
    · exact be_small _ _ y hy
    · exact be_small _ _ y hy
    · exact be_small _ _ y hy
    · exact h y hy
set_option maxHeartbeats 4000000 in
theorem sbytes_any (g k r ik ii : Int) (ma : Option Addr) (mn mc : Nat) (m : List Int) (w : World) (hT : TextAt w ma mn mc m) (hmn : mn ≤ 200) (hg : 0 ≤ g ∧ g < 9223372036854775808) (hk : 0 ≤ k ∧ k < 9223372036854775808) (hr : 0 ≤ r ∧ r < 9223372036854775808) (hik : 0 ≤ ik ∧ ik < 9223372036854775808) (hii : 0 ≤ ii ∧ ii < 9223372036854775808) :
    Calls Tryz.prog 140 #[.agg (stC g k r ik ii (.slice ma mn mc))] w fun e w' => ∃ a c, e = .returned (.slice a (54 + mn) c) ∧ Below w.heap.size w w' ∧ TextAt w' a (54 + mn) c (stB g k r ik ii m) ∧ ∀ p : Addr, a = some p → w.heap.size ≤ p.block := by
  have b1 := (Below.refl w.heap.size w).alloc (Nat.le_refl _) (.cells (stC g k r ik ii (.slice ma mn mc)) 131 (0, 0))
  have Ks := hid (Blk.new (w := w) (n := w.heap.size) rfl (stC g k r ik ii (.slice ma mn mc)) 131)
  have Hb := hid b1
  have hbz := b1.size
  have Hbs := hid (show w.heap.size + 1 = (w.alloc (.cells (stC g k r ik ii (.slice ma mn mc)) 131 (0, 0))).heap.size by simp only [World.size_alloc])
  clear b1 
  have HT := hid hT
  have hml := hT.length
  have hfar : ∀ p : Addr, ma = some p → 0 < mn → p.block < w.heap.size := fun p hp h0 => by
    obtain ⟨x, o, rfl, hx, _⟩ := hT.at_ h0
    cases hp
    exact hx
  have HF := hid hfar
  clear hT hfar
  have cs0 : (w.alloc (.cells (stC g k r ik ii (.slice ma mn mc)) 131 (0, 0))).cell? ⟨w.heap.size, 0, none⟩ = some (.int .i64 g) := by rw [Ks.out.cell]; rfl
  have cs1 : (w.alloc (.cells (stC g k r ik ii (.slice ma mn mc)) 131 (0, 0))).cell? ⟨w.heap.size, 1, none⟩ = some (.int .i64 k) := by rw [Ks.out.cell]; rfl
  have cs2 : (w.alloc (.cells (stC g k r ik ii (.slice ma mn mc)) 131 (0, 0))).cell? ⟨w.heap.size, 2, none⟩ = some (.int .i64 r) := by rw [Ks.out.cell]; rfl
  have cs3 : (w.alloc (.cells (stC g k r ik ii (.slice ma mn mc)) 131 (0, 0))).cell? ⟨w.heap.size, 3, none⟩ = some (.int .i64 ik) := by rw [Ks.out.cell]; rfl
  have cs4 : (w.alloc (.cells (stC g k r ik ii (.slice ma mn mc)) 131 (0, 0))).cell? ⟨w.heap.size, 4, none⟩ = some (.int .i64 ii) := by rw [Ks.out.cell]; rfl
  have Qg := hid (show g % 18446744073709551616 = g by omega)
  have Qk := hid (show k % 18446744073709551616 = k by omega)
  have Qr := hid (show r % 18446744073709551616 = r by omega)
  have Qik := hid (show ik % 18446744073709551616 = ik by omega)
  have Qii := hid (show ii % 18446744073709551616 = ii by omega)
  go_enter Tryz.func140, Tryz.ntmps140
  go_wp2_with fail
  clear cs0 cs1 cs2 cs3 cs4
  have c1 := Hb.out.alloc Hb.out.size (.cells #[.int .i64 g, .int .i64 k, .int .i64 r, .int .i64 ik, .int .i64 ii] 3 (0, 0))
  have Ks1 := hid (Ks.out.old (.cells #[.int .i64 g, .int .i64 k, .int .i64 r, .int .i64 ik, .int .i64 ii] 3 (0, 0)))
  have Ki1 := hid (Blk.new (w := (w.alloc (.cells (stC g k r ik ii (.slice ma mn mc)) 131 (0, 0)))) (n := w.heap.size + 1) Hbs.out.symm #[.int .i64 g, .int .i64 k, .int .i64 r, .int .i64 ik, .int .i64 ii] 3)
  have HB1 := hid c1
  clear c1
  go_loopw [3, 22] (fun rv iv wr => ∃ (j : Nat) (ra : Option Addr) (rc : Nat), j ≤ 5 ∧ iv = .int .i64 j ∧ rv = .slice ra j rc ∧ OwnR wr [] (w.heap.size + 1 + 1) (.slice ra j rc) (([be 8 g, be 8 k, be 8 r, be 8 ik, be 8 ii] : List (List Int)).take j) ∧ Blk wr w.heap.size (stC g k r ik ii (.slice ma mn mc)) 131 ∧ Blk wr (w.heap.size + 1) #[.int .i64 g, .int .i64 k, .int .i64 r, .int .i64 ik, .int .i64 ii] 3 ∧ Below w.heap.size w wr) (fun _ iv _ => 5 - (intOf iv).toNat)
  case atStart => exact ⟨0, none, 0, by omega, rfl, rfl, OwnR.nil _ _ _, Ks1.out, Ki1.out, HB1.out⟩
  case round =>
    obtain ⟨j, ra, rc, hj, rfl, rfl, ho, ks, ki, bel⟩ := hrel
    have Ksr := hid ks
    have Kir := hid ki
    have HBr := hid bel
    have HOr := hid ho
    have hsr := bel.size
    have hkl := ki.lt
    clear ho ks ki bel
    rcases (show j = 0 ∨ j = 1 ∨ j = 2 ∨ j = 3 ∨ j = 4 ∨ j = 5 by omega) with rfl | rfl | rfl | rfl | rfl | rfl
    · skip
      have ci : wr.cell? ⟨w.heap.size + 1, 0, none⟩ = some (.int .i64 g) := by rw [Kir.out.cell]; rfl
      have qv := Qg.out
      have HO := hid (show OwnR wr [] (w.heap.size + 1 + 1) (.slice ra 0 rc) ([] : List (List Int)) from HOr.out)
      have hlt2 := hid HO.out.lt
      go_wp2_with fail
      refine (number_any g 8 8 wr (by omega) (by omega) (by decide)).mono ?_
      rintro e w2 ⟨g2, hg2, rfl, b2, m2⟩
      have c2 := Below.on b2 ((Below.refl w2.heap.size w2).alloc (Nat.le_refl _) (.cells #[.slice (some ⟨g2, 0, none⟩) 8 8] 56 (0, 0)))
      have HO2 := hid (HO.out.below c2)
      have Ks2 := hid (Ksr.out.below c2)
      have Ki2 := hid (Kir.out.below c2)
      have HB2 := hid (Below.on HBr.out c2)
      have HK2 := hid (Blk.new (w := w2) rfl #[.slice (some ⟨g2, 0, none⟩) 8 8] 56)
      have HM2 := hid (TextAt.of_ints (m2.old (.cells #[.slice (some ⟨g2, 0, none⟩) 8 8] 56 (0, 0))) (be_length _ _) (by omega) (be_small _ _))
      have hs2 := b2.size
      clear b2 c2 m2
      go_wp2_with (
        at_builtin
        refine wpList_append_t (v := .slice ra 0 rc) rfl _ _ rfl rfl HO2.out rfl HK2.out HM2.out (fun _ p hp => ⟨fun hq => by have := (hlt2.out _ hq).2; cases hp; simp only at this; omega, by simp⟩) (by simp) (by simp only [World.size_alloc]; omega) ?_
        intro v3 w3 ho3 hg3 hb3
        obtain ⟨a3, c3, hv3, -⟩ := ho3.texts
        have hv3 : v3 = .slice a3 1 c3 := hv3
        subst hv3
        have HO3 := hid (show OwnR w3 [] (w.heap.size + 1 + 1) (.slice a3 1 c3) ([be 8 g] : List (List Int)) from ho3)
        have HB3 := hid (HB2.out.trans (hb3.mono (by omega)))
        have Ks3 := hid (Ks2.out.grown hg3 (fun q hq => by have := (hlt2.out _ hq).1; omega))
        have Ki3 := hid (Ki2.out.grown hg3 (fun q hq => by have := (hlt2.out _ hq).1; omega))
        clear ho3 hb3 hg3)
      exact ⟨⟨1, a3, c3, by omega, by first | rfl | simp, rfl, HO3.out, Ks3.out, Ki3.out, HB3.out⟩, by simp [intOf]⟩
    · skip
      have ci : wr.cell? ⟨w.heap.size + 1, 1, none⟩ = some (.int .i64 k) := by rw [Kir.out.cell]; rfl
      have qv := Qk.out
      have HO := hid (show OwnR wr [] (w.heap.size + 1 + 1) (.slice ra 1 rc) ([be 8 g] : List (List Int)) from HOr.out)
      have hlt2 := hid HO.out.lt
      go_wp2_with fail
      refine (number_any k 8 8 wr (by omega) (by omega) (by decide)).mono ?_
      rintro e w2 ⟨g2, hg2, rfl, b2, m2⟩
      have c2 := Below.on b2 ((Below.refl w2.heap.size w2).alloc (Nat.le_refl _) (.cells #[.slice (some ⟨g2, 0, none⟩) 8 8] 56 (0, 0)))
      have HO2 := hid (HO.out.below c2)
      have Ks2 := hid (Ksr.out.below c2)
      have Ki2 := hid (Kir.out.below c2)
      have HB2 := hid (Below.on HBr.out c2)
      have HK2 := hid (Blk.new (w := w2) rfl #[.slice (some ⟨g2, 0, none⟩) 8 8] 56)
      have HM2 := hid (TextAt.of_ints (m2.old (.cells #[.slice (some ⟨g2, 0, none⟩) 8 8] 56 (0, 0))) (be_length _ _) (by omega) (be_small _ _))
      have hs2 := b2.size
      clear b2 c2 m2
      go_wp2_with (
        at_builtin
        refine wpList_append_t (v := .slice ra 1 rc) rfl _ _ rfl rfl HO2.out rfl HK2.out HM2.out (fun _ p hp => ⟨fun hq => by have := (hlt2.out _ hq).2; cases hp; simp only at this; omega, by simp⟩) (by simp) (by simp only [World.size_alloc]; omega) ?_
        intro v3 w3 ho3 hg3 hb3
        obtain ⟨a3, c3, hv3, -⟩ := ho3.texts
        have hv3 : v3 = .slice a3 2 c3 := hv3
        subst hv3
        have HO3 := hid (show OwnR w3 [] (w.heap.size + 1 + 1) (.slice a3 2 c3) ([be 8 g, be 8 k] : List (List Int)) from ho3)
        have HB3 := hid (HB2.out.trans (hb3.mono (by omega)))
        have Ks3 := hid (Ks2.out.grown hg3 (fun q hq => by have := (hlt2.out _ hq).1; omega))
        have Ki3 := hid (Ki2.out.grown hg3 (fun q hq => by have := (hlt2.out _ hq).1; omega))
        clear ho3 hb3 hg3)
      exact ⟨⟨2, a3, c3, by omega, by first | rfl | simp, rfl, HO3.out, Ks3.out, Ki3.out, HB3.out⟩, by simp [intOf]⟩
    · skip
      have ci : wr.cell? ⟨w.heap.size + 1, 2, none⟩ = some (.int .i64 r) := by rw [Kir.out.cell]; rfl
      have qv := Qr.out
      have HO := hid (show OwnR wr [] (w.heap.size + 1 + 1) (.slice ra 2 rc) ([be 8 g, be 8 k] : List (List Int)) from HOr.out)
      have hlt2 := hid HO.out.lt
      go_wp2_with fail
      refine (number_any r 8 8 wr (by omega) (by omega) (by decide)).mono ?_
      rintro e w2 ⟨g2, hg2, rfl, b2, m2⟩
      have c2 := Below.on b2 ((Below.refl w2.heap.size w2).alloc (Nat.le_refl _) (.cells #[.slice (some ⟨g2, 0, none⟩) 8 8] 56 (0, 0)))
      have HO2 := hid (HO.out.below c2)
      have Ks2 := hid (Ksr.out.below c2)
      have Ki2 := hid (Kir.out.below c2)
      have HB2 := hid (Below.on HBr.out c2)
      have HK2 := hid (Blk.new (w := w2) rfl #[.slice (some ⟨g2, 0, none⟩) 8 8] 56)
      have HM2 := hid (TextAt.of_ints (m2.old (.cells #[.slice (some ⟨g2, 0, none⟩) 8 8] 56 (0, 0))) (be_length _ _) (by omega) (be_small _ _))
      have hs2 := b2.size
      clear b2 c2 m2
      go_wp2_with (
        at_builtin
        refine wpList_append_t (v := .slice ra 2 rc) rfl _ _ rfl rfl HO2.out rfl HK2.out HM2.out (fun _ p hp => ⟨fun hq => by have := (hlt2.out _ hq).2; cases hp; simp only at this; omega, by simp⟩) (by simp) (by simp only [World.size_alloc]; omega) ?_
        intro v3 w3 ho3 hg3 hb3
        obtain ⟨a3, c3, hv3, -⟩ := ho3.texts
        have hv3 : v3 = .slice a3 3 c3 := hv3
        subst hv3
        have HO3 := hid (show OwnR w3 [] (w.heap.size + 1 + 1) (.slice a3 3 c3) ([be 8 g, be 8 k, be 8 r] : List (List Int)) from ho3)
        have HB3 := hid (HB2.out.trans (hb3.mono (by omega)))
        have Ks3 := hid (Ks2.out.grown hg3 (fun q hq => by have := (hlt2.out _ hq).1; omega))
        have Ki3 := hid (Ki2.out.grown hg3 (fun q hq => by have := (hlt2.out _ hq).1; omega))
        clear ho3 hb3 hg3)
      exact ⟨⟨3, a3, c3, by omega, by first | rfl | simp, rfl, HO3.out, Ks3.out, Ki3.out, HB3.out⟩, by simp [intOf]⟩
    · skip
      have ci : wr.cell? ⟨w.heap.size + 1, 3, none⟩ = some (.int .i64 ik) := by rw [Kir.out.cell]; rfl
      have qv := Qik.out
      have HO := hid (show OwnR wr [] (w.heap.size + 1 + 1) (.slice ra 3 rc) ([be 8 g, be 8 k, be 8 r] : List (List Int)) from HOr.out)
      have hlt2 := hid HO.out.lt
      go_wp2_with fail
      refine (number_any ik 8 8 wr (by omega) (by omega) (by decide)).mono ?_
      rintro e w2 ⟨g2, hg2, rfl, b2, m2⟩
      have c2 := Below.on b2 ((Below.refl w2.heap.size w2).alloc (Nat.le_refl _) (.cells #[.slice (some ⟨g2, 0, none⟩) 8 8] 56 (0, 0)))
      have HO2 := hid (HO.out.below c2)
      have Ks2 := hid (Ksr.out.below c2)
      have Ki2 := hid (Kir.out.below c2)
      have HB2 := hid (Below.on HBr.out c2)
      have HK2 := hid (Blk.new (w := w2) rfl #[.slice (some ⟨g2, 0, none⟩) 8 8] 56)
      have HM2 := hid (TextAt.of_ints (m2.old (.cells #[.slice (some ⟨g2, 0, none⟩) 8 8] 56 (0, 0))) (be_length _ _) (by omega) (be_small _ _))
      have hs2 := b2.size
      clear b2 c2 m2
      go_wp2_with (
        at_builtin
        refine wpList_append_t (v := .slice ra 3 rc) rfl _ _ rfl rfl HO2.out rfl HK2.out HM2.out (fun _ p hp => ⟨fun hq => by have := (hlt2.out _ hq).2; cases hp; simp only at this; omega, by simp⟩) (by simp) (by simp only [World.size_alloc]; omega) ?_
        intro v3 w3 ho3 hg3 hb3
        obtain ⟨a3, c3, hv3, -⟩ := ho3.texts
        have hv3 : v3 = .slice a3 4 c3 := hv3
        subst hv3
        have HO3 := hid (show OwnR w3 [] (w.heap.size + 1 + 1) (.slice a3 4 c3) ([be 8 g, be 8 k, be 8 r, be 8 ik] : List (List Int)) from ho3)
        have HB3 := hid (HB2.out.trans (hb3.mono (by omega)))
        have Ks3 := hid (Ks2.out.grown hg3 (fun q hq => by have := (hlt2.out _ hq).1; omega))
        have Ki3 := hid (Ki2.out.grown hg3 (fun q hq => by have := (hlt2.out _ hq).1; omega))
        clear ho3 hb3 hg3)
      exact ⟨⟨4, a3, c3, by omega, by first | rfl | simp, rfl, HO3.out, Ks3.out, Ki3.out, HB3.out⟩, by simp [intOf]⟩
    · skip
      have ci : wr.cell? ⟨w.heap.size + 1, 4, none⟩ = some (.int .i64 ii) := by rw [Kir.out.cell]; rfl
      have qv := Qii.out
      have HO := hid (show OwnR wr [] (w.heap.size + 1 + 1) (.slice ra 4 rc) ([be 8 g, be 8 k, be 8 r, be 8 ik] : List (List Int)) from HOr.out)
      have hlt2 := hid HO.out.lt
      go_wp2_with fail
      refine (number_any ii 8 8 wr (by omega) (by omega) (by decide)).mono ?_
      rintro e w2 ⟨g2, hg2, rfl, b2, m2⟩
      have c2 := Below.on b2 ((Below.refl w2.heap.size w2).alloc (Nat.le_refl _) (.cells #[.slice (some ⟨g2, 0, none⟩) 8 8] 56 (0, 0)))
      have HO2 := hid (HO.out.below c2)
      have Ks2 := hid (Ksr.out.below c2)
      have Ki2 := hid (Kir.out.below c2)
      have HB2 := hid (Below.on HBr.out c2)
      have HK2 := hid (Blk.new (w := w2) rfl #[.slice (some ⟨g2, 0, none⟩) 8 8] 56)
      have HM2 := hid (TextAt.of_ints (m2.old (.cells #[.slice (some ⟨g2, 0, none⟩) 8 8] 56 (0, 0))) (be_length _ _) (by omega) (be_small _ _))
      have hs2 := b2.size
      clear b2 c2 m2
      go_wp2_with (
        at_builtin
        refine wpList_append_t (v := .slice ra 4 rc) rfl _ _ rfl rfl HO2.out rfl HK2.out HM2.out (fun _ p hp => ⟨fun hq => by have := (hlt2.out _ hq).2; cases hp; simp only at this; omega, by simp⟩) (by simp) (by simp only [World.size_alloc]; omega) ?_
        intro v3 w3 ho3 hg3 hb3
        obtain ⟨a3, c3, hv3, -⟩ := ho3.texts
        have hv3 : v3 = .slice a3 5 c3 := hv3
        subst hv3
        have HO3 := hid (show OwnR w3 [] (w.heap.size + 1 + 1) (.slice a3 5 c3) ([be 8 g, be 8 k, be 8 r, be 8 ik, be 8 ii] : List (List Int)) from ho3)
        have HB3 := hid (HB2.out.trans (hb3.mono (by omega)))
        have Ks3 := hid (Ks2.out.grown hg3 (fun q hq => by have := (hlt2.out _ hq).1; omega))
        have Ki3 := hid (Ki2.out.grown hg3 (fun q hq => by have := (hlt2.out _ hq).1; omega))
        clear ho3 hb3 hg3)
      exact ⟨⟨5, a3, c3, by omega, by first | rfl | simp, rfl, HO3.out, Ks3.out, Ki3.out, HB3.out⟩, by simp [intOf]⟩
    · skip
      have cm : wr.cell? ⟨w.heap.size, 5, none⟩ = some (.slice ma mn mc) := by rw [Ksr.out.cell]; rfl
      have HO := hid (show OwnR wr [] (w.heap.size + 1 + 1) (.slice ra 5 rc) ([be 8 g, be 8 k, be 8 r, be 8 ik, be 8 ii] : List (List Int)) from HOr.out)
      have hlt2 := hid HO.out.lt
      have c2 := (Below.refl wr.heap.size wr).alloc (Nat.le_refl _) (.cells #[.slice ma mn mc] 56 (0, 0))
      have HO2 := hid (HO.out.below c2)
      have HB2 := hid (Below.on HBr.out c2)
      have HK2 := hid (Blk.new (w := wr) rfl #[.slice ma mn mc] 56)
      have HM2 := hid (HT.out.below HB2.out)
      clear c2
      go_wp2_with (
        at_builtin
        refine wpList_append_t (v := .slice ra 5 rc) rfl _ _ rfl rfl HO2.out rfl HK2.out HM2.out (fun h0 p hp => ⟨fun hq => by have := (hlt2.out _ hq).1; have := HF.out p hp h0; omega, by simp⟩) (by simp) (by simp only [World.size_alloc]; omega) ?_
        intro v3 w3 ho3 hg3 hb3
        obtain ⟨a3, c3, hv3, ht3⟩ := ho3.texts
        have hv3 : v3 = .slice a3 6 c3 := hv3
        subst hv3
        have HT3 := hid (show TextsAt w3 a3 6 c3 [be 8 g, be 8 k, be 8 r, be 8 ik, be 8 ii, m] from ht3)
        have HB3 := hid (HB2.out.trans (hb3.mono (by omega)))
        have hs3 := HB3.out.size
        clear ho3 hb3 hg3 ht3)
      refine (row_any a3 6 c3 [be 8 g, be 8 k, be 8 r, be 8 ik, be 8 ii, m] w3 HT3.out (by omega) (fun t ht => ?_)).mono ?_
      · simp only [List.mem_cons, List.not_mem_nil, or_false] at ht
        rcases ht with rfl | rfl | rfl | rfl | rfl | rfl <;> first | (rw [be_length]; omega) | omega
      rintro e w4 ⟨g4, m4, cap4, rfl, hm4, hc4, hx4, hg4, b4, r4⟩
      have HB4 := hid (Below.on HB3.out b4)
      have hl4 := stB_length g k r ik ii m
      have hsm := HT.out.small
      have ht4 : TextAt w4 (some ⟨g4, 0, none⟩) (54 + mn) cap4 (stB g k r ik ii m) := TextAt.of_row (show Row8 w4 g4 (stB g k r ik ii m) from r4) (by rw [hl4, hml]) (by unfold stB at hl4; rw [List.length_append, be_length] at hl4; omega) hx4 (stB_small hsm)
      have hm5 : m4 = 54 + mn := by unfold stB at hl4; rw [List.length_append, be_length] at hl4; omega
      have HT4 := hid ht4
      subst hm5
      clear b4 r4 ht4 hl4 hm4
      go_wp2_with fail
      go_returns
      exact ⟨_, _, rfl, HB4.out, HT4.out, fun p hp => by cases hp; show w.heap.size ≤ g4; omega⟩
end Go.Proofs.YtpinamdgbijjlaaGreatDoor
namespace Go.Proofs.YtpinamdgbijjlaaGreatDoor
set_option maxRecDepth 100000
open Go.ChangeShapes Go.WideShapes Go.ChangeAt Go.RowKit
/-- A part of a block is stored to. -/
theorem wpList_store_mid {P : Program} {ops : Array Oper} {rest : List Oper} {op : Oper} {a : Act} {w : World} {Q : Exit → Act → World → Prop} (hgd : op.guard = none) (ty : TypeId) (x y : Operand) (ho : op.op = .store ty x y) (b off : Nat) (cells : Array Value) (hx : a.eval x = .pointer (some ⟨b, off, none⟩)) (hy : a.eval y = .agg cells)
    (cs : Array Value) (T : TypeId) (hk : Blk w b cs T) (hlt : off + cells.size ≤ cs.size) (hi : (P.info? ty).map (·.size) = some cells.size) (h1 : cells.all (·.oneCell') = true)
    (h : ∀ w', But b w w' → Blk w' b (splice cs.toList off cells.toList).toArray T → wpList P ops Q rest (a.put op.dst undef) w') : wpList P ops Q (op :: rest) a w :=
  wpList_plain hgd fun K hK => by
    have ht : w.there b off cells.size := fun j hj => ⟨by rw [hk.cell, Array.getElem?_eq_getElem (by omega)]; rfl, hk.free _⟩
    unfold Oper.wp execOp
    simp only [ho, hx, hy, Instr.storeAt, Instr.sureAddr, Sem.run_bind, Sem.run_pure, Result.andThen_ok, run_storeVar_mid w b off ty cells ht hi h1, Oper.upon_skip]
    refine hK _ _ (h _ (But.setCells _ _ _ (But.of (Below.refl _ _))) ?_)
    have q := Blk.setCells [] cs.toList [] off cells.toList (by simpa using hk) (by simpa using hlt)
    simpa using q
theorem stC_ones (g k r ik ii : Int) (a : Option Addr) (n c : Nat) : (stC g k r ik ii (.slice a n c)).all (·.oneCell') = true := by simp [stC, Value.oneCell']
theorem size_state' (g k r ik ii : Int) (a : Option Addr) (n c : Nat) : (Tryz.prog.info? 131).map (·.size) = some (stC g k r ik ii (.slice a n c)).size := size_state
theorem size_pfence : (Tryz.prog.info? 85).map (·.size) = some 3 := by kernel_rfl
set_option maxHeartbeats 4000000 in
theorem sraise_any (w : World) (s f : Nat) (cg : Array Value) (mv : Value) (g k r ik ii fg fk fh : Int) (hk : Blk w s cg 136) (hcg : cg[10]? = some (.pointer (some ⟨f, 0, none⟩))) (kf : Blk w f #[.int .i64 fg, .int .i64 fk, .int .i64 fh] 87) (hsf : s ≠ f) :
    Calls Tryz.prog 92 #[.pointer (some ⟨s, 0, none⟩), .agg (stC g k r ik ii mv)] w fun e w' => e = .returned (.tuple #[]) ∧ But f w w' ∧ Blk w' f #[.int .i64 (max fg g), .int .i64 (lk fk fh k r).1, .int .i64 (lk fk fh k r).2] 87 := by
  have b1 := (Below.refl w.heap.size w).alloc (Nat.le_refl _) (.cells (stC g k r ik ii mv) 131 (0, 0))
  have Ks := hid (Blk.new (w := w) (n := w.heap.size) rfl (stC g k r ik ii mv) 131)
  have Hb := hid b1
  have hbz := b1.size
  have Hbs := hid (show w.heap.size + 1 = (w.alloc (.cells (stC g k r ik ii mv) 131 (0, 0))).heap.size by simp only [World.size_alloc])
  clear b1 
  have Kf := hid (kf.old (.cells (stC g k r ik ii mv) 131 (0, 0)))
  have Kg := hid (hk.old (.cells (stC g k r ik ii mv) 131 (0, 0)))
  have hfl := kf.lt
  have hgl := hk.lt
  clear kf hk
  go_enter Tryz.func92, Tryz.ntmps92
  go_wp2_with fail
  refine FlowB.wp_region_butIn [f] (fun wz => Blk wz f #[.int .i64 fg, .int .i64 fk, .int .i64 fh] 87) 12 [0, 1, 2, 3, 4, 5, 6, 7, 8, 9, 10] [] [(.c 11, [], [])] (by kernel_rfl) (by kernel_rfl) Kf.out (fun _ _ h hb => h.below hb) ?_
  apply Exists.intro
  refine ⟨fun w0 hb0 hF0 => ?_, ?_⟩
  · skip
    have y0 : ∀ w', (∃ x : Ext w0, w' = x.at_) → w'.cell? ⟨s, 10, none⟩ = some (.pointer (some ⟨f, 0, none⟩)) := fun w' ⟨x, hx⟩ => by rw [hx, ((hb0.blk Kg.out (by simpa using hsf)).below x.same).cell]; exact hcg
    have z0 : ∀ w', (∃ x : Ext w0, w' = x.at_) → w'.cell? ⟨w.heap.size, 0, none⟩ = some (.int .i64 g) := fun w' ⟨x, hx⟩ => by rw [hx, ((hb0.blk Ks.out (by simp; omega)).below x.same).cell]; rfl
    have z1 : ∀ w', (∃ x : Ext w0, w' = x.at_) → w'.cell? ⟨w.heap.size, 1, none⟩ = some (.int .i64 k) := fun w' ⟨x, hx⟩ => by rw [hx, ((hb0.blk Ks.out (by simp; omega)).below x.same).cell]; rfl
    have z2 : ∀ w', (∃ x : Ext w0, w' = x.at_) → w'.cell? ⟨w.heap.size, 2, none⟩ = some (.int .i64 r) := fun w' ⟨x, hx⟩ => by rw [hx, ((hb0.blk Ks.out (by simp; omega)).below x.same).cell]; rfl
    simp only [pick, List.getElem?_toArray, List.getElem?_cons_succ, List.getElem?_cons_zero, Option.toList_some, List.cons_append, List.nil_append]
    repeat (first | (go_big_quiet_want; refine quiet_load_one_s 37 _ rfl ⟨s, 10, none⟩ rfl _ y0 _ Tryz.underlying37 rfl ?_; go_big_quiet_on; simp only [Act.put, List.setIfInBounds_toArray, List.set_cons_zero, List.set_cons_succ]) | (go_big_quiet_want; refine quiet_load_one_s 3 _ rfl ⟨w.heap.size, 0, none⟩ rfl _ z0 _ Tryz.underlying3 rfl ?_; go_big_quiet_on; simp only [Act.put, List.setIfInBounds_toArray, List.set_cons_zero, List.set_cons_succ]) | (go_big_quiet_want; refine quiet_load_one_s 3 _ rfl ⟨w.heap.size, 1, none⟩ rfl _ z1 _ Tryz.underlying3 rfl ?_; go_big_quiet_on; simp only [Act.put, List.setIfInBounds_toArray, List.set_cons_zero, List.set_cons_succ]) | (go_big_quiet_want; refine quiet_load_one_s 3 _ rfl ⟨w.heap.size, 2, none⟩ rfl _ z2 _ Tryz.underlying3 rfl ?_; go_big_quiet_on; simp only [Act.put, List.setIfInBounds_toArray, List.set_cons_zero, List.set_cons_succ]) | go_big_quiet_step (fail))
    exact wpQuiet_nil rfl
  refine FlowB.AlChk.nil ?_
  refine FlowB.Walk.call rfl 139 #[.pointer (some ⟨f, 0, none⟩), .agg #[.int .i64 g, .int .i64 k, .int .i64 r]] (fun _ _ => True) (fun _ w' => Blk w' f #[.int .i64 (max fg g), .int .i64 (lk fk fh k r).1, .int .i64 (lk fk fh k r).2] 87) (fun _ _ _ _ _ _ => trivial) (fun _ _ _ h k => h.below k) rfl (fun w1 hb1 hF1 hG1 => ⟨by go_simp, ?_⟩) ?_
  · refine (raise_any f fg fk fh g k r w1 hG1).mono ?_
    rintro e w2 ⟨rfl, hb2, hk2⟩
    exact ⟨_, rfl, ButIn.of_but hb2 (by simp), trivial, hk2⟩
  rintro v1 w1 hb1 hF1 -
  apply Exists.intro
  refine ⟨fun w4 hb4 hF4 => wpQuiet_nil rfl, ?_⟩
  refine FlowB.AlChk.nil ?_
  refine FlowB.Walk.fin fun w9 h9 hF9 hG9 => ?_
  simp only [List.drop_succ_cons, List.drop_zero]
  have HG9 := hid hG9
  have HB9 := hid (But.trans (But.of Hb.out) (but_of_in h9))
  clear h9 hF9 hG9
  go_wp2_with fail
  go_returns
  exact ⟨by first | rfl | simp, HB9.out, HG9.out⟩
set_option maxHeartbeats 4000000 in
theorem sreplace_ok (w : World) (s q f p bb z n : Nat) (B : List Int) (af : Int) (kv tv mv0 : Value) (a0 T : Nat) (g k r ik ii g0 k0 r0 ik0 ii0 nx tt bt : Int) (ma : Option Addr) (mn mc : Nat) (m : List Int)
    (hk : Blk w s (sgC g0 k0 r0 ik0 ii0 mv0 nx tt bt q f false) 136) (kq : Blk w q (slC p a0 T tv false) 141) (hd : DkAt w p bb z n B (.slice none 0 0) true false af kv) (hT : TextO w [p, bb, q] ma mn mc m) (hmn : mn ≤ 200) (hz : 272 ≤ z) (ha : a0 + 2 ≤ n) (hu : T < 9223372036854775806) (hqp : q ≠ p ∧ q ≠ bb) (hs : s ≠ p ∧ s ≠ bb ∧ s ≠ q)
    (hg : 0 ≤ g ∧ g < 9223372036854775808) (hkk : 0 ≤ k ∧ k < 9223372036854775808) (hr : 0 ≤ r ∧ r < 9223372036854775808) (hik : 0 ≤ ik ∧ ik < 9223372036854775808) (hii : 0 ≤ ii ∧ ii < 9223372036854775808) :
    Calls Tryz.prog 93 #[.pointer (some ⟨s, 0, none⟩), .agg (stC g k r ik ii (.slice ma mn mc))] w fun e w' => e = .returned (.int .i64 0) ∧ FlowB.ButIn [p, bb, q, s] w w' ∧ Blk w' s (sgC g k r ik ii (.slice ma mn mc) nx tt bt q f false) 136 ∧ DkAt w' p bb z n (putS z (a0 + (T + 1) % 2) (slotB z (T + 1) (stB g k r ik ii m)) z B) (.slice none 0 0) true false af kv ∧ ∃ a c, Blk w' q (slC p a0 ((T : Int) + 1) (.slice a (54 + mn) c) false) 141 ∧ TextAt w' a (54 + mn) c (stB g k r ik ii m) ∧ ∀ x : Addr, a = some x → w.heap.size ≤ x.block := by
  have b1 := (Below.refl w.heap.size w).alloc (Nat.le_refl _) (.cells (stC g k r ik ii (.slice ma mn mc)) 131 (0, 0))
  have Kt := hid (Blk.new (w := w) (n := w.heap.size) rfl (stC g k r ik ii (.slice ma mn mc)) 131)
  have Hb := hid b1
  have hbz := b1.size
  have Hbs := hid (show w.heap.size + 1 = (w.alloc (.cells (stC g k r ik ii (.slice ma mn mc)) 131 (0, 0))).heap.size by simp only [World.size_alloc])
  clear b1 
  have Kg := hid (hk.old (.cells (stC g k r ik ii (.slice ma mn mc)) 131 (0, 0)))
  have Kq := hid (kq.old (.cells (stC g k r ik ii (.slice ma mn mc)) 131 (0, 0)))
  have HD := hid (hd.below Hb.out)
  have HT := hid (hT.butIn (ButIn.of_below Hb.out))
  have hgl := hk.lt
  have hql := kq.lt
  have hpl := hd.kp.lt
  have hbl := hd.kb.lt
  have hz2 := hd.z2
  have hml := hT.text.length
  clear kq hk hd hT
  go_enter Tryz.func93, Tryz.ntmps93
  go_wp2_with fail
  refine FlowB.wp_region_butIn [p, bb, q] (fun wz => DkAt wz p bb z n B (.slice none 0 0) true false af kv ∧ Blk wz q (slC p a0 T tv false) 141) 7 [0, 1, 2, 3, 4] [] [(.c 5, [], []), (.c 6, [], [])] (by kernel_rfl) (by kernel_rfl) ⟨HD.out, Kq.out⟩ (fun _ _ h hb => ⟨h.1.below hb, h.2.below hb⟩) ?_
  apply Exists.intro
  refine ⟨fun w0 hb0 hF0 => ?_, ?_⟩
  · skip
    have y0 : ∀ w', (∃ x : Ext w0, w' = x.at_) → w'.cell? ⟨s, 9, none⟩ = some (.pointer (some ⟨q, 0, none⟩)) := fun w' ⟨x, hx⟩ => by rw [hx, ((hb0.blk Kg.out (by simp only [List.mem_cons, List.not_mem_nil, or_false]; omega)).below x.same).cell]; rfl
    have x0 : ∀ w', (∃ x : Ext w0, w' = x.at_) → ∃ T, Blk w' (w.heap.size) (stC g k r ik ii (.slice ma mn mc)) T := fun w' ⟨x, hx⟩ => ⟨_, hx ▸ (hb0.blk Kt.out (by simp only [List.mem_cons, List.not_mem_nil, or_false]; omega)).below x.same⟩
    simp only [pick, List.getElem?_toArray, List.getElem?_cons_succ, List.getElem?_cons_zero, Option.toList_some, List.cons_append, List.nil_append]
    repeat (first | (go_big_quiet_want; refine quiet_load_one_s 73 _ rfl ⟨s, 9, none⟩ rfl _ y0 _ Tryz.underlying73 rfl ?_; go_big_quiet_on; simp only [Act.put, List.setIfInBounds_toArray, List.set_cons_zero, List.set_cons_succ]) | (go_big_quiet_want; refine quiet_load_blk 131 _ rfl (w.heap.size) rfl _ x0 _ Tryz.underlying131 rfl 6 size_state rfl ?_; go_big_quiet_on; simp only [Act.put, List.setIfInBounds_toArray, List.set_cons_zero, List.set_cons_succ]) | go_big_quiet_step (fail))
    exact wpQuiet_nil rfl
  refine FlowB.AlChk.nil ?_
  refine FlowB.Walk.call rfl 140 #[.agg (stC g k r ik ii (.slice ma mn mc))] (fun v w' => ∃ a c, v = .slice a (54 + mn) c ∧ TextO w' [p, bb, q] a (54 + mn) c (stB g k r ik ii m)) (fun _ wz => DkAt wz p bb z n B (.slice none 0 0) true false af kv ∧ Blk wz q (slC p a0 T tv false) 141) (fun v w' w'' hb h k => by obtain ⟨a, c, h1, h2⟩ := h; exact ⟨a, c, h1, h2.butIn k⟩) (fun _ _ _ h k => ⟨h.1.below k, h.2.below k⟩) rfl (fun w1 hb1 hF1 hG1 => ⟨by go_simp, ?_⟩) ?_
  · refine (sbytes_any g k r ik ii ma mn mc m w1 (HT.out.butIn hb1).text (by omega) hg hkk hr hik hii).mono ?_
    rintro e w2 ⟨a, c, rfl, b2, t2, o2⟩
    have hs1 := hb1.size
    have hs0 := Hb.out.size
    exact ⟨_, rfl, ButIn.of_below b2, ⟨a, c, rfl, t2, fun x hx => by have := o2 x hx; simp only [List.mem_cons, List.not_mem_nil, or_false]; omega⟩, hG1.1.below b2, hG1.2.below b2⟩
  rintro v1 w1 hb1 hF1 ⟨a5, c5, rfl, -⟩
  apply Exists.intro
  refine ⟨fun w4 hb4 hF4 => wpQuiet_nil rfl, ?_⟩
  refine FlowB.AlChk.nil ?_
  refine FlowB.Walk.call rfl 99 #[.pointer (some ⟨q, 0, none⟩), .slice a5 (54 + mn) c5] (fun v _ => v = .int .i64 0) (fun _ w' => DkAt w' p bb z n (putS z (a0 + (T + 1) % 2) (slotB z (T + 1) (stB g k r ik ii m)) z B) (.slice none 0 0) true false af kv ∧ ∃ a c, Blk w' q (slC p a0 ((T : Int) + 1) (.slice a (54 + mn) c) false) 141 ∧ TextAt w' a (54 + mn) c (stB g k r ik ii m) ∧ ∀ x : Addr, a = some x → w.heap.size ≤ x.block) (fun _ _ _ _ h _ => h) (fun _ _ _ h k => ⟨h.1.below k, by obtain ⟨a, c, h1, h2, h3⟩ := h.2; exact ⟨a, c, h1.below k, h2.below k, h3⟩⟩) rfl (fun w1 hb1 hF1 hG1 => ⟨by go_simp, ?_⟩) ?_
  · obtain ⟨a6, c6, hq6, ht6⟩ := hF1.2
    cases hq6
    refine (replace_ok w1 q p bb z n B af kv a0 T tv a5 (54 + mn) c5 (stB g k r ik ii m) hG1.1 hG1.2 ht6 (by omega) ha hu hqp).mono ?_
    rintro e w2 ⟨rfl, b2, d2, a, c, k2, t2, o2⟩
    have hs1 := hb1.size
    have hs0 := Hb.out.size
    exact ⟨_, rfl, b2, rfl, d2, a, c, k2, t2, fun x hx => by have := o2 x hx; omega⟩
  rintro v2 w2 hb2 hF2 rfl
  apply Exists.intro
  refine ⟨fun w4 hb4 hF4 => wpQuiet_nil rfl, ?_⟩
  refine FlowB.AlChk.nil ?_
  refine FlowB.Walk.fin fun w9 h9 hF9 hG9 => ?_
  simp only [List.drop_succ_cons, List.drop_zero]
  have HG9 := hid hG9
  have HX9 := hid (ButIn.on (ButIn.of_below Hb.out) h9)
  have Kg9 := hid (h9.blk Kg.out (by simp only [List.mem_cons, List.not_mem_nil, or_false]; omega))
  have Kt9 := hid (h9.blk Kt.out (by simp only [List.mem_cons, List.not_mem_nil, or_false]; omega))
  clear h9 hF9 hG9
  go_wp2_with (first
     | (refine wpList_load_blk rfl 131 _ rfl (w.heap.size) rfl _ 131 Kt9.out _ Tryz.underlying131 rfl 6 size_state rfl ?_)
     | (
        refine wpList_store_mid rfl 131 _ _ rfl s 0 (stC g k r ik ii (.slice ma mn mc)) rfl rfl _ 136 Kg9.out (by simp [stC, sgC]) (size_state' _ _ _ _ _ _ _ _) (stC_ones _ _ _ _ _ _ _ _) ?_
        intro w10 hb10 hk10
        have Kg10 := hid (show Blk w10 s (sgC g k r ik ii (.slice ma mn mc) nx tt bt q f false) 136 from hk10)
        have HB10 := hid hb10
        clear hb10 hk10))
  obtain ⟨d9, a9, c9, k9, t9, o9⟩ := HG9.out
  have hs9 := Hb.out.size
  go_returns
  refine ⟨rfl, ButIn.on (ButIn.wide HX9.out (by simp)) (ButIn.of_but HB10.out (by simp)), Kg10.out, d9.but HB10.out (by omega) (by omega), a9, c9, HB10.out.blk k9 (by omega), t9.butIn (S := [s]) (fun x hx => by have := o9 x hx; simp; omega) (ButIn.of_but HB10.out (by simp)), o9⟩
end Go.Proofs.YtpinamdgbijjlaaGreatDoor
namespace Go.Proofs.YtpinamdgbijjlaaGreatDoor
set_option maxRecDepth 100000
open Go.ChangeShapes Go.WideShapes Go.ChangeAt Go.RowKit
theorem size_intent : (Tryz.prog.info? 129).map (·.size) = some 3 := by kernel_rfl
/-- A signer that goes on: its cells, its slots, its fence, its disk. -/
structure SgAt (w : World) (s q f p bb T : Nat) (g k r ik ii : Int) (m : List Int) (nx tt bt : Int) : Prop where
  sg : ∃ ma mc, Blk w s (sgC g k r ik ii (.slice ma m.length mc) nx tt bt q f false) 136 ∧ TextO w [p, bb, q, f, s] ma m.length mc m
  sl : ∃ tv, Blk w q (slC p 0 T tv false) 141
  fe : ∃ fg fk fh, Blk w f #[.int .i64 fg, .int .i64 fk, .int .i64 fh] 87
  dk : ∃ B af kv, DkAt w p bb 400 2 B (.slice none 0 0) true false af kv
  nsp : s ≠ p
  nsb : s ≠ bb
  nsq : s ≠ q
  nsf : s ≠ f
  nfp : f ≠ p
  nfb : f ≠ bb
  nfq : f ≠ q
  nqp : q ≠ p
  nqb : q ≠ bb
  ml : m.length ≤ 200
  tb : T < 1000000
  bg : 0 ≤ g ∧ g < 1000000
  bk : 0 ≤ k ∧ k < 1000000
  br : 0 ≤ r ∧ r < 1000000
  bik : 0 ≤ ik ∧ ik < 1000000
  bii : 0 ≤ ii ∧ ii < 1000000
  bn : 0 ≤ nx ∧ nx < 1000000
  btt : 2 ≤ tt ∧ tt ≤ 65536
  bbt : 1 ≤ bt ∧ bt ≤ 16
end Go.Proofs.YtpinamdgbijjlaaGreatDoor
namespace Go.Proofs.YtpinamdgbijjlaaGreatDoor
set_option maxRecDepth 100000
open Go.ChangeShapes Go.WideShapes Go.ChangeAt Go.RowKit
set_option maxHeartbeats 4000000 in
theorem begin_any_s (w : World) (s q f p bb z n : Nat) (B : List Int) (af : Int) (kv tv mvs : Value) (a0 T : Nat) (g0 k0 r0 ik ii gs ks rs iks iis fg fk fh G K R nx tt bt : Int) (ma : Option Addr) (mn mc : Nat) (m : List Int)
    (hk : Blk w s (sgC gs ks rs iks iis mvs nx tt bt q f false) 136) (kq : Blk w q (slC p a0 T tv false) 141) (kf : Blk w f #[.int .i64 fg, .int .i64 fk, .int .i64 fh] 87) (hd : DkAt w p bb z n B (.slice none 0 0) true false af kv) (hT : TextO w [p, bb, q, f, s] ma mn mc m) (hmn : mn ≤ 200) (hz : 272 ≤ z) (ha : a0 + 2 ≤ n) (hu : T < 1000000) (nqp : q ≠ p) (nqb : q ≠ bb) (nsp : s ≠ p) (nsb : s ≠ bb) (nsq : s ≠ q) (nsf : s ≠ f) (nfp : f ≠ p) (nfb : f ≠ bb) (nfq : f ≠ q)
    (hG : max g0 fg = G) (hL : lk k0 r0 fk fh = (K, R)) (bG : 0 ≤ G ∧ G < 1000000) (bK : 0 ≤ K ∧ K < 1000000) (bR : 0 ≤ R ∧ R < 1000000) (bi : 0 ≤ ik ∧ ik < 1000000) (bj : 0 ≤ ii ∧ ii < 1000000) :
    Calls Tryz.prog 58 #[.pointer (some ⟨s, 0, none⟩), .agg (stC g0 k0 r0 ik ii (.slice ma mn mc))] w fun e w' => e = .returned (.int .i64 0) ∧ FlowB.ButIn [p, bb, q, f, s] w w' ∧ Blk w' s (sgC (G + 1) K R ik ii (.slice ma mn mc) R tt bt q f false) 136 ∧ (∃ tv', Blk w' q (slC p a0 ((T : Int) + 1) tv' false) 141) ∧ (∃ fg' fk' fh', Blk w' f #[.int .i64 fg', .int .i64 fk', .int .i64 fh'] 87) ∧ DkAt w' p bb z n (putS z (a0 + (T + 1) % 2) (slotB z (T + 1) (stB (G + 1) K R ik ii m)) z B) (.slice none 0 0) true false af kv := by
  have kf0 := hid kf
  have kq0 := hid kq
  have hd0 := hid hd
  have hT0 := hid hT
  have b1 := (Below.refl w.heap.size w).alloc (Nat.le_refl _) (.cells (stC g0 k0 r0 ik ii (.slice ma mn mc)) 131 (0, 0))
  have Kt := hid (Blk.new (w := w) (n := w.heap.size) rfl (stC g0 k0 r0 ik ii (.slice ma mn mc)) 131)
  have Hb := hid b1
  have hbz := b1.size
  have Hbs := hid (show w.heap.size + 1 = (w.alloc (.cells (stC g0 k0 r0 ik ii (.slice ma mn mc)) 131 (0, 0))).heap.size by simp only [World.size_alloc])
  clear b1 
  have Kg := hid (hk.old (.cells (stC g0 k0 r0 ik ii (.slice ma mn mc)) 131 (0, 0)))
  have Kq := hid (kq.old (.cells (stC g0 k0 r0 ik ii (.slice ma mn mc)) 131 (0, 0)))
  have Kf := hid (kf.old (.cells (stC g0 k0 r0 ik ii (.slice ma mn mc)) 131 (0, 0)))
  have HD := hid (hd.below Hb.out)
  have HT := hid (hT.butIn (ButIn.of_below Hb.out))
  have hgl := hk.lt
  have hql := kq.lt
  have hfl := kf.lt
  have hpl := hd.kp.lt
  have hbl := hd.kb.lt
  have hz2 := hd.z2
  have hml := hT.text.length
  have HG := hid hG
  have HL := hid hL
  clear kq hk kf hd hT hG hL
  have c10 : (w.alloc (.cells (stC g0 k0 r0 ik ii (.slice ma mn mc)) 131 (0, 0))).cell? ⟨s, 10, none⟩ = some (.pointer (some ⟨f, 0, none⟩)) := by rw [Kg.out.cell]; rfl
  go_enter Tryz.func58, Tryz.ntmps58
  go_wp2_with fail
  clear c10
  refine (marks_any f fg fk fh 87 _ Kf.out).mono ?_
  rintro e w1 ⟨rfl, b1⟩
  have HB1 := hid (Below.on Hb.out b1)
  have Kg1 := hid (Kg.out.below b1)
  have Kt1 := hid (Kt.out.below b1)
  have hs1 := HB1.out.size
  clear b1
  go_wp2_with (first
     | (
        refine wpList_store_blk rfl 85 _ _ rfl (w1.heap.size) #[.int .i64 fg, .int .i64 fk, .int .i64 fh] rfl rfl _ 85 (Blk.new rfl #[.int .i64 0, .int .i64 0, .int .i64 0] _) 3 size_pfence rfl rfl (by simp [Value.oneCell']) ?_
        intro w2 hb2 hk2
        have h2 := hb2.below ((Below.refl w1.heap.size w1).alloc (Nat.le_refl _) _) (by simp only [World.size_alloc]; omega) (Nat.le_refl _)
        have HB2 := hid (Below.on HB1.out h2)
        have hs2 := h2.size
        have ht2 := hk2.lt
        have Kn2 := hid hk2
        have Kg2 := hid (Kg1.out.below h2)
        have Kt2 := hid (Kt1.out.below h2)
        have d0 : w2.cell? ⟨w.heap.size, 0, none⟩ = some (.int .i64 g0) := by rw [Kt2.out.cell]; rfl
        have d1 : w2.cell? ⟨w.heap.size, 1, none⟩ = some (.int .i64 k0) := by rw [Kt2.out.cell]; rfl
        have d2 : w2.cell? ⟨w.heap.size, 2, none⟩ = some (.int .i64 r0) := by rw [Kt2.out.cell]; rfl
        
        clear hb2 hk2 h2)
     | (refine wpList_load_blk rfl 85 _ rfl (w1.heap.size) rfl _ 85 Kn2.out _ Tryz.underlying85 rfl 3 size_pfence rfl ?_))
  clear d0 d1 d2
  refine (least_any g0 k0 r0 fg fk fh w2).mono ?_
  rintro e w3 ⟨rfl, b3⟩
  rw [HG.out, HL.out]
  have HB3 := hid (Below.on HB2.out b3)
  have Kg3 := hid (Kg2.out.below b3)
  have Kt3 := hid (Kt2.out.below b3)
  have hs3 := b3.size
  clear b3
  go_wp2_with (first
     | (
        refine wpList_store_blk rfl 85 _ _ rfl (w3.heap.size) #[.int .i64 G, .int .i64 K, .int .i64 R] rfl rfl _ 85 (Blk.new rfl #[.int .i64 0, .int .i64 0, .int .i64 0] _) 3 size_pfence rfl rfl (by simp [Value.oneCell']) ?_
        intro w4 hb4 hk4
        have h4 := hb4.below ((Below.refl w3.heap.size w3).alloc (Nat.le_refl _) _) (by simp only [World.size_alloc]; omega) (Nat.le_refl _)
        have HB4 := hid (Below.on HB3.out h4)
        have hs4 := h4.size
        have ht4 := hk4.lt
        have Kn4 := hid hk4
        have Kg4 := hid (Kg3.out.below h4)
        have Kt4 := hid (Kt3.out.below h4)
        have d0 : w4.cell? ⟨w3.heap.size, 0, none⟩ = some (.int .i64 G) := by rw [Kn4.out.cell]; rfl
        have d1 : w4.cell? ⟨w3.heap.size, 1, none⟩ = some (.int .i64 K) := by rw [Kn4.out.cell]; rfl
        have d2 : w4.cell? ⟨w3.heap.size, 2, none⟩ = some (.int .i64 R) := by rw [Kn4.out.cell]; rfl
        
        clear hb4 hk4 h4)
     | (refine wpList_load_mid rfl 129 _ rfl (w.heap.size) 3 rfl _ _ (show w4.rangeAt (w.heap.size) 3 [.int .i64 ik, .int .i64 ii, .slice ma mn mc] from fun j u hu => by
        rw [Kt4.out.cell]
        match j, hu with
        | 0, hu => exact hu
        | 1, hu => exact hu
        | 2, hu => exact hu
        | n + 3, hu => simp at hu) Tryz.underlying129 rfl size_intent ?_)
     | (
        refine wpList_store_blk rfl 131 _ _ rfl (w4.heap.size) (stC (G + 1) K R ik ii (.slice ma mn mc)) rfl rfl _ 131 (Blk.new rfl (stC 0 0 0 0 0 (.slice none 0 0)) _) 6 size_state rfl rfl (stC_ones _ _ _ _ _ _ _ _) ?_
        intro w5 hb5 hk5
        have h5 := hb5.below ((Below.refl w4.heap.size w4).alloc (Nat.le_refl _) _) (by simp only [World.size_alloc]; omega) (Nat.le_refl _)
        have HB5 := hid (Below.on HB4.out h5)
        have hs5 := h5.size
        have ht5 := hk5.lt
        have Kn5 := hid hk5
        have Kg5 := hid (Kg4.out.below h5)
        have Kt5 := hid (Kt4.out.below h5)
        
        clear hb5 hk5 h5)
     | (refine wpList_load_blk rfl 131 _ rfl (w4.heap.size) rfl _ 131 Kn5.out _ Tryz.underlying131 rfl 6 size_state rfl ?_))
  clear d0 d1 d2
  refine (sraise_any w5 s f (sgC gs ks rs iks iis mvs nx tt bt q f false) (.slice ma mn mc) (G + 1) K R ik ii fg fk fh Kg5.out rfl ((show Blk w f #[.int .i64 fg, .int .i64 fk, .int .i64 fh] 87 from kf0.out).below HB5.out) nsf).mono ?_
  rintro e w6 ⟨rfl, b6, k6⟩
  have Kg6 := hid (b6.blk Kg5.out nsf)
  have Kn6 := hid (b6.blk Kn5.out (by omega))
  have Kf6 := hid k6
  have HX6 := hid (show FlowB.ButIn [f] w w6 from ButIn.on (ButIn.of_below HB5.out) (ButIn.of_but b6 (by simp)))
  have hs6 := b6.size
  clear b6 k6
  go_wp2_with (refine wpList_load_blk rfl 131 _ rfl (w4.heap.size) rfl _ 131 Kn6.out _ Tryz.underlying131 rfl 6 size_state rfl ?_)
  refine (sreplace_ok w6 s q f p bb z n B af kv tv mvs a0 T (G + 1) K R ik ii gs ks rs iks iis nx tt bt ma mn mc m Kg6.out (HX6.out.blk kq0.out (by simp; omega)) (hd0.out.butQ HX6.out (by omega) (by omega)) ⟨hT0.out.text.butIn (fun x hx => by have := hT0.out.out x hx; simp only [List.mem_cons, List.not_mem_nil, or_false] at this ⊢; omega) HX6.out, fun x hx => by have := hT0.out.out x hx; simp only [List.mem_cons, List.not_mem_nil, or_false] at this ⊢; omega⟩ hmn hz ha (by omega) ⟨by omega, by omega⟩ ⟨by omega, by omega, by omega⟩ ⟨by omega, by omega⟩ ⟨by omega, by omega⟩ ⟨by omega, by omega⟩ ⟨by omega, by omega⟩ ⟨by omega, by omega⟩).mono ?_
  rintro e w7 ⟨rfl, b7, k7, d7, a7, c7', q7, t7, o7⟩
  have Ks7 := hid k7
  have Kq7 := hid q7
  have HD7 := hid d7
  have Kf7 := hid (b7.blk Kf6.out (by simp; omega))
  have Kn7 := hid (b7.blk Kn6.out (by simp; omega))
  have HX7 := hid (ButIn.on (S := [p, bb, q, f, s]) (ButIn.wide HX6.out (by simp)) (ButIn.wide b7 (by simp)))
  have d2 : w7.cell? ⟨w4.heap.size, 2, none⟩ = some (.int .i64 R) := by rw [Kn7.out.cell]; rfl
  have HT7 := hid t7
  have HO7 := hid o7
  clear b7 k7 d7 q7 t7 o7
  go_wp2_with (
        refine wpList_store_cell_s rfl 3 _ _ rfl s 6 (.int .i64 R) rfl rfl rfl rfl _ 136 Ks7.out (by simp [sgC]) size_dint ?_
        intro w8 hb8 hk8
        have Ks8 := hid (show Blk w8 s (sgC (G + 1) K R ik ii (.slice ma mn mc) R tt bt q f false) 136 from hk8)
        have HB8 := hid hb8
        clear hb8 hk8)
  go_returns
  refine ⟨rfl, ButIn.on HX7.out (ButIn.of_but HB8.out (by simp)), Ks8.out, ⟨_, HB8.out.blk Kq7.out (by omega)⟩, ⟨_, _, _, HB8.out.blk Kf7.out (by omega)⟩, HD7.out.but HB8.out (by omega) (by omega)⟩
end Go.Proofs.YtpinamdgbijjlaaGreatDoor
namespace Go.Proofs.YtpinamdgbijjlaaGreatDoor
set_option maxRecDepth 100000
open Go.ChangeShapes Go.WideShapes Go.ChangeAt Go.RowKit
def zerosD : List Int := List.replicate (2 * 400) 0
theorem build_signer (tt bt : Int) (q f : Nat) (w : World) : (Instr.build 136 #[(2, .int .i64 tt), (3, .int .i64 bt), (4, .pointer (some ⟨q, 0, none⟩)), (5, .pointer (some ⟨f, 0, none⟩))]).run Tryz.prog w = .ok (.agg (sgC 0 0 0 0 0 (.slice none 0 0) 0 tt bt q f false)) w := by
  refine run_build w _ _ _ ?_
  obtain ⟨i0, hi, hz0⟩ := Option.map_eq_some_iff.1 (show (Tryz.prog.info? 136).map (·.zero) = some (some (.agg #[.int .i64 0, .int .i64 0, .int .i64 0, .int .i64 0, .int .i64 0, .slice none 0 0, .int .i64 0, .int .i64 0, .int .i64 0, .pointer none, .pointer none, .bool false])) by kernel_rfl)
  obtain ⟨fields, hu, hq⟩ : ∃ fields, Tryz.prog.underlying 136 = some (.struct fields) ∧ fields.toList.mapM (fun f => (Tryz.prog.info? f.type).map fun i => (f.offset, i.size)) = some [(0, 6), (6, 1), (7, 1), (8, 1), (9, 1), (10, 1), (11, 1)] := ⟨_, Tryz.underlying136, by kernel_rfl⟩
  have hz : (Value.agg #[.int .i64 0, .int .i64 0, .int .i64 0, .int .i64 0, .int .i64 0, .slice none 0 0, .int .i64 0, .int .i64 0, .int .i64 0, .pointer none, .pointer none, .bool false]).cells = #[.int .i64 0, .int .i64 0, .int .i64 0, .int .i64 0, .int .i64 0, .slice none 0 0, .int .i64 0, .int .i64 0, .int .i64 0, .pointer none, .pointer none, .bool false] := rfl
  unfold Program.built
  simp only [hi, hu, hz0, hq, hz]
  have t0 : splice ([.int .i64 0, .int .i64 0, .int .i64 0, .int .i64 0, .int .i64 0, .slice none 0 0, .int .i64 0, .int .i64 0, .int .i64 0, .pointer none, .pointer none, .bool false] : List Value) 7 (Value.int .i64 tt).cells.toList = [.int .i64 0, .int .i64 0, .int .i64 0, .int .i64 0, .int .i64 0, .slice none 0 0, .int .i64 0, .int .i64 tt, .int .i64 0, .pointer none, .pointer none, .bool false] := by rfl
  have t1 : splice ([.int .i64 0, .int .i64 0, .int .i64 0, .int .i64 0, .int .i64 0, .slice none 0 0, .int .i64 0, .int .i64 tt, .int .i64 0, .pointer none, .pointer none, .bool false] : List Value) 8 (Value.int .i64 bt).cells.toList = [.int .i64 0, .int .i64 0, .int .i64 0, .int .i64 0, .int .i64 0, .slice none 0 0, .int .i64 0, .int .i64 tt, .int .i64 bt, .pointer none, .pointer none, .bool false] := by rfl
  have t2 : splice ([.int .i64 0, .int .i64 0, .int .i64 0, .int .i64 0, .int .i64 0, .slice none 0 0, .int .i64 0, .int .i64 tt, .int .i64 bt, .pointer none, .pointer none, .bool false] : List Value) 9 (Value.pointer (some ⟨q, 0, none⟩)).cells.toList = [.int .i64 0, .int .i64 0, .int .i64 0, .int .i64 0, .int .i64 0, .slice none 0 0, .int .i64 0, .int .i64 tt, .int .i64 bt, .pointer (some ⟨q, 0, none⟩), .pointer none, .bool false] := by rfl
  have t3 : splice ([.int .i64 0, .int .i64 0, .int .i64 0, .int .i64 0, .int .i64 0, .slice none 0 0, .int .i64 0, .int .i64 tt, .int .i64 bt, .pointer (some ⟨q, 0, none⟩), .pointer none, .bool false] : List Value) 10 (Value.pointer (some ⟨f, 0, none⟩)).cells.toList = [.int .i64 0, .int .i64 0, .int .i64 0, .int .i64 0, .int .i64 0, .slice none 0 0, .int .i64 0, .int .i64 tt, .int .i64 bt, .pointer (some ⟨q, 0, none⟩), .pointer (some ⟨f, 0, none⟩), .bool false] := by rfl
  rw [fill_part _ _ 2 7 _ _ (by rfl) (by show 7 + 1 ≤ 12; omega), t0]
  rw [fill_part _ _ 3 8 _ _ (by rfl) (by show 8 + 1 ≤ 12; omega), List.toList_toArray, t1]
  rw [fill_part _ _ 4 9 _ _ (by rfl) (by show 9 + 1 ≤ 12; omega), List.toList_toArray, t2]
  rw [fill_part _ _ 5 10 _ _ (by rfl) (by show 10 + 1 ≤ 12; omega), List.toList_toArray, t3, Instr.fill]
  rfl
end Go.Proofs.YtpinamdgbijjlaaGreatDoor
namespace Go.Proofs.YtpinamdgbijjlaaGreatDoor
set_option maxRecDepth 100000
open Go.ChangeShapes Go.WideShapes Go.ChangeAt Go.RowKit
/-- a number's bytes, one below 0 as 2^64 more -/
def numD (k : Int) : List Int := be 8 (k % 18446744073709551616)
@[irreducible] def codeD (c : Int) (m : List Int) (k : Int) : List Int := macZ m ([c] ++ numD k)
theorem Dg.code (c : Int) (m : List Int) (k : Int) : Dg (codeD c m k) := by unfold codeD; exact ⟨macZ_length _ _, macZ_small _ _⟩
theorem numD_small (k : Int) : ∀ x ∈ numD k, 0 ≤ x ∧ x < 256 := be_small 8 _
theorem numD_length (k : Int) : (numD k).length = 8 := be_length 8 _
def NumK (k : Int) (v : Value) (w : World) : Prop := ∃ g, v = .slice (some ⟨g, 0, none⟩) 8 8 ∧ Blk w g ((numD k).map (Value.int .u8)).toArray 5
theorem NumK.below {k : Int} {v : Value} {w w' : World} (h : NumK k v w) (hb : Below w.heap.size w w') : NumK k v w' := by
  obtain ⟨g, h1, h2⟩ := h
  exact ⟨g, h1, h2.below hb⟩
theorem NumK.text {k : Int} {g : Nat} {w : World} (h : NumK k (.slice (some ⟨g, 0, none⟩) 8 8) w) : TextAt w (some ⟨g, 0, none⟩) 8 8 (numD k) := by
  obtain ⟨g', h1, h2⟩ := h
  injection h1 with h1
  injection h1 with h1
  injection h1 with h1
  subst h1
  exact TextAt.of_ints h2 (numD_length k) (by omega) (numD_small k)
set_option maxHeartbeats 4000000 in
theorem dnumber_any (k : Int) (w : World) :
    Calls Tryz.prog 27 #[.int .i64 k] w fun e w' => ∃ v, e = .returned v ∧ Below w.heap.size w w' ∧ NumK k v w' := by
  have h0 : 0 ≤ k % 18446744073709551616 := by omega
  have h1 : k % 18446744073709551616 < 18446744073709551616 := by omega
  go_enter Tryz.func27, Tryz.ntmps27
  go_wp2_with fail
  refine (number_any (k % 18446744073709551616) 8 8 _ h0 h1 (by decide)).mono ?_
  rintro e w1 ⟨g, hg, rfl, b1, k1⟩
  have H := hid (And.intro b1 k1)
  clear b1 k1
  go_wp2_with fail
  go_ret
  exact ⟨_, rfl, H.out.1, g, rfl, H.out.2⟩
set_option maxHeartbeats 4000000 in
theorem secret1_any (c k : Int) (m : List Int) (mb kb : Nat) (w : World) (hc : 0 ≤ c ∧ c < 256) (hM : Dg m) (hm : Blk w mb (m.map (Value.int .u8)).toArray 25) (hk : Blk w kb #[.int .i64 k] 3) (tab : ShaTab w) :
    Calls Tryz.prog 25 #[.int .u8 c, .pointer (some ⟨mb, 0, none⟩), .pointer (some ⟨kb, 0, none⟩)] w fun e w' => e = .returned (.agg ((codeD c m k).map (Value.int .u8)).toArray) ∧ Below w.heap.size w w' := by
  have HM : Hid (codeD c m k = macZ m ([c] ++ numD k)) := hid (by unfold codeD; rfl)
  have HD := hid (Dg.code c m k)
  have b1 := (Below.refl w.heap.size w).alloc (Nat.le_refl _) (.cells (byteCells 32 []) 25 (0, 0))
  have Kr0 := hid (Blk.new (w := w) (n := w.heap.size) rfl (byteCells 32 []) 25)
  have Hb := hid b1
  have HzA := hid zsize
  have hbz := b1.size
  have Hbs := hid (show w.heap.size + 1 = (w.alloc (.cells (byteCells 32 []) 25 (0, 0))).heap.size by simp only [World.size_alloc])
  have Km := hid (hm.below b1)
  have Kk := hid (hk.below b1)
  have Htab := hid tab
  clear b1 tab hm hk
  go_enter Tryz.func25, Tryz.ntmps25
  go_wp2_with fail
  refine wp_region_flow 7 [0, 1, 3] [2] [(.c 4, [], []), (.b 2, [], [5]), (.b 5, [6], [])] (by kernel_rfl) (by kernel_rfl) ?_
  apply Exists.intro
  refine ⟨fun w0 hb0 hF0 => ?_, ?_⟩
  · skip
    have y0 : ∀ w', (∃ x : Ext w0, w' = x.at_) → w'.cell? ⟨kb, 0, none⟩ = some (.int .i64 k) := fun w' ⟨x, hx⟩ => by rw [hx, ((Kk.out.below hb0).below x.same).cell]; rfl
    simp only [pick, List.getElem?_toArray, List.getElem?_cons_succ, List.getElem?_cons_zero, Option.toList_some, List.cons_append, List.nil_append]
    repeat (first | (go_big_quiet_want; refine quiet_load_one_s 3 _ rfl ⟨kb, 0, none⟩ rfl _ y0 _ Tryz.underlying3 rfl ?_; go_big_quiet_on; simp only [Act.put, List.setIfInBounds_toArray, List.set_cons_zero, List.set_cons_succ]) | go_big_quiet_step (fail))
    exact wpQuiet_nil rfl
  refine AlChk.one rfl (fun b => .slice (some ⟨b, 0, none⟩) 1 1) (.cells #[.int .u8 c] 5 (0, 0)) rfl (fun w2 hb2 hF2 => by go_simp) ?_
  refine AlChk.nil ?_
  refine Walk.call rfl 27 #[.int .i64 k] (NumK k) (fun v w' w'' h k => h.below k) rfl (fun w1 hb1 hF1 => ⟨by go_simp, dnumber_any k w1⟩) ?_
  rintro vn w1 hb1 hF1 ⟨gn, rfl, _⟩
  apply Exists.intro
  refine ⟨fun w2 hb2 hF2 => wpQuiet_nil rfl, ?_⟩
  refine AlChk.nil ?_
  refine Walk.blk rfl (fun b => .slice (some ⟨b, 0, none⟩) 1 1) (.cells #[.int .u8 c] 5 (0, 0)) (by simp) ?_
  intro b1 w2 hb2 hF2 hge1 _
  apply Exists.intro
  refine ⟨fun w2 hb2 hF2 => wpQuiet_nil rfl, ?_⟩
  refine AlChk.one rfl (fun b => .slice (some ⟨b, 0, none⟩) 2 2) (.cells #[.slice (some ⟨b1, 0, none⟩) 1 1, .slice (some ⟨gn, 0, none⟩) 8 8] 56 (0, 0)) rfl (fun w2 hb2 hF2 => by go_simp) ?_
  refine AlChk.nil ?_
  refine Walk.blk rfl (fun b => .slice (some ⟨b, 0, none⟩) 2 2) (.cells #[.slice (some ⟨b1, 0, none⟩) 1 1, .slice (some ⟨gn, 0, none⟩) 8 8] 56 (0, 0)) (by simp) ?_
  intro b9 w2 hb2 hF2 hge9 _
  apply Exists.intro
  refine ⟨fun w3 hb3 hF3 => ?_, ?_⟩
  · have k9 : Blk w3 b9 #[.slice (some ⟨b1, 0, none⟩) 1 1, .slice (some ⟨gn, 0, none⟩) 8 8] 56 := hF3.2
    have k1 : Blk w3 b1 (([c] : List Int).map (Value.int .u8)).toArray 5 := hF3.1.2
    have hW := hF3.1.1.2
    have hs := fun e : Ext w3 => code_any _ 32 32 m (some ⟨b9, 0, none⟩) 2 2 [[c], numD k] e.at_ (hM.text ((Km.out.below hb3).below e.same)) (TextsAt.of_blk (k9.below e.same) rfl (Nat.le_refl _) (by omega) fun j hj => by
      match j, hj with
      | 0, _ => exact ⟨_, _, _, rfl, TextAt.of_ints (k1.below e.same) rfl (by omega) (by simpa using hc)⟩
      | 1, _ => exact ⟨_, _, _, rfl, (hW.below e.same).text⟩) (by omega) (by omega) (by simp only [sumLen, List.map_cons, List.map_nil, List.sum_cons, List.sum_nil, numD_length, List.length_cons, List.length_nil]; omega) ((Htab.out.below (Below.on Hb.out hb3)).below e.same)
    rw [show ([[c], numD k] : List (List Int)).flatten = [c] ++ numD k by simp, ← HM.out] at hs
    simp only [pick, List.getElem?_toArray, List.getElem?_cons_succ, List.getElem?_cons_zero, Option.toList_some, List.cons_append, List.nil_append, Act.put, List.setIfInBounds_toArray, List.set_cons_zero, List.set_cons_succ]
    repeat (go_big_quiet_step (first | (go_at_call 26; exact Calls.ext (hs _))))
    exact wpQuiet_nil rfl
  refine AlChk.nil ?_
  refine Walk.fin fun w4 h4 _ _ => ?_
  simp only [List.drop_succ_cons, List.drop_zero]
  have HBw4 := hid (Below.on Hb.out h4)
  have hsw4 := HBw4.out.size
  have Kr0w4 := hid (Kr0.out.below h4)
  have Kmw4 := hid (Km.out.below h4)
  have Kkw4 := hid (Kk.out.below h4)
  clear h4
  go_wp2_with (refine wpList_store_blk rfl 25 _ _ rfl (w.heap.size) _ rfl rfl _ 25 Kr0w4.out 32 size_digest HzA.out HD.out.size (ints_one _ _) ?_; intro w7 hbut7 hk7)
  exact bodyPost_ret (v := (.agg ((codeD c m k).map (Value.int .u8)).toArray)) (results_blk Tryz.results25 _ (w.heap.size) rfl _ 25 hk7 _ Tryz.underlying25 rfl 32 size_digest HD.out.size) rfl ⟨rfl, hbut7.below HBw4.out HBw4.out.size (by omega)⟩
def zSecret : List Value := (secL zD zD zD).map (Value.int .u8)
theorem build_secret (a b c : List Int) (h1 : Dg a) (h2 : Dg b) (h3 : Dg c) (w : World) : (Instr.build 40 #[(0, (.agg (a.map (Value.int .u8)).toArray)), (1, (.agg (b.map (Value.int .u8)).toArray)), (2, (.agg (c.map (Value.int .u8)).toArray))]).run Tryz.prog w = .ok (.agg ((secL a b c).map (Value.int .u8)).toArray) w := by
  refine run_build w _ _ _ ?_
  obtain ⟨i0, hi, hz0⟩ := Option.map_eq_some_iff.1 (show (Tryz.prog.info? 40).map (·.zero) = some (some (.agg zSecret.toArray)) by kernel_rfl)
  obtain ⟨fields, hu, hq⟩ : ∃ fields, Tryz.prog.underlying 40 = some (.struct fields) ∧ fields.toList.mapM (fun f => (Tryz.prog.info? f.type).map fun i => (f.offset, i.size)) = some [(0, 32), (32, 32), (64, 32)] := ⟨_, Tryz.underlying40, by kernel_rfl⟩
  have hz : (Value.agg zSecret.toArray).cells = zSecret.toArray := rfl
  unfold Program.built
  simp only [hi, hu, hz0, hq, hz]
  have hs1 : (Value.agg (a.map (Value.int .u8)).toArray).cells.size = 32 := h1.size
  have hs2 : (Value.agg (b.map (Value.int .u8)).toArray).cells.size = 32 := h2.size
  have hs3 : (Value.agg (c.map (Value.int .u8)).toArray).cells.size = 32 := h3.size
  have q (x y z : List Int) (hx : Dg x) (hy : Dg y) (hz : Dg z) : ((secL x y z).map (Value.int .u8)).toArray.size = 96 := by rw [List.size_toArray, List.length_map, secL_length hx hy hz]
  have t0 : splice zSecret.toArray.toList 0 (Value.agg (a.map (Value.int .u8)).toArray).cells.toList = (secL a zD zD).map (Value.int .u8) := by
    show splice zSecret 0 (a.map (Value.int .u8)) = _
    unfold splice
    rw [List.length_map, h1.len]
    simp [zSecret, secL, zD]
  have t1 : splice ((secL a zD zD).map (Value.int .u8)) 32 (Value.agg (b.map (Value.int .u8)).toArray).cells.toList = (secL a b zD).map (Value.int .u8) := by
    show splice ((secL a zD zD).map (Value.int .u8)) 32 (b.map (Value.int .u8)) = _
    unfold splice secL
    rw [List.map_append, List.take_append_of_le_length (by rw [List.length_map, h1.len]; omega), List.take_of_length_le (by rw [List.length_map, h1.len]; omega), List.length_map, h2.len, List.drop_append, List.drop_of_length_le (by rw [List.length_map, h1.len]; omega)]
    simp [h1.len, zD]
  have t2 : splice ((secL a b zD).map (Value.int .u8)) 64 (Value.agg (c.map (Value.int .u8)).toArray).cells.toList = (secL a b c).map (Value.int .u8) := by
    show splice ((secL a b zD).map (Value.int .u8)) 64 (c.map (Value.int .u8)) = _
    rw [show secL a b zD = (a ++ b) ++ zD by simp [secL]]
    unfold splice secL
    rw [List.map_append, List.take_append_of_le_length (by rw [List.length_map, List.length_append, h1.len, h2.len]; omega), List.take_of_length_le (by rw [List.length_map, List.length_append, h1.len, h2.len]; omega), List.length_map, h3.len, List.drop_eq_nil_of_le (by simp [h1.len, h2.len, zD])]
    simp
  rw [fill_part _ _ 0 0 _ _ (by rw [hs1]; rfl) (by rw [hs1]; decide), t0]
  rw [fill_part _ _ 1 32 _ _ (by rw [hs2]; rfl) (by rw [hs2, q a zD zD h1 Dg.zero Dg.zero]; omega), List.toList_toArray, t1]
  rw [fill_part _ _ 2 64 _ _ (by rw [hs3]; rfl) (by rw [hs3, q a b zD h1 h2 Dg.zero]; omega), List.toList_toArray, t2, Instr.fill]
set_option maxHeartbeats 4000000 in
theorem dsecret_any (k : Int) (m : List Int) (w : World) (hM : Dg m) (tab : ShaTab w) :
    Calls Tryz.prog 10 #[(.agg (m.map (Value.int .u8)).toArray), .int .i64 k] w fun e w' => e = .returned (.agg ((secL (codeD 1 m k) (codeD 2 m k) (codeD 3 m k)).map (Value.int .u8)).toArray) ∧ Below w.heap.size w w' := by
  have b1 := (Below.refl w.heap.size w).alloc (Nat.le_refl _) (.cells (m.map (Value.int .u8)).toArray 25 (0, 0))
  have b2 := b1.alloc b1.size (.cells #[.int .i64 k] 3 (0, 0))
  have b3 := b2.alloc b2.size (.cells (byteCells 96 []) 40 (0, 0))
  have K0 := hid (((Blk.new (w := w) (n := w.heap.size) rfl (m.map (Value.int .u8)).toArray 25).old (.cells #[.int .i64 k] 3 (0, 0))).old (.cells (byteCells 96 []) 40 (0, 0)))
  have K1 := hid ((Blk.new (w := (w.alloc (.cells (m.map (Value.int .u8)).toArray 25 (0, 0)))) (n := w.heap.size + 1) (by simp only [World.size_alloc]) #[.int .i64 k] 3).old (.cells (byteCells 96 []) 40 (0, 0)))
  have Kr := hid (Blk.new (w := ((w.alloc (.cells (m.map (Value.int .u8)).toArray 25 (0, 0))).alloc (.cells #[.int .i64 k] 3 (0, 0)))) (n := w.heap.size + 1 + 1) (by simp only [World.size_alloc]) (byteCells 96 []) 40)
  have Hb := hid b3
  have hbz := b3.size
  have Htab := hid tab
  clear b1 b2 b3 tab
  go_enter Tryz.func10, Tryz.ntmps10
  go_wp2_with fail
  refine (secret1_any 1 k m (w.heap.size) (w.heap.size + 1) _ (by omega) hM K0.out K1.out (Htab.out.below Hb.out)).mono ?_
  rintro e w1 ⟨rfl, b1⟩
  have HB1 := hid (Below.on Hb.out b1)
  have K0w1 := hid (K0.out.below b1)
  have K1w1 := hid (K1.out.below b1)
  have Krw1 := hid (Kr.out.below b1)
  have hs1 := HB1.out.size
  clear b1
  go_wp2_with fail
  refine (secret1_any 2 k m (w.heap.size) (w.heap.size + 1) _ (by omega) hM K0w1.out K1w1.out (Htab.out.below HB1.out)).mono ?_
  rintro e w2 ⟨rfl, b2⟩
  have HB2 := hid (Below.on HB1.out b2)
  have K0w2 := hid (K0w1.out.below b2)
  have K1w2 := hid (K1w1.out.below b2)
  have Krw2 := hid (Krw1.out.below b2)
  have hs2 := HB2.out.size
  clear b2
  go_wp2_with fail
  refine (secret1_any 3 k m (w.heap.size) (w.heap.size + 1) _ (by omega) hM K0w2.out K1w2.out (Htab.out.below HB2.out)).mono ?_
  rintro e w3 ⟨rfl, b3⟩
  have HB3 := hid (Below.on HB2.out b3)
  have K0w3 := hid (K0w2.out.below b3)
  have K1w3 := hid (K1w2.out.below b3)
  have Krw3 := hid (Krw2.out.below b3)
  have hs3 := HB3.out.size
  clear b3
  have HB := hid (fun W : World => build_secret (codeD 1 m k) (codeD 2 m k) (codeD 3 m k) (Dg.code 1 m k) (Dg.code 2 m k) (Dg.code 3 m k) W)
  have Hss := hid (show ((secL (codeD 1 m k) (codeD 2 m k) (codeD 3 m k)).map (Value.int .u8)).toArray.size = 96 by rw [List.size_toArray, List.length_map, secL_length (Dg.code 1 m k) (Dg.code 2 m k) (Dg.code 3 m k)])
  have Hzs := hid (show (byteCells 96 []).size = 96 from byteCells_size 96 [] (by simp))
  generalize hS : secL (codeD 1 m k) (codeD 2 m k) (codeD 3 m k) = S at *
  go_wp2_with (first
     | (refine wpList_buildv rfl 40 _ rfl [(0, (.agg ((codeD 1 m k).map (Value.int .u8)).toArray)), (1, (.agg ((codeD 2 m k).map (Value.int .u8)).toArray)), (2, (.agg ((codeD 3 m k).map (Value.int .u8)).toArray))] rfl _ HB.out ?_)
     | (refine wpList_store_blk rfl 40 _ _ rfl (w.heap.size + 1 + 1) _ rfl rfl _ 40 Krw3.out 96 size_secret Hzs.out Hss.out (ints_one _ _) ?_; intro w7 hbut7 hk7))
  exact bodyPost_ret (v := (.agg (S.map (Value.int .u8)).toArray)) (results_blk Tryz.results10 _ (w.heap.size + 1 + 1) rfl _ 40 hk7 _ Tryz.underlying40 rfl 96 size_secret Hss.out) rfl ⟨by rw [hS], hbut7.below HB3.out HB3.out.size (by omega)⟩
end Go.Proofs.YtpinamdgbijjlaaGreatDoor
namespace Go.Proofs.YtpinamdgbijjlaaGreatDoor
set_option maxRecDepth 100000
open Go.ChangeShapes Go.WideShapes Go.ChangeAt Go.RowKit
/-- A number's bytes behind a byte: the row grows. -/
theorem run_append_head {w : World} {b : Nat} {c : Int} {xs : List Int} {a : Option Addr} {cap : Nat} (hb : Blk w b #[.int .u8 c] 5) (hT : TextAt w a 8 cap xs) (hc : 0 ≤ c ∧ c < 256) (ty : TypeId) :
    ∃ cp w', (Builtin.append_ #[56, 56] ty #[.slice (some ⟨b, 0, none⟩) 1 1, .slice a 8 cap]).run Tryz.prog w = .ok (.slice (some ⟨w.heap.size, 0, none⟩) 9 cp) w' ∧ Below w.heap.size w w' ∧ TextAt w' (some ⟨w.heap.size, 0, none⟩) 9 cp ([c] ++ xs) := by
  obtain ⟨i0, hi, hz0, hz1, hz2⟩ := info_parts info_byte
  have hxl := hT.length
  obtain ⟨x, o, rfl, -, -⟩ := hT.at_ (by omega)
  have hr := run_append_grow (P := Tryz.prog) w 56 ty 5 i0 (.int .u8 0) Tryz.underlying56 hi hz0 ⟨b, 0, none⟩ 1 1 [.int .u8 c] (by rw [hz1]; rfl) (fun j v hj => by
    obtain rfl : j = 0 := by have := (List.getElem?_eq_some_iff.1 hj).1; simp at this; omega
    rw [Addr.add_mid, hb.cell]
    simpa using hj) ⟨x, o, none⟩ 8 cap (xs.map (Value.int .u8)) (by rw [hz1, List.length_map, hxl]) hT.news (by omega) (by omega) (by rw [hz2]; decide +kernel)
  have hge := grownCap_ge w (1 + 8) 1 5
  have hcm := grownCap_le_maxLen w (1 + 8) 1 5 (by unfold maxLen; omega)
  refine ⟨grownCap w (1 + 8) 1 5, _, hr, ⟨rfl, rfl, rfl, by simp, fun k hk => heap_alloc_old w.drew _ hk⟩, ?_⟩
  refine TextAt.of_blk (cs := _) (T := 5) (heap_alloc_new w.drew _) (by simp [hxl]) (by omega) (by unfold maxLen at hcm; omega) (fun y hy => ?_) (fun j hj => ?_)
  · rcases List.mem_append.1 hy with h | h
    · simp at h; omega
    · exact hT.small y h
  · have hj9 : j < 9 := hj
    rw [← Array.getElem?_toList]
    simp only [Array.toList_append, List.append_assoc]
    rw [← List.append_assoc, List.getElem?_append_left (by simp [hxl]; omega)]
    have : j < ([c] ++ xs).length := by simp [hxl]; omega
    rw [Nat.zero_add]
    rw [show [Value.int IntKind.u8 c] ++ xs.map (Value.int .u8) = ([c] ++ xs).map (Value.int .u8) by simp, List.getElem?_map, List.getElem?_eq_getElem this, List.getD_eq_getElem?_getD, List.getElem?_eq_getElem this]
    rfl
theorem text_old {w : World} {d : Nat} {a : Option Addr} {len cap : Nat} {t : List Int} (h : TextAt w a len cap t) (h0 : 0 < len) (hd : w.heap.size ≤ d) : ∀ q : Addr, a = some q → q.block ≠ d := by
  intro q hq
  obtain ⟨x, o, rfl, hx, -⟩ := h.at_ h0
  cases hq
  simp only
  omega
set_option maxHeartbeats 4000000 in
theorem drefsecret_any (k : Int) (m : List Int) (w : World) (hM : Dg m) :
    Calls Tryz.prog 9 #[(.agg (m.map (Value.int .u8)).toArray), .int .i64 k] w fun e w' => e = .returned (.agg ((secL (codeD 1 m k) (codeD 2 m k) (codeD 3 m k)).map (Value.int .u8)).toArray) ∧ Below w.heap.size w w' := by
  have HM1 : Hid (codeD 1 m k = macZ m ([1] ++ numD k)) := hid (by unfold codeD; rfl)
  have HM2 : Hid (codeD 2 m k = macZ m ([2] ++ numD k)) := hid (by unfold codeD; rfl)
  have HM3 : Hid (codeD 3 m k = macZ m ([3] ++ numD k)) := hid (by unfold codeD; rfl)
  have b1 := (Below.refl w.heap.size w).alloc (Nat.le_refl _) (.cells (m.map (Value.int .u8)).toArray 25 (0, 0))
  have b2 := b1.alloc b1.size (.cells (byteCells 96 []) 40 (0, 0))
  have K0 := hid ((Blk.new (w := w) (n := w.heap.size) rfl (m.map (Value.int .u8)).toArray 25).old (.cells (byteCells 96 []) 40 (0, 0)))
  have Kr := hid (Blk.new (w := (w.alloc (.cells (m.map (Value.int .u8)).toArray 25 (0, 0)))) (n := w.heap.size + 1) (by simp only [World.size_alloc]) (byteCells 96 []) 40)
  have Hb := hid b2
  have hbz := b2.size
  have HzA := hid zsize
  clear b1 b2
  have h0 : 0 ≤ k % 18446744073709551616 := by omega
  have h1 : k % 18446744073709551616 < 18446744073709551616 := by omega
  go_enter Tryz.func9, Tryz.ntmps9
  go_wp2_with fail
  refine (refnumber_own (k % 18446744073709551616) 8 8 _ h0 h1 rfl (by omega)).mono ?_
  rintro e w1 ⟨v1, rfl, b1, o1⟩
  obtain ⟨na, nc, rfl, t1, -⟩ := o1.text
  rw [be_length] at t1
  have HB1 := hid (Below.on Hb.out b1)
  have HT1 := hid (show TextAt w1 na 8 nc (numD k) from t1)
  have K01 := hid (K0.out.below b1)
  have Kr1 := hid (Kr.out.below b1)
  have hs1 := HB1.out.size
  clear b1 o1 t1
  rw [be_length]
  go_wp2_with fail
  refine wp_region_flow 6 [0, 2] [1, 5] [(.b 1, [], []), (.c 3, [4], []), (.b 5, [], [])] (by kernel_rfl) (by kernel_rfl) ?_
  apply Exists.intro
  refine ⟨fun w0 hb0 hF0 => ?_, ?_⟩
  · simp only [pick, List.getElem?_toArray, List.getElem?_cons_succ, List.getElem?_cons_zero, Option.toList_some, List.cons_append, List.nil_append]
    repeat (go_big_quiet_step (fail))
    exact wpQuiet_nil rfl
  refine AlChk.one rfl (fun b => .slice (some ⟨b, 0, none⟩) 1 1) (.cells #[.int .u8 1] 5 (0, 0)) rfl (fun w2 hb2 hF2 => by go_simp) ?_
  refine AlChk.one rfl (fun b => .pointer (some ⟨b, 0, none⟩)) (.cells (byteCells 32 []) 25 (0, 0)) rfl (fun w3 hb3 hF3 => by go_simp; rfl) ?_
  refine AlChk.nil ?_
  refine Walk.blk rfl (fun b => .slice (some ⟨b, 0, none⟩) 1 1) (.cells #[.int .u8 1] 5 (0, 0)) (by simp) ?_
  intro bb y2 hb2 hF2 hge1 _
  apply Exists.intro
  refine ⟨fun y2 hb2 hF2 => wpQuiet_nil rfl, ?_⟩
  refine AlChk.nil ?_
  refine Walk.does rfl (fun v y => ∃ q cp, v = .slice (some ⟨q, 0, none⟩) 9 cp ∧ TextAt y (some ⟨q, 0, none⟩) 9 cp ([1] ++ numD k)) (fun v y y' h k => by obtain ⟨q, cp, h1, h2⟩ := h; exact ⟨q, cp, h1, h2.below k⟩) rfl (fun y1 hy1 hF1 => ?_) ?_
  · obtain ⟨cp, y', hr, hbl, ht⟩ := run_append_head (c := 1) hF1.2 (HT1.out.below hy1) (by omega) 56
    exact ⟨_, y', FlowB.exec_append rfl rfl rfl hr, hbl, _, cp, rfl, ht⟩
  rintro v2 y2 hy2 hF2 ⟨q, cp, rfl, _⟩
  apply Exists.intro
  refine ⟨fun y3 hb3 hF3 => ?_, ?_⟩
  · obtain ⟨q', cp', he, ht⟩ := hF3.2
    cases he
    have hs := fun e : Ext y3 => refcode_any _ 32 32 m (some ⟨q, 0, none⟩) 9 cp _ e.at_ (hM.text ((K01.out.below hb3).below e.same)) (ht.below e.same) (by omega) (by omega)
    rw [← HM1.out] at hs
    simp only [pick, List.getElem?_toArray, List.getElem?_cons_succ, List.getElem?_cons_zero, Option.toList_some, List.cons_append, List.nil_append, Act.put, List.setIfInBounds_toArray, List.set_cons_zero, List.set_cons_succ]
    repeat (go_big_quiet_step (first | (go_at_call 24; exact Calls.ext (hs _))))
    exact wpQuiet_nil rfl
  refine AlChk.nil ?_
  refine Walk.blk rfl (fun b => .pointer (some ⟨b, 0, none⟩)) (.cells (byteCells 32 []) 25 (0, 0)) (by simp) ?_
  intro d1 y3 hb3 hF3 hge3 _
  apply Exists.intro
  refine ⟨fun y4 hb4 hF4 => wpQuiet_nil rfl, ?_⟩
  refine AlChk.nil ?_
  refine Walk.fin fun y4 h4 hF4 _ => ?_
  simp only [List.drop_succ_cons, List.drop_zero]
  have Hk1 := hid (show Blk y4 d1 (byteCells 32 []) 25 from hF4.2)
  have HBy1 := hid (Below.on HB1.out h4)
  have K0y1 := hid (K01.out.below h4)
  have Kry1 := hid (Kr1.out.below h4)
  have HTy1 := hid (HT1.out.below h4)
  have hgd1 : w.heap.size + 1 + 1 ≤ d1 := Nat.le_trans Kr1.out.lt hge3
  have hgr1 : d1 ≠ w.heap.size + 1 := by omega
  have HN1 := hid (text_old HT1.out (by omega) hge3)
  clear h4 hF4 hge3
  have HD1 := hid (Dg.code 1 m k)
  go_wp2_with (
    refine wpList_store_blk rfl 25 _ _ rfl d1 _ rfl rfl _ 25 Hk1.out 32 size_digest HzA.out HD1.out.size (ints_one _ _) ?_
    intro w2 hb5 hk5
    have HB2 := hid (hb5.below HBy1.out HBy1.out.size (by omega))
    have Kd12 := hid hk5
    have K02 := hid (hb5.blk K0y1.out (by omega))
    have Kr2 := hid (hb5.blk Kry1.out (by omega))
    have HT2 := hid (HTy1.out.butIn (S := [d1]) (fun x hx => by simpa using HN1.out x hx) (ButIn.of_but hb5 (by simp)))
  
    clear hb5 hk5)
  simp only [Act.put, List.setIfInBounds_toArray, List.set_cons_zero, List.set_cons_succ]
  refine wp_region_flow 6 [0, 2] [1, 5] [(.b 1, [], []), (.c 3, [4], []), (.b 5, [], [])] (by kernel_rfl) (by kernel_rfl) ?_
  apply Exists.intro
  refine ⟨fun w0 hb0 hF0 => ?_, ?_⟩
  · simp only [pick, List.getElem?_toArray, List.getElem?_cons_succ, List.getElem?_cons_zero, Option.toList_some, List.cons_append, List.nil_append]
    repeat (go_big_quiet_step (fail))
    exact wpQuiet_nil rfl
  refine AlChk.one rfl (fun b => .slice (some ⟨b, 0, none⟩) 1 1) (.cells #[.int .u8 2] 5 (0, 0)) rfl (fun w2 hb2 hF2 => by go_simp) ?_
  refine AlChk.one rfl (fun b => .pointer (some ⟨b, 0, none⟩)) (.cells (byteCells 32 []) 25 (0, 0)) rfl (fun w3 hb3 hF3 => by go_simp; rfl) ?_
  refine AlChk.nil ?_
  refine Walk.blk rfl (fun b => .slice (some ⟨b, 0, none⟩) 1 1) (.cells #[.int .u8 2] 5 (0, 0)) (by simp) ?_
  intro bb y2 hb2 hF2 hge1 _
  apply Exists.intro
  refine ⟨fun y2 hb2 hF2 => wpQuiet_nil rfl, ?_⟩
  refine AlChk.nil ?_
  refine Walk.does rfl (fun v y => ∃ q cp, v = .slice (some ⟨q, 0, none⟩) 9 cp ∧ TextAt y (some ⟨q, 0, none⟩) 9 cp ([2] ++ numD k)) (fun v y y' h k => by obtain ⟨q, cp, h1, h2⟩ := h; exact ⟨q, cp, h1, h2.below k⟩) rfl (fun y1 hy1 hF1 => ?_) ?_
  · obtain ⟨cp, y', hr, hbl, ht⟩ := run_append_head (c := 2) hF1.2 (HT2.out.below hy1) (by omega) 56
    exact ⟨_, y', FlowB.exec_append rfl rfl rfl hr, hbl, _, cp, rfl, ht⟩
  rintro v2 y2 hy2 hF2 ⟨q, cp, rfl, _⟩
  apply Exists.intro
  refine ⟨fun y3 hb3 hF3 => ?_, ?_⟩
  · obtain ⟨q', cp', he, ht⟩ := hF3.2
    cases he
    have hs := fun e : Ext y3 => refcode_any _ 32 32 m (some ⟨q, 0, none⟩) 9 cp _ e.at_ (hM.text ((K02.out.below hb3).below e.same)) (ht.below e.same) (by omega) (by omega)
    rw [← HM2.out] at hs
    simp only [pick, List.getElem?_toArray, List.getElem?_cons_succ, List.getElem?_cons_zero, Option.toList_some, List.cons_append, List.nil_append, Act.put, List.setIfInBounds_toArray, List.set_cons_zero, List.set_cons_succ]
    repeat (go_big_quiet_step (first | (go_at_call 24; exact Calls.ext (hs _))))
    exact wpQuiet_nil rfl
  refine AlChk.nil ?_
  refine Walk.blk rfl (fun b => .pointer (some ⟨b, 0, none⟩)) (.cells (byteCells 32 []) 25 (0, 0)) (by simp) ?_
  intro d2 y3 hb3 hF3 hge3 _
  apply Exists.intro
  refine ⟨fun y4 hb4 hF4 => wpQuiet_nil rfl, ?_⟩
  refine AlChk.nil ?_
  refine Walk.fin fun y4 h4 hF4 _ => ?_
  simp only [List.drop_succ_cons, List.drop_zero]
  have Hk2 := hid (show Blk y4 d2 (byteCells 32 []) 25 from hF4.2)
  have HBy2 := hid (Below.on HB2.out h4)
  have K0y2 := hid (K02.out.below h4)
  have Kry2 := hid (Kr2.out.below h4)
  have HTy2 := hid (HT2.out.below h4)
  have hgd2 : w.heap.size + 1 + 1 ≤ d2 := Nat.le_trans Kr2.out.lt hge3
  have hgr2 : d2 ≠ w.heap.size + 1 := by omega
  have HN2 := hid (text_old HT2.out (by omega) hge3)
  have Kd1y2 := hid (Kd12.out.below h4)
  have hnd12 : d1 ≠ d2 := by have := Kd12.out.lt; omega
  clear h4 hF4 hge3
  have HD2 := hid (Dg.code 2 m k)
  go_wp2_with (
    refine wpList_store_blk rfl 25 _ _ rfl d2 _ rfl rfl _ 25 Hk2.out 32 size_digest HzA.out HD2.out.size (ints_one _ _) ?_
    intro w3 hb5 hk5
    have HB3 := hid (hb5.below HBy2.out HBy2.out.size (by omega))
    have Kd23 := hid hk5
    have K03 := hid (hb5.blk K0y2.out (by omega))
    have Kr3 := hid (hb5.blk Kry2.out (by omega))
    have HT3 := hid (HTy2.out.butIn (S := [d2]) (fun x hx => by simpa using HN2.out x hx) (ButIn.of_but hb5 (by simp)))
    have Kd13 := hid (hb5.blk Kd1y2.out hnd12)
    clear hb5 hk5)
  simp only [Act.put, List.setIfInBounds_toArray, List.set_cons_zero, List.set_cons_succ]
  refine wp_region_flow 6 [0, 2] [1, 5] [(.b 1, [], []), (.c 3, [4], []), (.b 5, [], [])] (by kernel_rfl) (by kernel_rfl) ?_
  apply Exists.intro
  refine ⟨fun w0 hb0 hF0 => ?_, ?_⟩
  · simp only [pick, List.getElem?_toArray, List.getElem?_cons_succ, List.getElem?_cons_zero, Option.toList_some, List.cons_append, List.nil_append]
    repeat (go_big_quiet_step (fail))
    exact wpQuiet_nil rfl
  refine AlChk.one rfl (fun b => .slice (some ⟨b, 0, none⟩) 1 1) (.cells #[.int .u8 3] 5 (0, 0)) rfl (fun w2 hb2 hF2 => by go_simp) ?_
  refine AlChk.one rfl (fun b => .pointer (some ⟨b, 0, none⟩)) (.cells (byteCells 32 []) 25 (0, 0)) rfl (fun w3 hb3 hF3 => by go_simp; rfl) ?_
  refine AlChk.nil ?_
  refine Walk.blk rfl (fun b => .slice (some ⟨b, 0, none⟩) 1 1) (.cells #[.int .u8 3] 5 (0, 0)) (by simp) ?_
  intro bb y2 hb2 hF2 hge1 _
  apply Exists.intro
  refine ⟨fun y2 hb2 hF2 => wpQuiet_nil rfl, ?_⟩
  refine AlChk.nil ?_
  refine Walk.does rfl (fun v y => ∃ q cp, v = .slice (some ⟨q, 0, none⟩) 9 cp ∧ TextAt y (some ⟨q, 0, none⟩) 9 cp ([3] ++ numD k)) (fun v y y' h k => by obtain ⟨q, cp, h1, h2⟩ := h; exact ⟨q, cp, h1, h2.below k⟩) rfl (fun y1 hy1 hF1 => ?_) ?_
  · obtain ⟨cp, y', hr, hbl, ht⟩ := run_append_head (c := 3) hF1.2 (HT3.out.below hy1) (by omega) 56
    exact ⟨_, y', FlowB.exec_append rfl rfl rfl hr, hbl, _, cp, rfl, ht⟩
  rintro v2 y2 hy2 hF2 ⟨q, cp, rfl, _⟩
  apply Exists.intro
  refine ⟨fun y3 hb3 hF3 => ?_, ?_⟩
  · obtain ⟨q', cp', he, ht⟩ := hF3.2
    cases he
    have hs := fun e : Ext y3 => refcode_any _ 32 32 m (some ⟨q, 0, none⟩) 9 cp _ e.at_ (hM.text ((K03.out.below hb3).below e.same)) (ht.below e.same) (by omega) (by omega)
    rw [← HM3.out] at hs
    simp only [pick, List.getElem?_toArray, List.getElem?_cons_succ, List.getElem?_cons_zero, Option.toList_some, List.cons_append, List.nil_append, Act.put, List.setIfInBounds_toArray, List.set_cons_zero, List.set_cons_succ]
    repeat (go_big_quiet_step (first | (go_at_call 24; exact Calls.ext (hs _))))
    exact wpQuiet_nil rfl
  refine AlChk.nil ?_
  refine Walk.blk rfl (fun b => .pointer (some ⟨b, 0, none⟩)) (.cells (byteCells 32 []) 25 (0, 0)) (by simp) ?_
  intro d3 y3 hb3 hF3 hge3 _
  apply Exists.intro
  refine ⟨fun y4 hb4 hF4 => wpQuiet_nil rfl, ?_⟩
  refine AlChk.nil ?_
  refine Walk.fin fun y4 h4 hF4 _ => ?_
  simp only [List.drop_succ_cons, List.drop_zero]
  have Hk3 := hid (show Blk y4 d3 (byteCells 32 []) 25 from hF4.2)
  have HBy3 := hid (Below.on HB3.out h4)
  have K0y3 := hid (K03.out.below h4)
  have Kry3 := hid (Kr3.out.below h4)
  have HTy3 := hid (HT3.out.below h4)
  have hgd3 : w.heap.size + 1 + 1 ≤ d3 := Nat.le_trans Kr3.out.lt hge3
  have hgr3 : d3 ≠ w.heap.size + 1 := by omega
  have HN3 := hid (text_old HT3.out (by omega) hge3)
  have Kd1y3 := hid (Kd13.out.below h4)
  have hnd13 : d1 ≠ d3 := by have := Kd13.out.lt; omega
  have Kd2y3 := hid (Kd23.out.below h4)
  have hnd23 : d2 ≠ d3 := by have := Kd23.out.lt; omega
  clear h4 hF4 hge3
  have HD3 := hid (Dg.code 3 m k)
  have HBS := hid (fun W : World => build_secret (codeD 1 m k) (codeD 2 m k) (codeD 3 m k) (Dg.code 1 m k) (Dg.code 2 m k) (Dg.code 3 m k) W)
  have Hss := hid (show ((secL (codeD 1 m k) (codeD 2 m k) (codeD 3 m k)).map (Value.int .u8)).toArray.size = 96 by rw [List.size_toArray, List.length_map, secL_length (Dg.code 1 m k) (Dg.code 2 m k) (Dg.code 3 m k)])
  have Hzs := hid (show (byteCells 96 []).size = 96 from byteCells_size 96 [] (by simp))
  generalize hS : secL (codeD 1 m k) (codeD 2 m k) (codeD 3 m k) = S at *
  generalize hC1 : codeD 1 m k = C1 at *
  generalize hC2 : codeD 2 m k = C2 at *
  generalize hC3 : codeD 3 m k = C3 at *
  go_wp2_with (first
     | (refine wpList_load_blk rfl 25 _ rfl d1 rfl _ 25 Kd14.out _ Tryz.underlying25 rfl 32 size_digest HD1.out.size ?_)
     | (refine wpList_load_blk rfl 25 _ rfl d2 rfl _ 25 Kd24.out _ Tryz.underlying25 rfl 32 size_digest HD2.out.size ?_)
     | (refine wpList_load_blk rfl 25 _ rfl d3 rfl _ 25 Kd34.out _ Tryz.underlying25 rfl 32 size_digest HD3.out.size ?_)
     | (refine wpList_buildv rfl 40 _ rfl [(0, (.agg (C1.map (Value.int .u8)).toArray)), (1, (.agg (C2.map (Value.int .u8)).toArray)), (2, (.agg (C3.map (Value.int .u8)).toArray))] rfl _ HBS.out ?_)
     | (refine wpList_store_blk rfl 40 _ _ rfl (w.heap.size + 1) _ rfl rfl _ 40 Kr4.out 96 size_secret Hzs.out Hss.out (ints_one _ _) ?_; intro w7 hbut7 hk7)
     | (
    refine wpList_store_blk rfl 25 _ _ rfl d3 _ rfl rfl _ 25 Hk3.out 32 size_digest HzA.out HD3.out.size (ints_one _ _) ?_
    intro w4 hb5 hk5
    have HB4 := hid (hb5.below HBy3.out HBy3.out.size (by omega))
    have Kd34 := hid hk5
    have K04 := hid (hb5.blk K0y3.out (by omega))
    have Kr4 := hid (hb5.blk Kry3.out (by omega))
    have HT4 := hid (HTy3.out.butIn (S := [d3]) (fun x hx => by simpa using HN3.out x hx) (ButIn.of_but hb5 (by simp)))
    have Kd14 := hid (hb5.blk Kd1y3.out hnd13)
    have Kd24 := hid (hb5.blk Kd2y3.out hnd23)
    clear hb5 hk5))
  exact bodyPost_ret (v := (.agg (S.map (Value.int .u8)).toArray)) (results_blk Tryz.results9 _ (w.heap.size + 1) rfl _ 40 hk7 _ Tryz.underlying40 rfl 96 size_secret Hss.out) rfl ⟨by rw [hC1, hC2, hC3, hS], hbut7.below HB4.out HB4.out.size (by omega)⟩
end Go.Proofs.YtpinamdgbijjlaaGreatDoor
