/-
  Layer 12: a new disk; a write that waits.
-/
import Derived.Test.YtmpgnpkodapidaaDkA
namespace Go.Proofs.Ytmpgnpkodapidaa
open Go.ChangeShapes Go.WideShapes Go.ChangeAt Go.RowKit

theorem fold_set : ∀ (vs : List Value) (k off : Nat) (acc : Array Value), off + k + vs.length ≤ acc.size → ((vs.zipIdx k).foldl (fun cs (x : Value × Nat) => cs.setIfInBounds (off + x.2) x.1) acc).toList = splice acc.toList (off + k) vs
  | [], k, off, acc, h => by simp [splice]
  | v :: vs, k, off, acc, h => by
    simp only [List.length_cons] at h
    rw [List.zipIdx_cons, List.foldl_cons, fold_set vs (k + 1) off _ (by rw [Array.size_setIfInBounds]; omega)]
    unfold splice
    rw [Array.toList_setIfInBounds, show off + (k + 1) = (off + k) + 1 by omega, List.drop_set_of_lt (by omega), List.length_cons, show off + k + 1 + vs.length = off + k + (vs.length + 1) by omega]
    rw [List.take_succ_eq_append_getElem (by rw [List.length_set, Array.length_toList]; omega), List.take_set_of_le (Nat.le_refl _), List.getElem_set_self]
    simp
theorem fill_part (place : Nat → Option (Nat × Nat)) (cells : Array Value) (i off : Nat) (v : Value) (rest : List (Nat × Value)) (hp : place i = some (off, v.cells.size)) (hs : off + v.cells.size ≤ cells.size) :
    Instr.fill place cells ((i, v) :: rest) = Instr.fill place (splice cells.toList off v.cells.toList).toArray rest := by
  rw [Instr.fill]
  simp only [hp]
  rw [if_neg (by simp only [ne_eq, not_true_eq_false, decide_false, Bool.false_or, decide_eq_true_eq]; omega)]
  congr 1
  have hf := fold_set v.cells.toList 0 off cells (by simpa using hs)
  apply Array.ext'
  rw [Nat.add_zero] at hf
  rw [← hf]
  have : v.cells.zipIdx = ((v.cells.toList.zipIdx 0)).toArray := by
    apply Array.ext'
    simp
  rw [this, List.foldl_toArray']
  all_goals first | rfl | simp
theorem make_bytes (m : Nat) (hm : m ≤ 1000000) (w0 : World) : (Instr.makeSlice 31 (.int .i64 m) (.int .i64 m)).run Try.prog w0 = .ok (.slice (some ⟨w0.heap.size, 0, none⟩) m m) (w0.alloc (.cells ((List.replicate m (0 : Int)).map (Value.int .u8)).toArray 5)) := by
  obtain ⟨i0, hi, hz0, hz1, hz2⟩ := info_parts info_byte
  have hr := run_makeSlice (P := Try.prog) w0 31 5 i0 (.int .u8 0) Try.underlying31 hi hz0 .i64 .i64 m m (by omega) (by omega) (by rw [hz1]; simp; omega) (by rw [hz2]; omega) (by omega)
  rw [hz1] at hr
  have he : ((List.replicate m (0 : Int)).map (Value.int .u8)).toArray = byteCells m [] := by simp [byteCells]
  rw [hr, he, ← make_cells]
  simp
  rfl

set_option maxHeartbeats 4000000 in
set_option maxRecDepth 100000 in
theorem new_good (w : World) (n z : Nat) (h1 : 1 ≤ n) (h2 : n ≤ 64) (h3 : 1 ≤ z) (h4 : z ≤ 512) :
    Calls Try.prog 9 #[.int .i64 n, .int .i64 z] w fun e w' => ∃ p bb, e = .returned (.tuple #[.pointer (some ⟨p, 0, none⟩), .int .i64 0]) ∧ w.heap.size ≤ p ∧ w.heap.size ≤ bb ∧ Below w.heap.size w w' ∧ DkAt w' p bb z n (List.replicate (n * z) 0) (.slice none 0 0) true false 0 (.slice none 0 0) := by
  have hI1 : ¬ ((n : Int) < 1) := by omega
  have hI2 : ¬ ((64 : Int) < (n : Int)) := by omega
  have hI3 : ¬ ((z : Int) < 1) := by omega
  have hI4 : ¬ ((512 : Int) < (z : Int)) := by omega
  have hm2 : n * z ≤ 32768 := Nat.le_trans (Nat.mul_le_mul h2 h4) (by omega)
  have hw : wrap64 ((n : Int) * (z : Int)) = (n : Int) * (z : Int) := by rw [← Int.natCast_mul]; unfold wrap64; omega
  have hmk := fun W => make_bytes (n * z) (by omega) W
  rw [Int.natCast_mul] at hmk
  have Hb := hid (Below.refl w.heap.size w)
  go_enter Try.func9, Try.ntmps9
  go_wp2_with fail
  go_returns
  have hr : Array.replicate (n * z) (Value.int .u8 0) = ((List.replicate (n * z) (0 : Int)).map (Value.int .u8)).toArray := by simp
  rw [hr]
  refine ⟨w.heap.size + 1, rfl, Nat.le_succ _, w.heap.size, Nat.le_refl _, ((Below.refl _ _).alloc (Nat.le_refl _) _).alloc (by simp only [World.size_alloc]; omega) _, ?_⟩
  have kb : Blk (w.alloc (.cells ((List.replicate (n * z) (0 : Int)).map (Value.int .u8)).toArray 5 (0, 0))) w.heap.size ((List.replicate (n * z) (0 : Int)).map (Value.int .u8)).toArray 5 := Blk.new rfl _ _
  refine ⟨?_, kb.old _, by omega, by rw [List.length_replicate], h3, h4, h1, h2, fun x hx => by have := List.eq_of_mem_replicate hx; omega⟩
  have kp := Blk.new (w := w.alloc (.cells ((List.replicate (n * z) (0 : Int)).map (Value.int .u8)).toArray 5 (0, 0))) (n := w.heap.size + 1) (by simp only [World.size_alloc]) (dkC z (List.replicate (n * z) (0 : Int)).length w.heap.size (.slice none 0 0) true false 0 (.slice none 0 0)) 75
  rw [List.length_replicate] at kp ⊢
  exact kp

theorem info_write : ∃ i z, Try.prog.info? 85 = some i ∧ i.zero = some z ∧ z.cells.size = 2 ∧ i.size = 2 ∧ i.bytes = 32 := by
  obtain ⟨i0, hi, h⟩ := Option.map_eq_some_iff.1 (show (Try.prog.info? 85).map (fun i => (i.zero, i.size, i.bytes)) = some (some (.agg #[.int .i64 0, .slice none 0 0]), 2, 32) by kernel_rfl)
  simp only [Prod.mk.injEq] at h
  exact ⟨i0, _, hi, h.1, rfl, h.2.1, h.2.2⟩
set_option maxRecDepth 100000 in
theorem run_build_write (x y : Value) (w : World) : (Instr.buildSlice 73 1 #[(0, .agg #[x, y])]).run Try.prog w = .ok (.slice (some ⟨w.heap.size, 0, none⟩) 1 1) (w.alloc (.cells #[x, y] 85 (0, 0))) := by
  obtain ⟨i, hi, h⟩ := Option.map_eq_some_iff.1 (show (Try.prog.info? 85).map (fun i => (i.zero, i.size)) = some (some (.agg #[.int .i64 0, .slice none 0 0]), 2) by kernel_rfl)
  simp only [Prod.mk.injEq] at h
  obtain ⟨hz0, hz2⟩ := h
  unfold Instr.buildSlice
  have hf : Instr.fill (fun i => some (i * 2, 2)) #[.int .i64 0, .slice none 0 0] [(0, .agg #[x, y])] = some #[x, y] := by
    rw [fill_part _ _ 0 0 _ _ rfl (by exact Nat.le_refl 2), Instr.fill]
    rfl
  have hm : (Array.range 2).map (fun j => (Value.agg #[.int .i64 0, .slice none 0 0]).cells[j % (Value.agg #[.int .i64 0, .slice none 0 0]).cells.size]!) = #[.int .i64 0, .slice none 0 0] := by
    refine Array.ext (by simp) fun j h1 h2 => ?_
    have : j < 2 := by simpa using h2
    rcases (show j = 0 ∨ j = 1 by omega) with rfl | rfl
    · rw [Array.getElem_map]; simp; rfl
    · rw [Array.getElem_map]; simp; rfl
  simp [run_underlying Try.underlying73, sizeOf, typeInfo, hi, hz2]
  rw [hm, hf]
  simp [newRow]
theorem exec_build_write {o : Oper} {A : Act} {w : World} {e : Operand} (ho : o.op = .buildSlice 73 1 #[(0, e)]) {x y : Value} (he : A.eval e = .agg #[x, y]) :
    (execOp A.eval o).run Try.prog w = .ok (.value (.slice (some ⟨w.heap.size, 0, none⟩) 1 1)) (w.alloc (.cells #[x, y] 85 (0, 0))) := by
  unfold execOp
  simp only [ho, List.map_toArray, List.map_cons, List.map_nil, he, Sem.run_bind, run_build_write, Result.andThen_ok, Sem.run_pure]
set_option maxRecDepth 100000 in
/-- The first write that waits. -/
theorem run_append_write {w : World} {b : Nat} {x y : Value} {T : TypeId} (ty : TypeId) (hk : Blk w b #[x, y] T) (hx : x.oneCell' = true) (hy : y.oneCell' = true) :
    ∃ g c w', (Builtin.append_ #[73, 73] ty #[.slice none 0 0, .slice (some ⟨b, 0, none⟩) 1 1]).run Try.prog w = .ok (.slice (some ⟨g, 0, none⟩) 1 c) w' ∧ Below w.heap.size w w' ∧ 1 ≤ c ∧ w.heap.size ≤ g ∧ ∃ cur, Blk w' g cur 85 ∧ cur[0]? = some x ∧ cur[1]? = some y := by
  obtain ⟨i, z, hi, hz, hzs, hsize, hby⟩ := info_write
  obtain ⟨v', w', h1, h2, h3, _⟩ := run_append_own (P := Try.prog) w w.heap.size 73 ty 85 i z 2 32 Try.underlying73 hi hz hsize hby hzs (by omega) (.slice none 0 0) 0 [] (World.ownsRow_nil w w.heap.size 85 2) ⟨b, 0, none⟩ 1 1 [x, y] rfl (news_blk (cs := [x, y]) hk) (fun u hu => by
    simp only [List.mem_cons, List.not_mem_nil, or_false] at hu
    rcases hu with rfl | rfl
    · exact hx
    · exact hy) (by unfold maxLen; omega) (by omega) (Nat.le_refl _)
  rw [Nat.zero_add, List.nil_append] at h2
  have hbel : Below w.heap.size w w' := ⟨h3.os, h3.tape, h3.output, h3.size, fun k hk => h3.block k hk (fun e => by cases e)⟩
  obtain ⟨q1, ⟨rfl, h0⟩ | ⟨g, cap, cur, rfl, hg, hh, hle, hmx, hsz, htk⟩⟩ := h2
  · omega
  · refine ⟨g, cap, w', h1, hbel, hle, hg, cur, hh, ?_, ?_⟩
    · rw [← Array.getElem?_toList, ← List.getElem?_take_of_lt (show 0 < 1 * 2 by omega), htk]; rfl
    · rw [← Array.getElem?_toList, ← List.getElem?_take_of_lt (show 1 < 1 * 2 by omega), htk]; rfl
theorem WaitAt.of_blk {w : World} {S : List Nat} {z g c i : Nat} {cur : Array Value} {t : List Int} {a : Option Addr} {c2 : Nat} (hk : Blk w g cur 85) (hc : 1 ≤ c) (h0 : cur[0]? = some (.int .i64 (i : Int))) (h1 : cur[1]? = some (.slice a z c2)) (hg : g ∉ S) (ht : TextO w S a z c2 t) : WaitAt w S z (some ⟨g, 0, none⟩) c [(i, t)] :=
  ⟨hc, .inr ⟨g, 0, rfl, hg, hk.lt, fun j hj => by
    obtain rfl : j = 0 := by simp at hj; omega
    exact ⟨by rw [hk.cell]; exact h0, a, c2, by rw [hk.cell]; exact h1, ht⟩⟩⟩

set_option maxHeartbeats 4000000 in
set_option maxRecDepth 100000 in
theorem write_first (w : World) (p bb z n : Nat) (B : List Int) (af : Int) (kv : Value) (hd : DkAt w p bb z n B (.slice none 0 0) true false af kv) (i : Nat) (hi : i < n) (ta : Option Addr) (tc : Nat) (t : List Int) (hT : TextAt w ta z tc t) :
    Calls Try.prog 16 #[.pointer (some ⟨p, 0, none⟩), .int .i64 i, .slice ta z tc] w fun e w' => ∃ wa wc, e = .returned (.int .i64 0) ∧ FlowB.ButIn [p, bb] w w' ∧ But p w w' ∧ DkAt w' p bb z n B (.slice wa 1 wc) true false af kv ∧ WaitAt w' [p, bb] z wa wc [(i, t)] := by
  have hz2 := hd.z2
  have Kd := hid hd.kp
  have Hb := hid (Below.refl w.heap.size w)
  have HD := hid hd
  have HT := hid hT
  have cd0 : w.cell? ⟨p, 0, none⟩ = some (.int .i64 z) := by rw [Kd.out.cell]; rfl
  have cd2 : w.cell? ⟨p, 2, none⟩ = some ((.slice none 0 0)) := by rw [Kd.out.cell]; rfl
  have cd3 : w.cell? ⟨p, 3, none⟩ = some (.bool true) := by rw [Kd.out.cell]; rfl
  go_enter Try.func16, Try.ntmps16
  go_wp2_with fail
  refine (has_in _ p bb z n B _ true false af kv (HD.out.below Hb.out) (i : Int) (by omega) (by omega)).mono ?_
  rintro e w1 ⟨rfl, bw1⟩
  have HBw1 := hid (Below.on Hb.out bw1)
  have hsw1 := HBw1.out.size
  have Kdw1 := hid (Kd.out.below bw1)
  clear bw1
  have cd0w1 : w1.cell? ⟨p, 0, none⟩ = some (.int .i64 z) := by rw [Kdw1.out.cell]; rfl
  have cd2w1 : w1.cell? ⟨p, 2, none⟩ = some (.slice none 0 0) := by rw [Kdw1.out.cell]; rfl
  have cd3w1 : w1.cell? ⟨p, 3, none⟩ = some (.bool true) := by rw [Kdw1.out.cell]; rfl
  go_wp2_with fail
  refine (fails_unset _ p bb z n B _ true af kv (HD.out.below HBw1.out)).mono ?_
  rintro e w2 ⟨rfl, bw2⟩
  have HBw2 := hid (Below.on HBw1.out bw2)
  have hsw2 := HBw2.out.size
  have Kdw2 := hid (Kdw1.out.below bw2)
  clear bw2
  have cd0w2 : w2.cell? ⟨p, 0, none⟩ = some (.int .i64 z) := by rw [Kdw2.out.cell]; rfl
  have cd2w2 : w2.cell? ⟨p, 2, none⟩ = some (.slice none 0 0) := by rw [Kdw2.out.cell]; rfl
  have cd3w2 : w2.cell? ⟨p, 3, none⟩ = some (.bool true) := by rw [Kdw2.out.cell]; rfl
  go_wp2_with fail
  refine wp_region_flow 11 [0, 1, 2, 3, 4, 5, 6] [] [(.c 7, [8], [9]), (.b 9, [], []), (.c 10, [], [])] (by kernel_rfl) (by kernel_rfl) ?_
  apply Exists.intro
  refine ⟨fun w0 hb0 hF0 => ?_, ?_⟩
  · skip
    have y0 : ∀ w', (∃ x : Ext w0, w' = x.at_) → w'.cell? ⟨p, 2, none⟩ = some (.slice none 0 0) := fun w' ⟨x, hx⟩ => by rw [hx, ((Kdw2.out.below hb0).below x.same).cell]; rfl
    simp only [pick, List.getElem?_toArray, List.getElem?_cons_succ, List.getElem?_cons_zero, Option.toList_some, List.cons_append, List.nil_append]
    repeat (first | (go_big_quiet_want; refine quiet_load_one 73 _ rfl ⟨p, 2, none⟩ rfl _ y0 _ Try.underlying73 rfl ?_; go_big_quiet_on; simp only [Act.put, List.setIfInBounds_toArray, List.set_cons_zero, List.set_cons_succ]) | go_big_quiet_step (fail))
    exact wpQuiet_nil rfl
  refine AlChk.nil ?_
  refine Walk.call rfl 42 #[.slice ta z tc] (fun v w' => ∃ a c, v = .slice a z c ∧ TextAt w' a z c t ∧ ∀ q : Addr, a = some q → w2.heap.size ≤ q.block) (fun v w' w'' h k => by obtain ⟨a, c, h1, h2, h3⟩ := h; exact ⟨a, c, h1, h2.below k, h3⟩) rfl (fun w1 hb1 hF1 => ⟨by go_simp, ?_⟩) ?_
  · refine (clone_any ((HT.out.below HBw2.out).below hb1) (by omega)).mono ?_
    rintro e w2 ⟨a, c, rfl, b2, t2, o2⟩
    exact ⟨_, rfl, b2, a, c, rfl, t2, fun q hq => Nat.le_trans hb1.size (o2 q hq).1⟩
  rintro v1 w1 hb1 hF1 ⟨a1, c1, rfl, _, ha1⟩
  apply Exists.intro
  refine ⟨fun w0 hb0 hF0 => ?_, ?_⟩
  · skip
    simp only [pick, List.getElem?_toArray, List.getElem?_cons_succ, List.getElem?_cons_zero, Option.toList_some, List.cons_append, List.nil_append, Act.put, List.setIfInBounds_toArray, List.set_cons_zero, List.set_cons_succ]
    repeat (first | go_big_quiet_step (fail))
    exact wpQuiet_nil rfl
  refine AlChk.one rfl (fun b => .slice (some ⟨b, 0, none⟩) 1 1) (.cells #[.int .i64 (i : Int), .slice a1 z c1] 85 (0, 0)) rfl (fun w3 hb3 hF3 => exec_build_write rfl (by go_simp)) ?_
  refine AlChk.nil ?_
  refine Walk.blk rfl (fun b => .slice (some ⟨b, 0, none⟩) 1 1) (.cells #[.int .i64 (i : Int), .slice a1 z c1] 85 (0, 0)) (by simp) ?_
  intro b9 wz hbz_ hFz hge9 _
  apply Exists.intro
  refine ⟨fun w4 hb4 hF4 => wpQuiet_nil rfl, ?_⟩
  refine AlChk.nil ?_
  refine Walk.does rfl (fun v w' => ∃ g c, v = .slice (some ⟨g, 0, none⟩) 1 c ∧ 1 ≤ c ∧ w2.heap.size ≤ g ∧ ∃ cur, Blk w' g cur 85 ∧ cur[0]? = some (.int .i64 (i : Int)) ∧ cur[1]? = some (.slice a1 z c1)) (fun v w' w'' h k => by obtain ⟨g, c, h1, h2, h3, cur, h4, h5⟩ := h; exact ⟨g, c, h1, h2, h3, cur, h4.below k, h5⟩) rfl (fun w1 hb1 hF1 => ?_) ?_
  · obtain ⟨g, c, w2, hr, hb2, hc2, hg2, cur, hk2, hc0, hc1⟩ := run_append_write (w := w1) (b := b9) (x := .int .i64 (i : Int)) (y := .slice a1 z c1) (T := 85) 73 hF1.2 rfl rfl
    refine ⟨_, w2, FlowB.exec_append rfl rfl rfl hr, hb2, g, c, rfl, hc2, Nat.le_trans hb1.size hg2, cur, hk2, hc0, hc1⟩
  rintro v2 w2 hb2 hF2 ⟨g, c, rfl, hc, hg, _⟩
  apply Exists.intro
  refine ⟨fun w4 hb4 hF4 => wpQuiet_nil rfl, ?_⟩
  refine AlChk.nil ?_
  refine Walk.fin fun w3 hw3 hFw3 _ => ?_
  simp only [List.drop_succ_cons, List.drop_zero]
  have HFF := hid hFw3
  have HBw3 := hid (Below.on HBw2.out hw3)
  have hsw3 := HBw3.out.size
  have Kdw3 := hid (Kdw2.out.below hw3)
  clear hw3 hFw3
  go_wp2_with (
        refine wpList_store_cell rfl 73 _ _ rfl p 2 (.slice (some ⟨g, 0, none⟩) 1 c) rfl rfl rfl rfl (dkC z B.length bb (.slice none 0 0) true false af kv) 75 Kdw3.out (by simp [dkC]) size_waits ?_
        intro w9 hb9 hk9
        have Hb9 := hid hb9
        have Kd9 := hid (show Blk w9 p (dkC z B.length bb (.slice (some ⟨g, 0, none⟩) 1 c) true false af kv) 75 from hk9)
        clear hb9 hk9)
  go_returns
  have hI := ButIn.on (ButIn.of_below (S := [p, bb]) HBw3.out) (ButIn.of_but (S := [p, bb]) Hb9.out (by simp))
  have hplt := hd.kp.lt
  have hblt := hd.kb.lt
  obtain ⟨q1, q2⟩ := HFF.out
  obtain ⟨g', c', he, _, _, cur, hk, h0, h1⟩ := q2
  obtain ⟨⟨_, a', c2, he2, ht, _⟩, _⟩ := q1
  cases he
  cases he2
  have hsz0 := HBw2.out.size
  refine ⟨_, _, rfl, hI, But.trans (But.of HBw3.out) Hb9.out, ⟨Kd9.out, Hb9.out.blk ((HD.out.kb).below HBw3.out) (Ne.symm hd.ne), hd.ne, hd.len, hd.z1, hd.z2, hd.n1, hd.n2, hd.small⟩, ?_⟩
  refine WaitAt.of_blk (Hb9.out.blk hk (by omega)) hc h0 h1 (by simp only [List.mem_cons, List.not_mem_nil, or_false]; omega) ⟨?_, fun q hq => by have := ha1 q hq; simp only [List.mem_cons, List.not_mem_nil, or_false]; omega⟩
  exact ht.butIn (S := [p]) (fun q hq => by have := ha1 q hq; simp only [List.mem_cons, List.not_mem_nil, or_false]; omega) (ButIn.of_but Hb9.out (by simp))
end Go.Proofs.Ytmpgnpkodapidaa
