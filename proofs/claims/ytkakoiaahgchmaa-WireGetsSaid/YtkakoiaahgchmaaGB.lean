/-
  Layer 20: shapes, signatures as they come in.
-/
import Derived.Test.YtkakoiaahgchmaaGA
namespace Go.Proofs.Ytkakoiaahgchmaa
open Go.ChangeShapes Go.WideShapes Go.ChangeAt Go.RowKit

set_option maxHeartbeats 4000000 in
set_option maxRecDepth 100000 in
theorem refright_any (L V : Int) (w : World) : Calls Try.prog 8 #[.agg (shC L V)] w fun e w' => e = .returned (.bool (rightS L V)) ∧ Below w.heap.size w w' := by
  unfold shC
  by_cases h1 : 1 ≤ L
  · by_cases h2 : L ≤ 4
    · by_cases h3 : 1 ≤ V
      · by_cases h4 : V ≤ 4
        · go_enter Try.func8, Try.ntmps8
          go_wp2
          go_returns
          exact ⟨by simp [rightS, *] <;> omega, by go_grown⟩
        · have h4b : 4 < V := by omega
          go_enter Try.func8, Try.ntmps8
          go_wp2
          go_returns
          exact ⟨by simp [rightS, *] <;> omega, by go_grown⟩
      · have h3b : V < 1 := by omega
        go_enter Try.func8, Try.ntmps8
        go_wp2
        go_returns
        exact ⟨by simp [rightS, *] <;> omega, by go_grown⟩
    · have h2b : 4 < L := by omega
      go_enter Try.func8, Try.ntmps8
      go_wp2
      go_returns
      exact ⟨by simp [rightS, *] <;> omega, by go_grown⟩
  · have h1b : L < 1 := by omega
    go_enter Try.func8, Try.ntmps8
    go_wp2
    go_returns
    exact ⟨by simp [rightS, *] <;> omega, by go_grown⟩
set_option maxHeartbeats 4000000 in
set_option maxRecDepth 100000 in
theorem power_any (n : Nat) (hn : n ≤ 40) (w : World) : Calls Try.prog 31 #[.int .i64 (n : Int)] w fun e w' => e = .returned (.int .i64 ((2 ^ n : Nat) : Int)) ∧ Below w.heap.size w w' := by
  go_enter Try.func31, Try.ntmps31
  go_wp2_with fail
  go_loopw [3, 4] (fun mv iv wr => ∃ k p : Nat, k ≤ n ∧ p = 2 ^ k ∧ mv = .int .i64 (p : Int) ∧ iv = .int .i64 k ∧ Below w.heap.size w wr) (fun _ iv _ => n - (intOf iv).toNat)
  case atStart => exact ⟨0, 1, Nat.zero_le _, rfl, rfl, rfl, Below.refl _ _⟩
  case round =>
    obtain ⟨k, p, hk, hp, rfl, rfl, bel⟩ := hrel
    have hp40 : p ≤ 1099511627776 := by
      rw [hp]
      exact Nat.le_trans (Nat.pow_le_pow_right (by omega) (show k ≤ 40 by omega)) (by decide)
    have Hp := hid hp
    clear hp
    by_cases hlt : k < n
    · have hc0 : (k : Int) < n := by omega
      go_wp2_with fail
      exact ⟨⟨k + 1, p * 2, by omega, by rw [Hp.out, Nat.pow_succ], by go_num, by go_num, bel⟩, by simp [intOf]; omega⟩
    · obtain rfl : k = n := by omega
      have hc0 : ¬ ((k : Int) < k) := by omega
      go_wp2_with fail
      go_returns
      exact ⟨by simp [Hp.out], bel⟩
/-- How many indices a shape has. -/
def manyS (L V : Int) : Int := if rightS L V = true then ((2 ^ (L * V).toNat : Nat) : Int) else 0
theorem manyS_bad {L V : Int} (h : rightS L V = false) : manyS L V = 0 := by simp [manyS, h]
theorem refright_b (L V : Int) (b : Bool) (hb : rightS L V = b) (w : World) : Calls Try.prog 8 #[.agg (shC L V)] w fun e w' => e = .returned (.bool b) ∧ Below w.heap.size w w' := by
  rw [← hb]; exact refright_any L V w
theorem wrap_pow16 {n : Nat} (h : n ≤ 16) : wrap64 ((2 : Int) ^ n) = ((2 ^ n : Nat) : Int) := (by decide +kernel : ∀ i : Fin 17, wrap64 ((2 : Int) ^ i.val) = ((2 ^ i.val : Nat) : Int)) ⟨n, by omega⟩
set_option maxHeartbeats 4000000 in
set_option maxRecDepth 100000 in
theorem many_bad (L V : Int) (w : World) (hr : rightS L V = false) : Calls Try.prog 18 #[.agg (shC L V)] w fun e w' => e = .returned (.int .i64 (manyS L V)) ∧ Below w.heap.size w w' := by
  have b1 := (Below.refl w.heap.size w).alloc (Nat.le_refl _) (.cells (shC L V) 23 (0, 0))
  have Ksh := hid (Blk.new (w := w) (n := w.heap.size) rfl (shC L V) 23)
  have Hb := hid b1
  have Hsz2 := hid (show (shC L V).size = 2 from rfl)
  have c0 : (w.alloc (.cells (shC L V) 23 (0, 0))).cell? ⟨w.heap.size, 0, none⟩ = some (.int .i64 L) := by rw [Ksh.out.cell]; rfl
  have c1 : (w.alloc (.cells (shC L V) 23 (0, 0))).cell? ⟨w.heap.size, 1, none⟩ = some (.int .i64 V) := by rw [Ksh.out.cell]; rfl
  clear b1
  go_enter Try.func18, Try.ntmps18
  go_wp2_with (refine wpList_load_blk rfl 23 _ rfl (w.heap.size) rfl _ 23 Ksh.out _ Try.underlying23 rfl 2 size_shape Hsz2.out ?_)
  refine (hright_b L V false hr _).mono ?_
  rintro e w1 ⟨rfl, bw1⟩
  have HBw1 := hid (Below.on Hb.out bw1)
  have hsw1 := HBw1.out.size
  have Kshw1 := hid (Ksh.out.below bw1)
  clear bw1
  go_wp2_with fail
  go_returns
  exact ⟨by rw [manyS_bad hr]; rfl, HBw1.out⟩
set_option maxHeartbeats 4000000 in
set_option maxRecDepth 100000 in
theorem many_good (L V : Int) (w : World) (hr : rightS L V = true) : Calls Try.prog 18 #[.agg (shC L V)] w fun e w' => e = .returned (.int .i64 (manyS L V)) ∧ Below w.heap.size w w' := by
  have hr2 := hr
  simp only [rightS, decide_eq_true_eq] at hr2
  obtain ⟨n, hn⟩ : ∃ n : Nat, L * V = (n : Int) := ⟨(L * V).toNat, by have := Int.mul_nonneg (show 0 ≤ L by omega) (show 0 ≤ V by omega); omega⟩
  have hm16 : n ≤ 16 := by
    have h1 : L * V ≤ 4 * 4 := Int.mul_le_mul (by omega) (by omega) (by omega) (by omega)
    omega
  have hmz : manyS L V = ((2 ^ n : Nat) : Int) := by rw [manyS, if_pos hr, hn]; rfl
  rw [hmz]
  have b1 := (Below.refl w.heap.size w).alloc (Nat.le_refl _) (.cells (shC L V) 23 (0, 0))
  have Ksh := hid (Blk.new (w := w) (n := w.heap.size) rfl (shC L V) 23)
  have Hb := hid b1
  have Hsz2 := hid (show (shC L V).size = 2 from rfl)
  have c0 : (w.alloc (.cells (shC L V) 23 (0, 0))).cell? ⟨w.heap.size, 0, none⟩ = some (.int .i64 L) := by rw [Ksh.out.cell]; rfl
  have c1 : (w.alloc (.cells (shC L V) 23 (0, 0))).cell? ⟨w.heap.size, 1, none⟩ = some (.int .i64 V) := by rw [Ksh.out.cell]; rfl
  clear b1
  go_enter Try.func18, Try.ntmps18
  go_wp2_with (refine wpList_load_blk rfl 23 _ rfl (w.heap.size) rfl _ 23 Ksh.out _ Try.underlying23 rfl 2 size_shape Hsz2.out ?_)
  refine (hright_b L V true hr _).mono ?_
  rintro e w1 ⟨rfl, bw1⟩
  have HBw1 := hid (Below.on Hb.out bw1)
  have hsw1 := HBw1.out.size
  have Kshw1 := hid (Ksh.out.below bw1)
  clear bw1
  have d0 : w1.cell? ⟨w.heap.size, 0, none⟩ = some (.int .i64 L) := by rw [Kshw1.out.cell]; rfl
  have d1 : w1.cell? ⟨w.heap.size, 1, none⟩ = some (.int .i64 V) := by rw [Kshw1.out.cell]; rfl
  have hw := wrap_pow16 hm16
  go_wp2_with fail
  go_returns
  exact ⟨by simp [hw], HBw1.out⟩
theorem many_any (L V : Int) (w : World) : Calls Try.prog 18 #[.agg (shC L V)] w fun e w' => e = .returned (.int .i64 (manyS L V)) ∧ Below w.heap.size w w' := by
  cases hr : rightS L V with
  | false => exact many_bad L V w hr
  | true => exact many_good L V w hr
set_option maxHeartbeats 4000000 in
set_option maxRecDepth 100000 in
theorem refmany_bad (L V : Int) (w : World) (hr : rightS L V = false) : Calls Try.prog 21 #[.agg (shC L V)] w fun e w' => e = .returned (.int .i64 (manyS L V)) ∧ Below w.heap.size w w' := by
  have b1 := (Below.refl w.heap.size w).alloc (Nat.le_refl _) (.cells (shC L V) 23 (0, 0))
  have Ksh := hid (Blk.new (w := w) (n := w.heap.size) rfl (shC L V) 23)
  have Hb := hid b1
  have Hsz2 := hid (show (shC L V).size = 2 from rfl)
  have c0 : (w.alloc (.cells (shC L V) 23 (0, 0))).cell? ⟨w.heap.size, 0, none⟩ = some (.int .i64 L) := by rw [Ksh.out.cell]; rfl
  have c1 : (w.alloc (.cells (shC L V) 23 (0, 0))).cell? ⟨w.heap.size, 1, none⟩ = some (.int .i64 V) := by rw [Ksh.out.cell]; rfl
  clear b1
  go_enter Try.func21, Try.ntmps21
  go_wp2_with (refine wpList_load_blk rfl 23 _ rfl (w.heap.size) rfl _ 23 Ksh.out _ Try.underlying23 rfl 2 size_shape Hsz2.out ?_)
  refine (refright_b L V false hr _).mono ?_
  rintro e w1 ⟨rfl, bw1⟩
  have HBw1 := hid (Below.on Hb.out bw1)
  have hsw1 := HBw1.out.size
  have Kshw1 := hid (Ksh.out.below bw1)
  clear bw1
  go_wp2_with fail
  go_returns
  exact ⟨by rw [manyS_bad hr]; rfl, HBw1.out⟩
set_option maxHeartbeats 4000000 in
set_option maxRecDepth 100000 in
theorem refmany_good (L V : Int) (w : World) (hr : rightS L V = true) : Calls Try.prog 21 #[.agg (shC L V)] w fun e w' => e = .returned (.int .i64 (manyS L V)) ∧ Below w.heap.size w w' := by
  have hr2 := hr
  simp only [rightS, decide_eq_true_eq] at hr2
  obtain ⟨n, hn⟩ : ∃ n : Nat, L * V = (n : Int) := ⟨(L * V).toNat, by have := Int.mul_nonneg (show 0 ≤ L by omega) (show 0 ≤ V by omega); omega⟩
  have hm16 : n ≤ 16 := by
    have h1 : L * V ≤ 4 * 4 := Int.mul_le_mul (by omega) (by omega) (by omega) (by omega)
    omega
  have hmz : manyS L V = ((2 ^ n : Nat) : Int) := by rw [manyS, if_pos hr, hn]; rfl
  rw [hmz]
  have b1 := (Below.refl w.heap.size w).alloc (Nat.le_refl _) (.cells (shC L V) 23 (0, 0))
  have Ksh := hid (Blk.new (w := w) (n := w.heap.size) rfl (shC L V) 23)
  have Hb := hid b1
  have Hsz2 := hid (show (shC L V).size = 2 from rfl)
  have c0 : (w.alloc (.cells (shC L V) 23 (0, 0))).cell? ⟨w.heap.size, 0, none⟩ = some (.int .i64 L) := by rw [Ksh.out.cell]; rfl
  have c1 : (w.alloc (.cells (shC L V) 23 (0, 0))).cell? ⟨w.heap.size, 1, none⟩ = some (.int .i64 V) := by rw [Ksh.out.cell]; rfl
  clear b1
  go_enter Try.func21, Try.ntmps21
  go_wp2_with (refine wpList_load_blk rfl 23 _ rfl (w.heap.size) rfl _ 23 Ksh.out _ Try.underlying23 rfl 2 size_shape Hsz2.out ?_)
  refine (refright_b L V true hr _).mono ?_
  rintro e w1 ⟨rfl, bw1⟩
  have HBw1 := hid (Below.on Hb.out bw1)
  have hsw1 := HBw1.out.size
  have Kshw1 := hid (Ksh.out.below bw1)
  clear bw1
  have d0 : w1.cell? ⟨w.heap.size, 0, none⟩ = some (.int .i64 L) := by rw [Kshw1.out.cell]; rfl
  have d1 : w1.cell? ⟨w.heap.size, 1, none⟩ = some (.int .i64 V) := by rw [Kshw1.out.cell]; rfl
  go_wp2_with fail
  refine (power_any n (by omega) _).mono ?_
  rintro e w2 ⟨rfl, bw2⟩
  have HBw2 := hid (Below.on HBw1.out bw2)
  have hsw2 := HBw2.out.size
  have Kshw2 := hid (Kshw1.out.below bw2)
  clear bw2
  go_wp2_with fail
  go_returns
  exact ⟨rfl, HBw2.out⟩
theorem refmany_any (L V : Int) (w : World) : Calls Try.prog 21 #[.agg (shC L V)] w fun e w' => e = .returned (.int .i64 (manyS L V)) ∧ Below w.heap.size w w' := by
  cases hr : rightS L V with
  | false => exact refmany_bad L V w hr
  | true => exact refmany_good L V w hr
def zPub : List Value := pubC 0 0 zD zD
theorem build_pub (L V : Int) (root pub : List Int) (h1 : Dg root) (h2 : Dg pub) (w : World) : (Instr.build 53 #[(0, .agg (shC L V)), (1, .agg (root.map (Value.int .u8)).toArray), (2, .agg (pub.map (Value.int .u8)).toArray)]).run Try.prog w = .ok (.agg (pubC L V root pub).toArray) w := by
  refine run_build w _ _ _ ?_
  obtain ⟨i0, hi, hz0⟩ := Option.map_eq_some_iff.1 (show (Try.prog.info? 53).map (·.zero) = some (some (.agg zPub.toArray)) by kernel_rfl)
  obtain ⟨fields, hu, hq⟩ : ∃ fields, Try.prog.underlying 53 = some (.struct fields) ∧ fields.toList.mapM (fun f => (Try.prog.info? f.type).map fun i => (f.offset, i.size)) = some [(0, 2), (2, 32), (34, 32)] := ⟨_, Try.underlying53, by kernel_rfl⟩
  have hz : (Value.agg zPub.toArray).cells = zPub.toArray := rfl
  unfold Program.built
  simp only [hi, hu, hz0, hq, hz]
  have hs0 : (Value.agg (shC L V)).cells.size = 2 := rfl
  have hs1 : (Value.agg (root.map (Value.int .u8)).toArray).cells.size = 32 := h1.size
  have hs2 : (Value.agg (pub.map (Value.int .u8)).toArray).cells.size = 32 := h2.size
  have t0 : splice zPub.toArray.toList 0 (Value.agg (shC L V)).cells.toList = pubC L V zD zD := rfl
  have t1 : splice (pubC L V zD zD) 2 (Value.agg (root.map (Value.int .u8)).toArray).cells.toList = pubC L V root zD := by
    show splice (pubC L V zD zD) 2 (root.map (Value.int .u8)) = _
    unfold splice
    rw [List.length_map, h1.len]
    rfl
  have t2 : splice (pubC L V root zD) 34 (Value.agg (pub.map (Value.int .u8)).toArray).cells.toList = pubC L V root pub := by
    show splice (Value.int .i64 L :: Value.int .i64 V :: (root.map (Value.int .u8) ++ zD.map (Value.int .u8))) 34 (pub.map (Value.int .u8)) = _
    unfold splice
    rw [List.take_succ_cons, List.take_succ_cons, List.take_append_of_le_length (by rw [List.length_map, h1.len]; omega), List.take_of_length_le (by rw [List.length_map, h1.len]; omega), List.length_map, h2.len, List.drop_eq_nil_of_le (by simp [h1.len, zD])]
    simp [pubC]
  rw [fill_part _ _ 0 0 _ _ (by rw [hs0]; rfl) (by rw [hs0]; decide), t0]
  rw [fill_part _ _ 1 2 _ _ (by rw [hs1]; rfl) (by rw [hs1, pubC_size Dg.zero Dg.zero]; omega), List.toList_toArray, t1]
  rw [fill_part _ _ 2 34 _ _ (by rw [hs2]; rfl) (by rw [hs2, pubC_size h1 Dg.zero]; omega), List.toList_toArray, t2, Instr.fill]
theorem equalIn_dig (d : Nat) (xs : List Int) (h : Dg xs) (w : World) : (Op.equalIn (d + 2) 25 (.agg (xs.map (Value.int .u8)).toArray) (.agg (xs.map (Value.int .u8)).toArray)).run Try.prog w = .ok true w := by
  obtain ⟨i0, hi⟩ : ∃ i, Try.prog.info? 5 = some i := Option.isSome_iff_exists.1 (by kernel_rfl)
  rw [run_equalIn_array w (d + 1) _ _ Try.underlying25 hi, run_eqItems_ints d Try.underlying5 (by kernel_rfl) xs xs rfl w _ (by simp [h.len])]
  simp
theorem equalIn_shape (d : Nat) (L V : Int) (w : World) : (Op.equalIn (d + 2) 23 (.agg (shC L V)) (.agg (shC L V))).run Try.prog w = .ok true w := by
  obtain ⟨f0, f1, hu, t0, t1, o0, o1, n0, n1⟩ : ∃ f0 f1 : Field, Try.prog.underlying 23 = some (.struct #[f0, f1]) ∧ f0.type = 3 ∧ f1.type = 3 ∧ f0.offset = 0 ∧ f1.offset = 1 ∧ f0.name ≠ "_" ∧ f1.name ≠ "_" := ⟨_, _, Try.underlying23, rfl, rfl, rfl, rfl, by decide, by decide⟩
  have hf : Try.prog.fieldsOf 23 = #[f0, f1] := by unfold Program.fieldsOf; rw [hu]
  rw [run_equalIn_struct w (d + 1) 23 _ _ (by rw [hf]; exact hu) (by kernel_rfl), hf]
  simp only [Op.eqFields, n0, n1, t0, t1, o0, o1, ne_eq, not_false_eq_true, if_true, Sem.run_bind, part_int (shC L V) 0 (.int .i64 L) w rfl, part_int (shC L V) 1 (.int .i64 V) w rfl, Result.andThen_ok, run_equalIn_int w d 3 .i64 .i64 _ _ Try.underlying3, beq_self_eq_true, Bool.not_true, Bool.false_eq_true, if_false, Sem.run_pure]
theorem pubC_e0 (L V : Int) (root pub : List Int) : (pubC L V root pub).toArray.extract 0 (0 + 2) = shC L V := by
  rw [List.extract_toArray, List.extract_eq_take_drop]
  unfold pubC
  rw [List.drop_zero, Nat.zero_add, Nat.sub_zero, List.take_succ_cons, List.take_succ_cons, List.take_zero]
  rfl
theorem part_shape (cs : Array Value) (L V : Int) (o : Nat) (w : World) (h : cs.extract o (o + 2) = shC L V) : (part 23 cs o).run Try.prog w = .ok (.agg (shC L V)) w := by
  obtain ⟨i0, hi, hs⟩ := Option.map_eq_some_iff.1 size_shape
  have hagg : (isAgg 23).run Try.prog w = .ok true w := by
    unfold isAgg
    simp only [Sem.run_bind, run_underlying Try.underlying23, Result.andThen_ok]
    rfl
  unfold part
  simp [Sem.run_bind, hagg, sizeOf, typeInfo, hi, hs, h]
theorem eqFields_step {P : Program} {d : Nat} {cs : Array Value} {f : Field} {fs : List Field} {w : World} {u : Value} {T : TypeId} {o : Nat} (hn : f.name ≠ "_") (ht : f.type = T) (ho : f.offset = o) (hp : (part T cs o).run P w = .ok u w) (he : (Op.equalIn d T u u).run P w = .ok true w) (h : (Op.eqFields d cs cs fs).run P w = .ok true w) :
    (Op.eqFields d cs cs (f :: fs)).run P w = .ok true w := by
  subst ht ho
  unfold Op.eqFields
  simp only [hn, ne_eq, not_false_eq_true, if_true, Sem.run_bind, hp, he, Result.andThen_ok, Bool.not_true, Bool.false_eq_true, if_false, h]
theorem eqFields_nil {P : Program} {d : Nat} {cs : Array Value} {w : World} : (Op.eqFields d cs cs []).run P w = .ok true w := rfl
theorem equalIn_pub (d : Nat) (L V : Int) (root pub : List Int) (h1 : Dg root) (h2 : Dg pub) (w : World) : (Op.equalIn (d + 3) 53 (.agg (pubC L V root pub).toArray) (.agg (pubC L V root pub).toArray)).run Try.prog w = .ok true w := by
  obtain ⟨f0, f1, f2, hu, t0, t1, t2, o0, o1, o2, n0, n1, n2⟩ : ∃ f0 f1 f2 : Field, Try.prog.underlying 53 = some (.struct #[f0, f1, f2]) ∧ f0.type = 23 ∧ f1.type = 25 ∧ f2.type = 25 ∧ f0.offset = 0 ∧ f1.offset = 2 ∧ f2.offset = 34 ∧ f0.name ≠ "_" ∧ f1.name ≠ "_" ∧ f2.name ≠ "_" := ⟨_, _, _, Try.underlying53, rfl, rfl, rfl, rfl, rfl, rfl, by decide, by decide, by decide⟩
  have hf : Try.prog.fieldsOf 53 = #[f0, f1, f2] := by unfold Program.fieldsOf; rw [hu]
  have q0 := pubC_e0 L V root pub
  have q1 := pubC_e1 (L := L) (V := V) (pub := pub) h1
  have q2 := pubC_e2 (L := L) (V := V) h1 h2
  generalize (pubC L V root pub).toArray = cs at *
  rw [run_equalIn_struct w (d + 2) 53 _ _ (by rw [hf]; exact hu) (by kernel_rfl), hf]
  exact eqFields_step n0 t0 o0 (part_shape cs L V 0 w q0) (equalIn_shape d L V w) (eqFields_step n1 t1 o1 (part_dig cs root 2 w q1) (equalIn_dig d root h1 w) (eqFields_step n2 t2 o2 (part_dig cs pub 34 w q2) (equalIn_dig d pub h2 w) eqFields_nil))
theorem eq_pub_self (L V : Int) (root pub : List Int) (h1 : Dg root) (h2 : Dg pub) (w : World) : (binOp .eql 53 (.agg (pubC L V root pub).toArray) (.agg (pubC L V root pub).toArray)).run Try.prog w = .ok (.bool true) w := by
  have h := equalIn_pub 9997 L V root pub h1 h2 w
  rw [run_eql_struct, h]
  rfl
/-- A part: its one-time signature, and its way. -/
abbrev Prt := List (List Int) × List (List Int)
/-- Parts, in memory that was there. -/
structure PartsAt (w : World) (a : Option Addr) (len cap : Nat) (ps : List Prt) : Prop where
  length : ps.length = len
  le : len ≤ cap
  max : cap ≤ 9223372036854775807
  mem : (a = none ∧ len = 0 ∧ cap = 0) ∨ ∃ x o s, a = some ⟨x, o, s⟩ ∧ ∀ j, j < len → s = none ∧ x < w.heap.size ∧ ∃ u v, w.cell? ⟨x, o + j * 2, none⟩ = some u ∧ w.cell? ⟨x, o + j * 2 + 1, none⟩ = some v ∧ RowV (ps.getD j ([], [])).1.length (ps.getD j ([], [])).1 u w ∧ RowV (ps.getD j ([], [])).2.length (ps.getD j ([], [])).2 v w
theorem PartsAt.below {w w' : World} {a : Option Addr} {len cap : Nat} {ps : List Prt} (h : PartsAt w a len cap ps) (hb : Below w.heap.size w w') : PartsAt w' a len cap ps := by
  obtain ⟨h1, h2, h3, h | ⟨x, o, s, rfl, hc⟩⟩ := h
  · exact ⟨h1, h2, h3, .inl h⟩
  · refine ⟨h1, h2, h3, .inr ⟨x, o, s, rfl, fun j hj => ?_⟩⟩
    obtain ⟨q0, q1, u, v, q2, q3, q4, q5⟩ := hc j hj
    exact ⟨q0, Nat.lt_of_lt_of_le q1 hb.size, u, v, by rw [hb.cell (p := ⟨x, o + j * 2, none⟩) q1]; exact q2, by rw [hb.cell (p := ⟨x, o + j * 2 + 1, none⟩) q1]; exact q3, q4.below hb, q5.below hb⟩
theorem PartsAt.nil (w : World) : PartsAt w none 0 0 [] := ⟨rfl, Nat.le_refl _, by omega, .inl ⟨rfl, rfl, rfl⟩⟩
theorem PartsAt.at_ {w : World} {a : Option Addr} {len cap : Nat} {ps : List Prt} (h : PartsAt w a len cap ps) (h0 : 0 < len) : ∃ x o, a = some ⟨x, o, none⟩ ∧ x < w.heap.size ∧ ∀ j, j < len → ∃ u v, w.cell? ⟨x, o + j * 2, none⟩ = some u ∧ w.cell? ⟨x, o + j * 2 + 1, none⟩ = some v ∧ RowV (ps.getD j ([], [])).1.length (ps.getD j ([], [])).1 u w ∧ RowV (ps.getD j ([], [])).2.length (ps.getD j ([], [])).2 v w := by
  obtain ⟨h1, h2, h3, ⟨_, h, _⟩ | ⟨x, o, s, rfl, hc⟩⟩ := h
  · omega
  · obtain ⟨rfl, hx, _⟩ := hc 0 h0
    exact ⟨x, o, rfl, hx, fun j hj => (hc j hj).2.2⟩
set_option maxRecDepth 100000 in
theorem digs_cells {H : Type} {enc : TypeId × Value → H} {P : Program} {W : World} {n : Nat} {t e q : TypeId} {cs : List Value} {x : DataW H × List MemPlace} (hu : P.underlying t = some (.slice e)) (he : P.underlying e = some (.array 32 q)) (hq : P.underlying q = some (.int .u8))
    (ce : P.cellsOf e = 32) (cq : P.cellsOf q = 1) (h : DataW.trod enc P W 0 (fun _ => true) true n t cs = some x) :
    ∃ (a : Option Addr) (len cap : Nat) (ds : List (List Int)), cs = [.slice a len cap] ∧ DigsAt W a len cap ds := by
  rcases Go.Deep.open_slice hu h with ⟨rfl, _⟩ | ⟨x, len, cap, m, n, D, Pl, rfl, _, hl, hm, hmm, _, hall⟩
  · exact ⟨none, 0, 0, [], rfl, DigsAt.nil W⟩
  · obtain ⟨b, off, s⟩ := x
    simp only [if_true] at hmm
    have hall' : ∀ i, i < cap → ∃ dd : List Int, Dg dd ∧ W.cells? 0 ((⟨b, off, s⟩ : Addr).add (i * 32)) 32 = some (dd.map (Value.int .u8)) := fun i hi => by
      obtain ⟨cs', h1, h2⟩ := hall i (by omega)
      rw [ce] at h1
      obtain ⟨dd, h3, rfl⟩ := digest_cells he hq ce cq h2
      exact ⟨dd, h3, h1⟩
    let f : Nat → List Int := fun i => if h : i < cap then Classical.choose (hall' i h) else []
    have hf : ∀ i, i < cap → Dg (f i) ∧ W.cells? 0 ((⟨b, off, s⟩ : Addr).add (i * 32)) 32 = some ((f i).map (Value.int .u8)) := fun i hi => by
      simp only [f, hi, dif_pos]
      exact Classical.choose_spec (hall' i hi)
    refine ⟨_, len, cap, (List.range len).map f, rfl, ⟨by simp, hl, by unfold maxLen at hm; omega, fun d hd => ?_, .inr ⟨b, off, s, rfl, fun i hi => ?_⟩⟩⟩
    · simp only [List.mem_map, List.mem_range] at hd
      obtain ⟨i, hi, rfl⟩ := hd
      exact (hf i (by omega)).1
    · have hc := (World.cells?_some (hf i (by omega)).2).2.2
      have h0 := (World.cells?_some (hf 0 (by omega)).2).2.2 0 (by omega)
      have hl0 := (hf 0 (by omega)).1.len
      have hli := (hf i (by omega)).1.len
      rw [List.getElem?_map, List.getElem?_eq_getElem (by omega)] at h0
      have hs : s = none := by
        have := World.cell?_spot h0
        simpa [Addr.add] using this
      subst hs
      have hx : b < W.heap.size := by
        rw [Addr.add_mid, Addr.add_mid] at h0
        exact World.block_lt_of_cell? W _ h0
      refine ⟨rfl, hx, fun k v hv => ?_⟩
      have e : ((List.range len).map f).getD i [] = f i := by simp [hi]
      rw [e] at hv
      have hk : k < 32 := by
        have := (List.getElem?_eq_some_iff.1 hv).1
        simp only [List.length_map, hli] at this
        exact this
      have := hc k hk
      rw [Addr.add_mid, Addr.add_mid] at this
      rw [this]
      exact hv
set_option maxRecDepth 100000 in
theorem parts_cells {H : Type} {enc : TypeId × Value → H} {P : Program} {W : World} {n : Nat} {t e r d q : TypeId} {f0 f1 : Field} {cs : List Value} {x : DataW H × List MemPlace} (ht : P.underlying t = some (.slice e)) (hs : P.underlying e = some (.struct #[f0, f1]))
    (c2 : P.cellsOf e = 2) (o0 : f0.offset = 0) (o1 : f1.offset = 1) (t0 : f0.type = r) (t1 : f1.type = r) (cr : P.cellsOf r = 1)
    (hu : P.underlying r = some (.slice d)) (he : P.underlying d = some (.array 32 q)) (hq : P.underlying q = some (.int .u8)) (ce : P.cellsOf d = 32) (cq : P.cellsOf q = 1)
    (h : DataW.trod enc P W 0 (fun _ => true) true n t cs = some x) :
    ∃ (a : Option Addr) (len cap : Nat) (ps : List Prt), cs = [.slice a len cap] ∧ PartsAt W a len cap ps := by
  rcases Go.Deep.open_slice_pairs ht hs c2 o0 o1 (by rw [t0]; exact cr) (by rw [t1]; exact cr) h with ⟨rfl, _⟩ | ⟨x, len, cap, m, n, V0, V1, D0, D1, P0, P1, rfl, _, hl, hm, hmm, _, hall⟩
  · exact ⟨none, 0, 0, [], rfl, PartsAt.nil W⟩
  · obtain ⟨b, off, s⟩ := x
    simp only [if_true] at hmm
    have hall' : ∀ i, i < cap → ∃ p : Prt, RowV p.1.length p.1 (V0 i) W ∧ RowV p.2.length p.2 (V1 i) W := fun i hi => by
      obtain ⟨_, _, h1, h2⟩ := hall i (by omega)
      rw [t0] at h1
      rw [t1] at h2
      obtain ⟨a0, l0, k0, d0, e0, g0⟩ := digs_cells hu he hq ce cq h1
      obtain ⟨a1, l1, k1, d1, e1, g1⟩ := digs_cells hu he hq ce cq h2
      obtain rfl := g0.length
      obtain rfl := g1.length
      exact ⟨(d0, d1), ⟨a0, k0, by simpa using e0, g0⟩, ⟨a1, k1, by simpa using e1, g1⟩⟩
    let f : Nat → Prt := fun i => if h : i < cap then Classical.choose (hall' i h) else ([], [])
    have hf : ∀ i, i < cap → RowV (f i).1.length (f i).1 (V0 i) W ∧ RowV (f i).2.length (f i).2 (V1 i) W := fun i hi => by
      simp only [f, hi, dif_pos]
      exact Classical.choose_spec (hall' i hi)
    refine ⟨_, len, cap, (List.range len).map f, rfl, ⟨by simp, hl, by unfold maxLen at hm; omega, .inr ⟨b, off, s, rfl, fun i hi => ?_⟩⟩⟩
    obtain ⟨k0, k1, _, _⟩ := hall i (by omega)
    have hs : s = none := by
      have := World.cell?_spot (hall 0 (by omega)).1
      simpa [Addr.add] using this
    subst hs
    have e : ((List.range len).map f).getD i ([], []) = f i := by simp [hi]
    rw [e]
    rw [Addr.add_mid] at k0 k1
    exact ⟨rfl, World.block_lt_of_cell? W _ k0, V0 i, V1 i, k0, by rw [Nat.add_assoc]; exact k1, (hf i (by omega)).1, (hf i (by omega)).2⟩
set_option maxRecDepth 100000 in
/-- A signature, as it comes in. -/
theorem open_sig {H : Type} {enc : TypeId × Value → H} {W : World} {base : Nat} {v : Value} {d : DataW H} {p : List MemPlace} (hv : Value.okWide Try.prog W .any base 28 v) (h : DataW.Trod enc Try.prog W 0 (fun _ => true) true 28 v d p) :
    ∃ (i : Int) (r : List Int) (a : Option Addr) (n c : Nat) (ps : List Prt), v = .agg (sigC i r (.slice a n c)).toArray ∧ (Lit.int .i64 i).wf = true ∧ Dg r ∧ PartsAt W a n c ps := by
  obtain ⟨f0, f1, f2, hu, t0, t1, t2, o0, o1, o2⟩ : ∃ f0 f1 f2 : Field, Try.prog.underlying 28 = some (.struct #[f0, f1, f2]) ∧ f0.type = 3 ∧ f1.type = 25 ∧ f2.type = 26 ∧ f0.offset = 0 ∧ f1.offset = 1 ∧ f2.offset = 33 := ⟨_, _, _, Try.underlying28, rfl, rfl, rfl, rfl, rfl, rfl⟩
  obtain ⟨g0, g1, hs, s0, s1, p0, p1⟩ : ∃ f0 f1 : Field, Try.prog.underlying 46 = some (.struct #[f0, f1]) ∧ f0.type = 44 ∧ f1.type = 44 ∧ f0.offset = 0 ∧ f1.offset = 1 := ⟨_, _, Try.underlying46, rfl, rfl, rfl, rfl⟩
  have c32 : Try.prog.cellsOf 25 = 32 := by kernel_rfl
  have c34 : Try.prog.cellsOf 28 = 34 := by kernel_rfl
  have c1 : Try.prog.cellsOf 5 = 1 := by kernel_rfl
  have ci : Try.prog.cellsOf 3 = 1 := by kernel_rfl
  have cp : Try.prog.cellsOf 26 = 1 := by kernel_rfl
  have cd : Try.prog.cellsOf 44 = 1 := by kernel_rfl
  have c2 : Try.prog.cellsOf 46 = 2 := by kernel_rfl
  unfold Value.okWide at hv
  rw [hu] at hv
  obtain ⟨cs, rfl, hsz, _⟩ := hv
  obtain ⟨fuel, hf⟩ := h
  have hf : DataW.trod enc Try.prog W 0 (fun _ => true) true fuel 28 cs.toList = some (d, p) := hf
  obtain ⟨y0, y1, y2, n, _, hl, q0, q1, q2⟩ := Go.Deep.trod_struct3 hu hf
  rw [t0, o0, ci] at q0
  rw [t1, o1, c32] at q1
  rw [t2, o2, cp] at q2
  obtain ⟨i, e0, _, w0⟩ := DataW.trod_int Try.underlying3 q0
  obtain ⟨r, k1, e1⟩ := digest_cells Try.underlying25 Try.underlying5 c32 c1 q1
  obtain ⟨a, m, c, ps, e2, k2⟩ := parts_cells Try.underlying26 hs c2 p0 p1 s0 s1 cd Try.underlying44 Try.underlying25 Try.underlying5 c32 c1 q2
  refine ⟨i, r, a, m, c, ps, ?_, w0, k1, k2⟩
  refine congrArg Value.agg ?_
  apply Array.ext'
  rw [c34] at hl
  have h3 : cs.toList = (cs.toList.drop 0).take 1 ++ ((cs.toList.drop 1).take 32 ++ (cs.toList.drop 33).take 1) := by
    rw [List.take_of_length_le (l := cs.toList.drop 33) (by rw [List.length_drop]; omega)]
    rw [show cs.toList.drop 33 = (cs.toList.drop 1).drop 32 by rw [List.drop_drop], List.take_append_drop, List.drop_zero, List.take_append_drop]
  rw [h3, e0, e1, e2]
  rfl
set_option maxRecDepth 100000 in
/-- A key, as it comes in. -/
theorem open_pub {H : Type} {enc : TypeId × Value → H} {W : World} {base : Nat} {v : Value} {d : DataW H} {p : List MemPlace} (hv : Value.okWide Try.prog W .any base 53 v) (h : DataW.Trod enc Try.prog W 0 (fun _ => true) true 53 v d p) :
    ∃ (L V : Int) (root pub : List Int), v = .agg (pubC L V root pub).toArray ∧ (Lit.int .i64 L).wf = true ∧ (Lit.int .i64 V).wf = true ∧ Dg root ∧ Dg pub := by
  obtain ⟨f0, f1, f2, hu, t0, t1, t2, o0, o1, o2⟩ : ∃ f0 f1 f2 : Field, Try.prog.underlying 53 = some (.struct #[f0, f1, f2]) ∧ f0.type = 23 ∧ f1.type = 25 ∧ f2.type = 25 ∧ f0.offset = 0 ∧ f1.offset = 2 ∧ f2.offset = 34 := ⟨_, _, _, Try.underlying53, rfl, rfl, rfl, rfl, rfl, rfl⟩
  obtain ⟨g0, g1, hs, s0, s1, p0, p1⟩ : ∃ f0 f1 : Field, Try.prog.underlying 23 = some (.struct #[f0, f1]) ∧ f0.type = 3 ∧ f1.type = 3 ∧ f0.offset = 0 ∧ f1.offset = 1 := ⟨_, _, Try.underlying23, rfl, rfl, rfl, rfl⟩
  have c32 : Try.prog.cellsOf 25 = 32 := by kernel_rfl
  have c66 : Try.prog.cellsOf 53 = 66 := by kernel_rfl
  have c1 : Try.prog.cellsOf 5 = 1 := by kernel_rfl
  have ci : Try.prog.cellsOf 3 = 1 := by kernel_rfl
  have c2 : Try.prog.cellsOf 23 = 2 := by kernel_rfl
  unfold Value.okWide at hv
  rw [hu] at hv
  obtain ⟨cs, rfl, hsz, _⟩ := hv
  obtain ⟨fuel, hf⟩ := h
  have hf : DataW.trod enc Try.prog W 0 (fun _ => true) true fuel 53 cs.toList = some (d, p) := hf
  obtain ⟨y0, y1, y2, n, _, hl, q0, q1, q2⟩ := Go.Deep.trod_struct3 hu hf
  rw [t0, o0, c2] at q0
  rw [t1, o1, c32] at q1
  rw [t2, o2, c32] at q2
  obtain ⟨z0, z1, m, _, hl2, r0, r1⟩ := trod_struct2 hs q0
  rw [s0, p0, ci] at r0
  rw [s1, p1, ci] at r1
  obtain ⟨x, e0, _, w0⟩ := DataW.trod_int Try.underlying3 r0
  obtain ⟨y, e1, _, w1⟩ := DataW.trod_int Try.underlying3 r1
  obtain ⟨root, k1, e2⟩ := digest_cells Try.underlying25 Try.underlying5 c32 c1 q1
  obtain ⟨pub, k2, e3⟩ := digest_cells Try.underlying25 Try.underlying5 c32 c1 q2
  refine ⟨x, y, root, pub, ?_, w0, w1, k1, k2⟩
  refine congrArg Value.agg ?_
  apply Array.ext'
  rw [c66] at hl
  rw [c2] at hl2
  have h2 : (cs.toList.drop 0).take 2 = [.int .i64 x, .int .i64 y] := by
    obtain ⟨a, b, hab⟩ : ∃ a b, (cs.toList.drop 0).take 2 = [a, b] := by
      match (cs.toList.drop 0).take 2, hl2 with
      | [a, b], _ => exact ⟨a, b, rfl⟩
    rw [hab] at e0 e1 ⊢
    simp at e0 e1
    rw [e0, e1]
  have h3 : cs.toList = (cs.toList.drop 0).take 2 ++ ((cs.toList.drop 2).take 32 ++ (cs.toList.drop 34).take 32) := by
    rw [List.take_of_length_le (l := cs.toList.drop 34) (by rw [List.length_drop]; omega)]
    rw [show cs.toList.drop 34 = (cs.toList.drop 2).drop 32 by rw [List.drop_drop], List.take_append_drop, List.drop_zero, List.take_append_drop]
  rw [h3, h2, e2, e3]
  rfl
theorem size_part : (Try.prog.info? 46).map (·.size) = some 2 := by kernel_rfl
theorem size_ld : (Try.prog.info? 44).map (·.size) = some 1 := by kernel_rfl
theorem sigC_index {i : Int} {r : List Int} {pv : Value} {w : World} {b : Nat} {T : TypeId} (k : Blk w b (sigC i r pv).toArray T) : w.cell? ⟨b, 0, none⟩ = some (.int .i64 i) := by rw [k.cell]; rfl
theorem sigC_parts {i : Int} {r : List Int} {pv : Value} {w : World} {b : Nat} {T : TypeId} (h : Dg r) (k : Blk w b (sigC i r pv).toArray T) : w.cell? ⟨b, 33, none⟩ = some pv := by
  rw [k.cell]
  simp [sigC, h.len]
theorem sigC_r {i : Int} {r : List Int} {pv : Value} {w : World} {b : Nat} {T : TypeId} (k : Blk w b (sigC i r pv).toArray T) : w.rangeAt b 1 (r.map (Value.int .u8)) := fun j v hv => by
  have hj : j < r.length := by have := (List.getElem?_eq_some_iff.1 hv).1; simpa using this
  rw [k.cell, List.getElem?_toArray, ← hv, Nat.add_comm]
  unfold sigC
  rw [List.getElem?_cons_succ, List.getElem?_append_left (by rw [List.length_map]; exact hj)]
/-- What a part's place holds. -/
structure PartC (w : World) (x o : Nat) (p : Prt) (oa : Option Addr) (oc : Nat) (aa : Option Addr) (ac : Nat) : Prop where
  lt : x < w.heap.size
  c0 : w.cell? ⟨x, o, none⟩ = some (.slice oa p.1.length oc)
  c1 : w.cell? ⟨x, o + 1, none⟩ = some (.slice aa p.2.length ac)
  ots : DigsAt w oa p.1.length oc p.1
  auth : DigsAt w aa p.2.length ac p.2
theorem PartC.range {w : World} {x o : Nat} {p : Prt} {oa : Option Addr} {oc : Nat} {aa : Option Addr} {ac : Nat} (h : PartC w x o p oa oc aa ac) : w.rangeAt x o [.slice oa p.1.length oc, .slice aa p.2.length ac] := fun j v hv => by
  match j, hv with
  | 0, hv => rw [Nat.add_zero, h.c0]; exact hv
  | 1, hv => rw [h.c1]; exact hv
  | j + 2, hv => simp at hv
theorem PartC.below {w w' : World} {x o : Nat} {p : Prt} {oa : Option Addr} {oc : Nat} {aa : Option Addr} {ac : Nat} (h : PartC w x o p oa oc aa ac) (hb : Below w.heap.size w w') : PartC w' x o p oa oc aa ac :=
  ⟨Nat.lt_of_lt_of_le h.lt hb.size, by rw [hb.cell (p := ⟨x, o, none⟩) h.lt]; exact h.c0, by rw [hb.cell (p := ⟨x, o + 1, none⟩) h.lt]; exact h.c1, h.ots.below hb, h.auth.below hb⟩
theorem PartsAt.part {w : World} {a : Option Addr} {len cap : Nat} {ps : List Prt} (h : PartsAt w a len cap ps) {k : Nat} (hk : k < len) :
    ∃ x o oa oc aa ac, a = some ⟨x, o, none⟩ ∧ PartC w x (o + k * 2) (ps.getD k ([], [])) oa oc aa ac := by
  obtain ⟨x, o, rfl, hx, hc⟩ := h.at_ (by omega)
  obtain ⟨u, v, c0, c1, ⟨oa, oc, rfl, h0⟩, ⟨aa, ac, rfl, h1⟩⟩ := hc k hk
  exact ⟨x, o, oa, oc, aa, ac, rfl, hx, c0, c1, h0, h1⟩
/-- Are a signature's parts few? -/
def fewP (ps : List Prt) : Bool := decide (∀ j, j < ps.length → (ps.getD j ([], [])).1.length ≤ 100 ∧ (ps.getD j ([], [])).2.length ≤ 100) && decide (ps.length ≤ 20)
theorem fewP_bad {ps : List Prt} {k : Nat} (hk : k < ps.length) (h : ¬ ((ps.getD k ([], [])).1.length ≤ 100 ∧ (ps.getD k ([], [])).2.length ≤ 100)) : fewP ps = false := by
  unfold fewP
  rw [decide_eq_false (fun hh => h (hh k hk))]
  rfl
theorem fewP_good {ps : List Prt} (h : ∀ j, j < ps.length → (ps.getD j ([], [])).1.length ≤ 100 ∧ (ps.getD j ([], [])).2.length ≤ 100) : fewP ps = decide (ps.length ≤ 20) := by
  unfold fewP
  rw [decide_eq_true h]
  rfl
set_option maxHeartbeats 4000000 in
set_option maxRecDepth 100000 in
theorem reffew_any (i : Int) (r : List Int) (a : Option Addr) (n c : Nat) (ps : List Prt) (w : World) (hr : Dg r) (hP : PartsAt w a n c ps) :
    Calls Try.prog 5 #[.agg (sigC i r (.slice a n c)).toArray] w fun e w' => e = .returned (.bool (fewP ps)) ∧ Below w.heap.size w w' := by
  have hmx := hP.max
  have hle := hP.le
  have b1 := (Below.refl w.heap.size w).alloc (Nat.le_refl _) (.cells (sigC i r (.slice a n c)).toArray 28 (0, 0))
  have Kg := hid (Blk.new (w := w) (n := w.heap.size) rfl (sigC i r (.slice a n c)).toArray 28)
  have Hb := hid b1
  have hbz := b1.size
  have Hbs := hid (show w.heap.size + 1 = (w.alloc (.cells (sigC i r (.slice a n c)).toArray 28 (0, 0))).heap.size by simp only [World.size_alloc])
  clear b1 
  go_enter Try.func5, Try.ntmps5
  go_wp2_with fail
  go_loopw [3] (fun iv wr => ∃ k : Nat, k ≤ n ∧ iv = .int .i64 k ∧ Blk wr (w.heap.size) (sigC i r (.slice a n c)).toArray 28 ∧ Below w.heap.size w wr ∧ ∀ j, j < k → (ps.getD j ([], [])).1.length ≤ 100 ∧ (ps.getD j ([], [])).2.length ≤ 100) (fun iv _ => n - (intOf iv).toNat)
  case atStart => exact ⟨0, Nat.zero_le _, rfl, Kg.out, Hb.out, fun j hj => absurd hj (by omega)⟩
  case round =>
    obtain ⟨k, hk, rfl, kg, bel, hall⟩ := hrel
    have Kgwr := hid kg
    have HBwr := hid bel
    have hswr := bel.size
    have Hall := hid hall
    have g33 := sigC_parts hr kg
    clear kg bel hall
    by_cases hlt : k < n
    · have hc0 : (k : Int) < n := by omega
      obtain ⟨x, o, oa, oc, aa, ac, rfl, hpc⟩ := (hP.below HBwr.out).part hlt
      have HPC := hid hpc
      have p0 := hpc.c0
      have p1 := hpc.c1
      clear hpc
      have hkl : k < ps.length := by rw [hP.length]; exact hlt
      have Hbad := hid (fewP_bad hkl)
      obtain ⟨q, hq⟩ : ∃ q, ps.getD k ([], []) = q := ⟨_, rfl⟩
      have Hq := hid hq
      rw [hq] at Hbad HPC p0 p1
      clear hq
      by_cases h1 : q.1.length ≤ 100
      · have hd1 : ¬ (100 : Int) < q.1.length := by omega
        by_cases h2 : q.2.length ≤ 100
        · have hd2 : ¬ (100 : Int) < q.2.length := by omega
          go_wp2_with (refine wpList_index_s 2 (by first | rfl | go_simp) 26 _ _ rfl Try.underlying26 size_part x (o) (n) (c) rfl _ _ rfl k (by omega) (by omega) ?_)
          exact ⟨⟨k + 1, by omega, by first | rfl | simp, Kgwr.out, HBwr.out, fun j hj => by
            by_cases hjk : j = k
            · subst hjk; rw [Hq.out]; exact ⟨h1, h2⟩
            · exact Hall.out j (by omega)⟩, by simp [intOf]; omega⟩
        · have hd2 : (100 : Int) < q.2.length := by omega
          go_wp2_with (refine wpList_index_s 2 (by first | rfl | go_simp) 26 _ _ rfl Try.underlying26 size_part x (o) (n) (c) rfl _ _ rfl k (by omega) (by omega) ?_)
          go_returns
          exact ⟨by rw [Hbad.out (fun h => h2 h.2)]; rfl, HBwr.out⟩
      · have hd1 : (100 : Int) < q.1.length := by omega
        go_wp2_with (refine wpList_index_s 2 (by first | rfl | go_simp) 26 _ _ rfl Try.underlying26 size_part x (o) (n) (c) rfl _ _ rfl k (by omega) (by omega) ?_)
        go_returns
        exact ⟨by rw [Hbad.out (fun h => h1 h.1)]; rfl, HBwr.out⟩
    · obtain rfl : k = n := by omega
      have hc0 : ¬ ((k : Int) < k) := by omega
      have hl := hP.length
      go_wp2_with fail
      go_returns
      exact ⟨by rw [fewP_good (fun j hj => Hall.out j (by omega)), hl]; simp; omega, HBwr.out⟩
/-- Has a signature the parts that a shape asks for? -/
def formB (L V i : Int) (ps : List Prt) : Bool := rightS L V && decide (0 ≤ i) && decide (i < manyS L V) && decide ((ps.length : Int) = L) && decide (∀ j, j < ps.length → (ps.getD j ([], [])).1.length = 67 ∧ ((ps.getD j ([], [])).2.length : Int) = V)
theorem formB_neg {L V i : Int} {ps : List Prt} (h : i < 0) : formB L V i ps = false := by simp [formB, show ¬ 0 ≤ i by omega]
theorem formB_many {L V i : Int} {ps : List Prt} (h : manyS L V ≤ i) : formB L V i ps = false := by simp [formB, show ¬ i < manyS L V by omega]
theorem formB_len {L V i : Int} {ps : List Prt} (h : ¬ (ps.length : Int) = L) : formB L V i ps = false := by simp [formB, h]
theorem formB_part {L V i : Int} {ps : List Prt} {k : Nat} (hk : k < ps.length) (h : ¬ ((ps.getD k ([], [])).1.length = 67 ∧ ((ps.getD k ([], [])).2.length : Int) = V)) : formB L V i ps = false := by
  have hn : ¬ ∀ j, j < ps.length → (ps.getD j ([], [])).1.length = 67 ∧ ((ps.getD j ([], [])).2.length : Int) = V := fun hh => h (hh k hk)
  unfold formB
  rw [decide_eq_false hn, Bool.and_false]
theorem formB_right {L V i : Int} {ps : List Prt} (h : rightS L V = false) : formB L V i ps = false := by simp [formB, h]
theorem formB_good {L V i : Int} {ps : List Prt} (h : rightS L V = true) (h0 : 0 ≤ i) (h1 : i < manyS L V) (h2 : (ps.length : Int) = L) (h3 : ∀ j, j < ps.length → (ps.getD j ([], [])).1.length = 67 ∧ ((ps.getD j ([], [])).2.length : Int) = V) : formB L V i ps = true := by
  unfold formB
  rw [decide_eq_true h3, decide_eq_true h2, decide_eq_true h1, decide_eq_true h0, h]
  rfl
set_option maxHeartbeats 4000000 in
set_option maxRecDepth 100000 in
theorem refformed_right (L V i : Int) (r : List Int) (a : Option Addr) (n c : Nat) (ps : List Prt) (w : World) (hrt : rightS L V = true) (hr : Dg r) (hP : PartsAt w a n c ps) :
    Calls Try.prog 9 #[.agg (shC L V), .agg (sigC i r (.slice a n c)).toArray] w fun e w' => e = .returned (.bool (formB L V i ps)) ∧ Below w.heap.size w w' := by
  have hmx := hP.max
  have hle := hP.le
  have b1 := (Below.refl w.heap.size w).alloc (Nat.le_refl _) (.cells (shC L V) 23 (0, 0))
  have b2 := b1.alloc b1.size (.cells (sigC i r (.slice a n c)).toArray 28 (0, 0))
  have Ksh := hid ((Blk.new (w := w) (n := w.heap.size) rfl (shC L V) 23).old (.cells (sigC i r (.slice a n c)).toArray 28 (0, 0)))
  have Kg := hid (Blk.new (w := (w.alloc (.cells (shC L V) 23 (0, 0)))) (n := w.heap.size + 1) (by simp only [World.size_alloc]) (sigC i r (.slice a n c)).toArray 28)
  have Hb := hid b2
  have hbz := b2.size
  have Hbs := hid (show w.heap.size + 1 + 1 = ((w.alloc (.cells (shC L V) 23 (0, 0))).alloc (.cells (sigC i r (.slice a n c)).toArray 28 (0, 0))).heap.size by simp only [World.size_alloc])
  clear b1 b2 
  go_enter Try.func9, Try.ntmps9
  go_wp2_with fail
  have CM := hid (fun W : World => refmany_any L V W)
  obtain ⟨M, hM⟩ : ∃ M, manyS L V = M := ⟨_, rfl⟩
  have HM := hid hM
  rw [hM] at CM
  clear hM
  by_cases h0 : i < 0
  · skip
    have hd0 : decide (i < 0) = true := decide_eq_true h0
    refine wp_region_flow 18 (List.range 18) [] [] (by kernel_rfl) (by kernel_rfl) ?_
    apply Exists.intro
    refine ⟨fun w0 hb0 hF0 => ?_, ?_⟩
    · skip
      have x0 : ∀ w', (∃ x : Ext w0, w' = x.at_) → ∃ T, Blk w' (w.heap.size) (shC L V) T := fun w' ⟨x, hx⟩ => ⟨_, hx ▸ (Ksh.out.below hb0).below x.same⟩
      have y0 : ∀ w', (∃ x : Ext w0, w' = x.at_) → w'.cell? ⟨w.heap.size + 1, 0, none⟩ = some (.int .i64 i) := fun w' ⟨x, hx⟩ => by rw [hx, ((Kg.out.below hb0).below x.same).cell]; rfl
      have c0 := fun e : Ext w0 => CM.out e.at_
      simp only [pick, List.range, List.range.loop, List.getElem?_toArray, List.getElem?_cons_succ, List.getElem?_cons_zero, Option.toList_some, List.cons_append, List.nil_append]
      repeat (first | (go_big_quiet_want; refine quiet_load_blk 23 _ rfl (w.heap.size) rfl _ x0 _ Try.underlying23 rfl 2 size_shape rfl ?_; go_big_quiet_on; simp only [Act.put, List.setIfInBounds_toArray, List.set_cons_zero, List.set_cons_succ]) | (go_big_quiet_want; refine quiet_load_one 3 _ rfl ⟨w.heap.size + 1, 0, none⟩ rfl _ y0 _ Try.underlying3 rfl ?_; go_big_quiet_on; simp only [Act.put, List.setIfInBounds_toArray, List.set_cons_zero, List.set_cons_succ]) | go_big_quiet_step (first | (go_at_call 21; with_reducible exact Calls.ext (c0 _))))
      exact wpQuiet_nil rfl
    refine AlChk.nil ?_
    refine Walk.fin fun w1 hw1 _ _ => ?_
    simp only [List.drop_succ_cons, List.drop_zero]
    have HBw1 := hid (Below.on Hb.out hw1)
    have hsw1 := HBw1.out.size
    have Kshw1 := hid (Ksh.out.below hw1)
    have Kgw1 := hid (Kg.out.below hw1)
    clear hw1
    go_wp2_with fail
    go_returns
    exact ⟨by rw [formB_neg h0]; rfl, HBw1.out⟩
  have hd0 : decide (i < 0) = false := decide_eq_false h0
  by_cases h1 : i ≥ M
  · skip
    have hd1 : decide (i ≥ M) = true := decide_eq_true h1
    have hd1 : decide (M ≤ i) = true := decide_eq_true h1
    refine wp_region_flow 18 (List.range 18) [] [] (by kernel_rfl) (by kernel_rfl) ?_
    apply Exists.intro
    refine ⟨fun w0 hb0 hF0 => ?_, ?_⟩
    · skip
      have x0 : ∀ w', (∃ x : Ext w0, w' = x.at_) → ∃ T, Blk w' (w.heap.size) (shC L V) T := fun w' ⟨x, hx⟩ => ⟨_, hx ▸ (Ksh.out.below hb0).below x.same⟩
      have y0 : ∀ w', (∃ x : Ext w0, w' = x.at_) → w'.cell? ⟨w.heap.size + 1, 0, none⟩ = some (.int .i64 i) := fun w' ⟨x, hx⟩ => by rw [hx, ((Kg.out.below hb0).below x.same).cell]; rfl
      have c0 := fun e : Ext w0 => CM.out e.at_
      simp only [pick, List.range, List.range.loop, List.getElem?_toArray, List.getElem?_cons_succ, List.getElem?_cons_zero, Option.toList_some, List.cons_append, List.nil_append]
      repeat (first | (go_big_quiet_want; refine quiet_load_blk 23 _ rfl (w.heap.size) rfl _ x0 _ Try.underlying23 rfl 2 size_shape rfl ?_; go_big_quiet_on; simp only [Act.put, List.setIfInBounds_toArray, List.set_cons_zero, List.set_cons_succ]) | (go_big_quiet_want; refine quiet_load_one 3 _ rfl ⟨w.heap.size + 1, 0, none⟩ rfl _ y0 _ Try.underlying3 rfl ?_; go_big_quiet_on; simp only [Act.put, List.setIfInBounds_toArray, List.set_cons_zero, List.set_cons_succ]) | go_big_quiet_step (first | (go_at_call 21; with_reducible exact Calls.ext (c0 _))))
      exact wpQuiet_nil rfl
    refine AlChk.nil ?_
    refine Walk.fin fun w1 hw1 _ _ => ?_
    simp only [List.drop_succ_cons, List.drop_zero]
    have HBw1 := hid (Below.on Hb.out hw1)
    have hsw1 := HBw1.out.size
    have Kshw1 := hid (Ksh.out.below hw1)
    have Kgw1 := hid (Kg.out.below hw1)
    clear hw1
    go_wp2_with fail
    go_returns
    exact ⟨by rw [formB_many (by rw [HM.out]; exact h1)]; rfl, HBw1.out⟩
  have hd1 : decide (i ≥ M) = false := decide_eq_false h1
  have hd1 : decide (M ≤ i) = false := decide_eq_false h1
  by_cases h2 : (n : Int) = L
  · skip
    have hd2 : ((n : Int) != L) = false := by simp [h2]
    have hd2 : ((n : Int) == L) = true := by simp [h2]
    have H2 := hid h2
    clear h2
    refine wp_region_flow 18 (List.range 18) [] [] (by kernel_rfl) (by kernel_rfl) ?_
    apply Exists.intro
    refine ⟨fun w0 hb0 hF0 => ?_, ?_⟩
    · skip
      have x0 : ∀ w', (∃ x : Ext w0, w' = x.at_) → ∃ T, Blk w' (w.heap.size) (shC L V) T := fun w' ⟨x, hx⟩ => ⟨_, hx ▸ (Ksh.out.below hb0).below x.same⟩
      have y0 : ∀ w', (∃ x : Ext w0, w' = x.at_) → w'.cell? ⟨w.heap.size + 1, 0, none⟩ = some (.int .i64 i) := fun w' ⟨x, hx⟩ => by rw [hx, ((Kg.out.below hb0).below x.same).cell]; rfl
      have y1 : ∀ w', (∃ x : Ext w0, w' = x.at_) → w'.cell? ⟨w.heap.size, 0, none⟩ = some (.int .i64 L) := fun w' ⟨x, hx⟩ => by rw [hx, ((Ksh.out.below hb0).below x.same).cell]; rfl
      have c0 := fun e : Ext w0 => CM.out e.at_
      have yp : ∀ w', (∃ x : Ext w0, w' = x.at_) → w'.cell? ⟨w.heap.size + 1, 33, none⟩ = some (.slice a n c) := fun w' ⟨x, hx⟩ => hx ▸ sigC_parts hr ((Kg.out.below hb0).below x.same)
      simp only [pick, List.range, List.range.loop, List.getElem?_toArray, List.getElem?_cons_succ, List.getElem?_cons_zero, Option.toList_some, List.cons_append, List.nil_append]
      repeat (first | (go_big_quiet_want; refine quiet_load_blk 23 _ rfl (w.heap.size) rfl _ x0 _ Try.underlying23 rfl 2 size_shape rfl ?_; go_big_quiet_on; simp only [Act.put, List.setIfInBounds_toArray, List.set_cons_zero, List.set_cons_succ]) | (go_big_quiet_want; refine quiet_load_one 3 _ rfl ⟨w.heap.size + 1, 0, none⟩ rfl _ y0 _ Try.underlying3 rfl ?_; go_big_quiet_on; simp only [Act.put, List.setIfInBounds_toArray, List.set_cons_zero, List.set_cons_succ]) | (go_big_quiet_want; refine quiet_load_one 3 _ rfl ⟨w.heap.size, 0, none⟩ rfl _ y1 _ Try.underlying3 rfl ?_; go_big_quiet_on; simp only [Act.put, List.setIfInBounds_toArray, List.set_cons_zero, List.set_cons_succ]) | (go_big_quiet_want; refine quiet_load_one 26 _ rfl ⟨w.heap.size + 1, 33, none⟩ rfl _ yp _ Try.underlying26 rfl ?_; go_big_quiet_on; simp only [Act.put, List.setIfInBounds_toArray, List.set_cons_zero, List.set_cons_succ]) | go_big_quiet_step (first | (go_at_call 21; with_reducible exact Calls.ext (c0 _))))
      exact wpQuiet_nil rfl
    refine AlChk.nil ?_
    refine Walk.fin fun w1 hw1 _ _ => ?_
    simp only [List.drop_succ_cons, List.drop_zero]
    have HBw1 := hid (Below.on Hb.out hw1)
    have hsw1 := HBw1.out.size
    have Kshw1 := hid (Ksh.out.below hw1)
    have Kgw1 := hid (Kg.out.below hw1)
    clear hw1
    have g33 := sigC_parts hr Kgw1.out
    go_wp2_with fail
    go_loopw [5] (fun iv wr => ∃ k : Nat, k ≤ n ∧ iv = .int .i64 k ∧ Blk wr (w.heap.size) (shC L V) 23 ∧ Blk wr (w.heap.size + 1) (sigC i r (.slice a n c)).toArray 28 ∧ Below w.heap.size w wr ∧ ∀ j, j < k → (ps.getD j ([], [])).1.length = 67 ∧ ((ps.getD j ([], [])).2.length : Int) = V) (fun iv _ => n - (intOf iv).toNat)
    case atStart => exact ⟨0, Nat.zero_le _, rfl, Kshw1.out, Kgw1.out, HBw1.out, fun j hj => absurd hj (by omega)⟩
    case round =>
      obtain ⟨k, hk, rfl, ksh, kg, bel, hall⟩ := hrel
      have Kshwr := hid ksh
      have Kgwr := hid kg
      have HBwr := hid bel
      have hswr := bel.size
      have Hall := hid hall
      have g33 := sigC_parts hr kg
      have s1 : wr.cell? ⟨w.heap.size, 1, none⟩ = some (.int .i64 V) := by rw [ksh.cell]; rfl
      clear ksh kg bel hall
      by_cases hlt : k < n
      · have hc0 : (k : Int) < n := by omega
        obtain ⟨x, o, oa, oc, aa, ac, rfl, hpc⟩ := (hP.below HBwr.out).part hlt
        have HPC := hid hpc
        have p0 := hpc.c0
        have p1 := hpc.c1
        clear hpc
        have hkl : k < ps.length := by rw [hP.length]; exact hlt
        have Hbad := hid (formB_part (L := L) (V := V) (i := i) hkl)
        obtain ⟨q, hq⟩ : ∃ q, ps.getD k ([], []) = q := ⟨_, rfl⟩
        have Hq := hid hq
        rw [hq] at Hbad HPC p0 p1
        clear hq
        by_cases h3 : q.1.length = 67
        · have hd3 : ((q.1.length : Int) != 67) = false := by simp; omega
          have hd3 : ((q.1.length : Int) == 67) = true := by simp; omega
          have H3 := hid h3
          clear h3
          by_cases h4 : (q.2.length : Int) = V
          · skip
            have hd4 : ((q.2.length : Int) != V) = false := by simp [h4]
            have hd4 : ((q.2.length : Int) == V) = true := by simp [h4]
            have H4 := hid h4
            clear h4
            go_wp2_with fail
            refine wp_region_flow 20 (List.range 20) [] [] (by kernel_rfl) (by kernel_rfl) ?_
            apply Exists.intro
            refine ⟨fun w0 hb0 hF0 => ?_, ?_⟩
            · skip
              have y0 : ∀ w', (∃ x : Ext w0, w' = x.at_) → w'.cell? ⟨w.heap.size, 1, none⟩ = some (.int .i64 V) := fun w' ⟨x, hx⟩ => by rw [hx, ((Kshwr.out.below hb0).below x.same).cell]; rfl
              have yp : ∀ w', (∃ x : Ext w0, w' = x.at_) → w'.cell? ⟨w.heap.size + 1, 33, none⟩ = some (.slice (some ⟨x, o, none⟩) n c) := fun w' ⟨x, hx⟩ => hx ▸ sigC_parts hr ((Kgwr.out.below hb0).below x.same)
              have q0 : ∀ w', (∃ x : Ext w0, w' = x.at_) → w'.cell? ⟨x, o + k * 2, none⟩ = some (.slice oa q.1.length oc) := fun w' ⟨x, hx⟩ => hx ▸ ((HPC.out.below hb0).below x.same).c0
              have q1 : ∀ w', (∃ x : Ext w0, w' = x.at_) → w'.cell? ⟨x, o + k * 2 + 1, none⟩ = some (.slice aa q.2.length ac) := fun w' ⟨x, hx⟩ => hx ▸ ((HPC.out.below hb0).below x.same).c1
              simp only [pick, List.range, List.range.loop, List.getElem?_toArray, List.getElem?_cons_succ, List.getElem?_cons_zero, Option.toList_some, List.cons_append, List.nil_append]
              repeat (first | (go_big_quiet_want; refine quiet_load_one 3 _ rfl ⟨w.heap.size, 1, none⟩ rfl _ y0 _ Try.underlying3 rfl ?_; go_big_quiet_on; simp only [Act.put, List.setIfInBounds_toArray, List.set_cons_zero, List.set_cons_succ]) | (go_big_quiet_want; refine quiet_index_s 2 26 _ _ rfl Try.underlying26 size_part x o n c rfl _ _ rfl k (by omega) (by omega) ?_; go_big_quiet_on; simp only [Act.put, List.setIfInBounds_toArray, List.set_cons_zero, List.set_cons_succ]) | (go_big_quiet_want; refine quiet_load_one 26 _ rfl ⟨w.heap.size + 1, 33, none⟩ rfl _ yp _ Try.underlying26 rfl ?_; go_big_quiet_on; simp only [Act.put, List.setIfInBounds_toArray, List.set_cons_zero, List.set_cons_succ]) | (go_big_quiet_want; refine quiet_load_one 44 _ rfl ⟨x, o + k * 2, none⟩ rfl _ q0 _ Try.underlying44 rfl ?_; go_big_quiet_on; simp only [Act.put, List.setIfInBounds_toArray, List.set_cons_zero, List.set_cons_succ]) | (go_big_quiet_want; refine quiet_load_one 44 _ rfl ⟨x, o + k * 2 + 1, none⟩ rfl _ q1 _ Try.underlying44 rfl ?_; go_big_quiet_on; simp only [Act.put, List.setIfInBounds_toArray, List.set_cons_zero, List.set_cons_succ]) | go_big_quiet_step (fail))
              exact wpQuiet_nil rfl
            refine AlChk.nil ?_
            refine Walk.fin fun w2 hw2 _ _ => ?_
            simp only [List.drop_succ_cons, List.drop_zero]
            have HBw2 := hid (Below.on HBwr.out hw2)
            have hsw2 := HBw2.out.size
            have Kshw2 := hid (Kshwr.out.below hw2)
            have Kgw2 := hid (Kgwr.out.below hw2)
            clear hw2
            go_wp2_with fail
            exact ⟨⟨k + 1, by omega, by first | rfl | simp, Kshw2.out, Kgw2.out, HBw2.out, fun j hj => by
              by_cases hjk : j = k
              · subst hjk; rw [Hq.out]; exact ⟨H3.out, H4.out⟩
              · exact Hall.out j (by omega)⟩, by simp [intOf]; omega⟩
          · skip
            have hd4 : ((q.2.length : Int) != V) = true := by simp [h4]
            have hd4 : ((q.2.length : Int) == V) = false := by simp [h4]
            go_wp2_with fail
            refine wp_region_flow 20 (List.range 20) [] [] (by kernel_rfl) (by kernel_rfl) ?_
            apply Exists.intro
            refine ⟨fun w0 hb0 hF0 => ?_, ?_⟩
            · skip
              have y0 : ∀ w', (∃ x : Ext w0, w' = x.at_) → w'.cell? ⟨w.heap.size, 1, none⟩ = some (.int .i64 V) := fun w' ⟨x, hx⟩ => by rw [hx, ((Kshwr.out.below hb0).below x.same).cell]; rfl
              have yp : ∀ w', (∃ x : Ext w0, w' = x.at_) → w'.cell? ⟨w.heap.size + 1, 33, none⟩ = some (.slice (some ⟨x, o, none⟩) n c) := fun w' ⟨x, hx⟩ => hx ▸ sigC_parts hr ((Kgwr.out.below hb0).below x.same)
              have q0 : ∀ w', (∃ x : Ext w0, w' = x.at_) → w'.cell? ⟨x, o + k * 2, none⟩ = some (.slice oa q.1.length oc) := fun w' ⟨x, hx⟩ => hx ▸ ((HPC.out.below hb0).below x.same).c0
              have q1 : ∀ w', (∃ x : Ext w0, w' = x.at_) → w'.cell? ⟨x, o + k * 2 + 1, none⟩ = some (.slice aa q.2.length ac) := fun w' ⟨x, hx⟩ => hx ▸ ((HPC.out.below hb0).below x.same).c1
              simp only [pick, List.range, List.range.loop, List.getElem?_toArray, List.getElem?_cons_succ, List.getElem?_cons_zero, Option.toList_some, List.cons_append, List.nil_append]
              repeat (first | (go_big_quiet_want; refine quiet_load_one 3 _ rfl ⟨w.heap.size, 1, none⟩ rfl _ y0 _ Try.underlying3 rfl ?_; go_big_quiet_on; simp only [Act.put, List.setIfInBounds_toArray, List.set_cons_zero, List.set_cons_succ]) | (go_big_quiet_want; refine quiet_index_s 2 26 _ _ rfl Try.underlying26 size_part x o n c rfl _ _ rfl k (by omega) (by omega) ?_; go_big_quiet_on; simp only [Act.put, List.setIfInBounds_toArray, List.set_cons_zero, List.set_cons_succ]) | (go_big_quiet_want; refine quiet_load_one 26 _ rfl ⟨w.heap.size + 1, 33, none⟩ rfl _ yp _ Try.underlying26 rfl ?_; go_big_quiet_on; simp only [Act.put, List.setIfInBounds_toArray, List.set_cons_zero, List.set_cons_succ]) | (go_big_quiet_want; refine quiet_load_one 44 _ rfl ⟨x, o + k * 2, none⟩ rfl _ q0 _ Try.underlying44 rfl ?_; go_big_quiet_on; simp only [Act.put, List.setIfInBounds_toArray, List.set_cons_zero, List.set_cons_succ]) | (go_big_quiet_want; refine quiet_load_one 44 _ rfl ⟨x, o + k * 2 + 1, none⟩ rfl _ q1 _ Try.underlying44 rfl ?_; go_big_quiet_on; simp only [Act.put, List.setIfInBounds_toArray, List.set_cons_zero, List.set_cons_succ]) | go_big_quiet_step (fail))
              exact wpQuiet_nil rfl
            refine AlChk.nil ?_
            refine Walk.fin fun w2 hw2 _ _ => ?_
            simp only [List.drop_succ_cons, List.drop_zero]
            have HBw2 := hid (Below.on HBwr.out hw2)
            have hsw2 := HBw2.out.size
            have Kshw2 := hid (Kshwr.out.below hw2)
            have Kgw2 := hid (Kgwr.out.below hw2)
            clear hw2
            go_wp2_with fail
            go_returns
            exact ⟨by rw [Hbad.out (fun h => h4 h.2)]; rfl, HBw2.out⟩
        · have hd3 : ((q.1.length : Int) != 67) = true := by simp; omega
          have hd3 : ((q.1.length : Int) == 67) = false := by simp; omega
          skip
          go_wp2_with fail
          refine wp_region_flow 20 (List.range 20) [] [] (by kernel_rfl) (by kernel_rfl) ?_
          apply Exists.intro
          refine ⟨fun w0 hb0 hF0 => ?_, ?_⟩
          · skip
            have y0 : ∀ w', (∃ x : Ext w0, w' = x.at_) → w'.cell? ⟨w.heap.size, 1, none⟩ = some (.int .i64 V) := fun w' ⟨x, hx⟩ => by rw [hx, ((Kshwr.out.below hb0).below x.same).cell]; rfl
            have yp : ∀ w', (∃ x : Ext w0, w' = x.at_) → w'.cell? ⟨w.heap.size + 1, 33, none⟩ = some (.slice (some ⟨x, o, none⟩) n c) := fun w' ⟨x, hx⟩ => hx ▸ sigC_parts hr ((Kgwr.out.below hb0).below x.same)
            have q0 : ∀ w', (∃ x : Ext w0, w' = x.at_) → w'.cell? ⟨x, o + k * 2, none⟩ = some (.slice oa q.1.length oc) := fun w' ⟨x, hx⟩ => hx ▸ ((HPC.out.below hb0).below x.same).c0
            have q1 : ∀ w', (∃ x : Ext w0, w' = x.at_) → w'.cell? ⟨x, o + k * 2 + 1, none⟩ = some (.slice aa q.2.length ac) := fun w' ⟨x, hx⟩ => hx ▸ ((HPC.out.below hb0).below x.same).c1
            simp only [pick, List.range, List.range.loop, List.getElem?_toArray, List.getElem?_cons_succ, List.getElem?_cons_zero, Option.toList_some, List.cons_append, List.nil_append]
            repeat (first | (go_big_quiet_want; refine quiet_load_one 3 _ rfl ⟨w.heap.size, 1, none⟩ rfl _ y0 _ Try.underlying3 rfl ?_; go_big_quiet_on; simp only [Act.put, List.setIfInBounds_toArray, List.set_cons_zero, List.set_cons_succ]) | (go_big_quiet_want; refine quiet_index_s 2 26 _ _ rfl Try.underlying26 size_part x o n c rfl _ _ rfl k (by omega) (by omega) ?_; go_big_quiet_on; simp only [Act.put, List.setIfInBounds_toArray, List.set_cons_zero, List.set_cons_succ]) | (go_big_quiet_want; refine quiet_load_one 26 _ rfl ⟨w.heap.size + 1, 33, none⟩ rfl _ yp _ Try.underlying26 rfl ?_; go_big_quiet_on; simp only [Act.put, List.setIfInBounds_toArray, List.set_cons_zero, List.set_cons_succ]) | (go_big_quiet_want; refine quiet_load_one 44 _ rfl ⟨x, o + k * 2, none⟩ rfl _ q0 _ Try.underlying44 rfl ?_; go_big_quiet_on; simp only [Act.put, List.setIfInBounds_toArray, List.set_cons_zero, List.set_cons_succ]) | (go_big_quiet_want; refine quiet_load_one 44 _ rfl ⟨x, o + k * 2 + 1, none⟩ rfl _ q1 _ Try.underlying44 rfl ?_; go_big_quiet_on; simp only [Act.put, List.setIfInBounds_toArray, List.set_cons_zero, List.set_cons_succ]) | go_big_quiet_step (fail))
            exact wpQuiet_nil rfl
          refine AlChk.nil ?_
          refine Walk.fin fun w2 hw2 _ _ => ?_
          simp only [List.drop_succ_cons, List.drop_zero]
          have HBw2 := hid (Below.on HBwr.out hw2)
          have hsw2 := HBw2.out.size
          have Kshw2 := hid (Kshwr.out.below hw2)
          have Kgw2 := hid (Kgwr.out.below hw2)
          clear hw2
          go_wp2_with fail
          go_returns
          exact ⟨by rw [Hbad.out (fun h => h3 h.1)]; rfl, HBw2.out⟩
      · obtain rfl : k = n := by omega
        have hc0 : ¬ ((k : Int) < k) := by omega
        have hl := hP.length
        go_wp2_with fail
        go_returns
        exact ⟨by rw [formB_good hrt (by omega) (by rw [HM.out]; omega) (by rw [hl]; exact H2.out) (fun j hj => Hall.out j (by omega))]; rfl, HBwr.out⟩
  · skip
    have hd2 : ((n : Int) != L) = true := by simp [h2]
    have hd2 : ((n : Int) == L) = false := by simp [h2]
    refine wp_region_flow 18 (List.range 18) [] [] (by kernel_rfl) (by kernel_rfl) ?_
    apply Exists.intro
    refine ⟨fun w0 hb0 hF0 => ?_, ?_⟩
    · skip
      have x0 : ∀ w', (∃ x : Ext w0, w' = x.at_) → ∃ T, Blk w' (w.heap.size) (shC L V) T := fun w' ⟨x, hx⟩ => ⟨_, hx ▸ (Ksh.out.below hb0).below x.same⟩
      have y0 : ∀ w', (∃ x : Ext w0, w' = x.at_) → w'.cell? ⟨w.heap.size + 1, 0, none⟩ = some (.int .i64 i) := fun w' ⟨x, hx⟩ => by rw [hx, ((Kg.out.below hb0).below x.same).cell]; rfl
      have y1 : ∀ w', (∃ x : Ext w0, w' = x.at_) → w'.cell? ⟨w.heap.size, 0, none⟩ = some (.int .i64 L) := fun w' ⟨x, hx⟩ => by rw [hx, ((Ksh.out.below hb0).below x.same).cell]; rfl
      have c0 := fun e : Ext w0 => CM.out e.at_
      have yp : ∀ w', (∃ x : Ext w0, w' = x.at_) → w'.cell? ⟨w.heap.size + 1, 33, none⟩ = some (.slice a n c) := fun w' ⟨x, hx⟩ => hx ▸ sigC_parts hr ((Kg.out.below hb0).below x.same)
      simp only [pick, List.range, List.range.loop, List.getElem?_toArray, List.getElem?_cons_succ, List.getElem?_cons_zero, Option.toList_some, List.cons_append, List.nil_append]
      repeat (first | (go_big_quiet_want; refine quiet_load_blk 23 _ rfl (w.heap.size) rfl _ x0 _ Try.underlying23 rfl 2 size_shape rfl ?_; go_big_quiet_on; simp only [Act.put, List.setIfInBounds_toArray, List.set_cons_zero, List.set_cons_succ]) | (go_big_quiet_want; refine quiet_load_one 3 _ rfl ⟨w.heap.size + 1, 0, none⟩ rfl _ y0 _ Try.underlying3 rfl ?_; go_big_quiet_on; simp only [Act.put, List.setIfInBounds_toArray, List.set_cons_zero, List.set_cons_succ]) | (go_big_quiet_want; refine quiet_load_one 3 _ rfl ⟨w.heap.size, 0, none⟩ rfl _ y1 _ Try.underlying3 rfl ?_; go_big_quiet_on; simp only [Act.put, List.setIfInBounds_toArray, List.set_cons_zero, List.set_cons_succ]) | (go_big_quiet_want; refine quiet_load_one 26 _ rfl ⟨w.heap.size + 1, 33, none⟩ rfl _ yp _ Try.underlying26 rfl ?_; go_big_quiet_on; simp only [Act.put, List.setIfInBounds_toArray, List.set_cons_zero, List.set_cons_succ]) | go_big_quiet_step (first | (go_at_call 21; with_reducible exact Calls.ext (c0 _))))
      exact wpQuiet_nil rfl
    refine AlChk.nil ?_
    refine Walk.fin fun w1 hw1 _ _ => ?_
    simp only [List.drop_succ_cons, List.drop_zero]
    have HBw1 := hid (Below.on Hb.out hw1)
    have hsw1 := HBw1.out.size
    have Kshw1 := hid (Ksh.out.below hw1)
    have Kgw1 := hid (Kg.out.below hw1)
    clear hw1
    go_wp2_with fail
    go_returns
    exact ⟨by rw [formB_len (by rw [hP.length]; exact h2)]; rfl, HBw1.out⟩
end Go.Proofs.Ytkakoiaahgchmaa
