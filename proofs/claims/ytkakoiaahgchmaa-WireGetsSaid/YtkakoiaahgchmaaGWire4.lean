/-
  Layer 20: what is refused; the document's examples.
-/
import Derived.Test.YtkakoiaahgchmaaGWire3
namespace Go.Proofs.Ytkakoiaahgchmaa
open Go.ChangeShapes Go.WideShapes Go.ChangeAt Go.RowKit

/-- Is a shape right? -/
def rightS (L V : Int) : Bool := decide (1 ≤ L ∧ L ≤ 4 ∧ 1 ≤ V ∧ V ≤ 4)
set_option maxHeartbeats 4000000 in
set_option maxRecDepth 100000 in
theorem hright_any (L V : Int) (w : World) : Calls Try.prog 17 #[.agg (shC L V)] w fun e w' => e = .returned (.bool (rightS L V)) ∧ Below w.heap.size w w' := by
  unfold shC
  by_cases h1 : 1 ≤ L
  · by_cases h2 : L ≤ 4
    · by_cases h3 : 1 ≤ V
      · by_cases h4 : V ≤ 4
        · go_enter Try.func17, Try.ntmps17
          go_wp2
          go_returns
          exact ⟨by simp [rightS, *] <;> omega, by go_grown⟩
        · have h4b : 4 < V := by omega
          go_enter Try.func17, Try.ntmps17
          go_wp2
          go_returns
          exact ⟨by simp [rightS, *] <;> omega, by go_grown⟩
      · have h3b : V < 1 := by omega
        go_enter Try.func17, Try.ntmps17
        go_wp2
        go_returns
        exact ⟨by simp [rightS, *] <;> omega, by go_grown⟩
    · have h2b : 4 < L := by omega
      go_enter Try.func17, Try.ntmps17
      go_wp2
      go_returns
      exact ⟨by simp [rightS, *] <;> omega, by go_grown⟩
  · have h1b : L < 1 := by omega
    go_enter Try.func17, Try.ntmps17
    go_wp2
    go_returns
    exact ⟨by simp [rightS, *] <;> omega, by go_grown⟩
theorem hright_b (L V : Int) (b : Bool) (hb : rightS L V = b) (w : World) : Calls Try.prog 17 #[.agg (shC L V)] w fun e w' => e = .returned (.bool b) ∧ Below w.heap.size w w' := by
  rw [← hb]; exact hright_any L V w
/-- A signature's cells. -/
def sigC (i : Int) (r : List Int) (pv : Value) : List Value := .int .i64 i :: (r.map (Value.int .u8) ++ [pv])
theorem sigC_size {i : Int} {r : List Int} {pv : Value} (h : Dg r) : (sigC i r pv).toArray.size = 34 := by simp [sigC, h.len]
theorem sigC_ones (i : Int) (r : List Int) (pv : Value) (h : pv.oneCell' = true) : (sigC i r pv).toArray.all (·.oneCell') = true := all_oneCell_toArray fun u hu => by
  simp only [sigC, List.mem_cons, List.mem_append, List.mem_map, List.not_mem_nil, or_false] at hu
  rcases hu with rfl | ⟨_, _, rfl⟩ | rfl
  · rfl
  · rfl
  · exact h
theorem size_sig : (Try.prog.info? 28).map (·.size) = some 34 := by kernel_rfl
def zSig : List Value := sigC 0 zD (.slice none 0 0)
theorem zSig_size : zSig.toArray.size = 34 := by decide

set_option maxHeartbeats 4000000 in
set_option maxRecDepth 100000 in
theorem put_bad (L V : Int) (gs : Array Value) (w : World) (hr : rightS L V = false) : Calls Try.prog 7 #[.agg (shC L V), .agg gs] w fun e w' => e = .returned (.tuple #[.slice none 0 0, .int .i64 1]) ∧ Below w.heap.size w w' := by
  have b1 := (Below.refl w.heap.size w).alloc (Nat.le_refl _) (.cells (shC L V) 23 (0, 0))
  have b2 := b1.alloc b1.size (.cells gs 28 (0, 0))
  have Ksh := hid ((Blk.new (w := w) (n := w.heap.size) rfl (shC L V) 23).old (.cells gs 28 (0, 0)))
  have Kg := hid (Blk.new (w := (w.alloc (.cells (shC L V) 23 (0, 0)))) (n := w.heap.size + 1) (by simp only [World.size_alloc]) gs 28)
  have Hb := hid b2
  have hbz := b2.size
  have Hbs := hid (show w.heap.size + 1 + 1 = ((w.alloc (.cells (shC L V) 23 (0, 0))).alloc (.cells gs 28 (0, 0))).heap.size by simp only [World.size_alloc])
  clear b1 b2 
  go_enter Try.func7, Try.ntmps7
  go_wp2_with fail
  refine wp_region_flow 23 (List.range 23) [] [] (by kernel_rfl) (by kernel_rfl) ?_
  apply Exists.intro
  refine ⟨fun w0 hb0 hF0 => ?_, ?_⟩
  · skip
    have x0 : ∀ w', (∃ x : Ext w0, w' = x.at_) → ∃ T, Blk w' (w.heap.size) (shC L V) T := fun w' ⟨x, hx⟩ => ⟨_, hx ▸ (Ksh.out.below hb0).below x.same⟩
    have c0 := fun e : Ext w0 => hright_b L V false hr e.at_
    simp only [pick, List.range, List.range.loop, List.getElem?_toArray, List.getElem?_cons_succ, List.getElem?_cons_zero, Option.toList_some, List.cons_append, List.nil_append]
    repeat (first | (go_big_quiet_want; refine quiet_load_blk 23 _ rfl (w.heap.size) rfl _ x0 _ Try.underlying23 rfl 2 size_shape rfl ?_; go_big_quiet_on; simp only [Act.put, List.setIfInBounds_toArray, List.set_cons_zero, List.set_cons_succ]) | go_big_quiet_step (first | (go_at_call 17; with_reducible exact Calls.ext (c0 _))))
    exact wpQuiet_nil rfl
  refine AlChk.nil ?_
  refine Walk.fin fun w1 hw1 _ _ => ?_
  simp only [List.drop_succ_cons, List.drop_zero]
  have HBw1 := hid (Below.on Hb.out hw1)
  have hsw1 := HBw1.out.size
  have Kshw1 := hid (Ksh.out.below hw1)
  have Kgw1 := hid (Kg.out.below hw1)
  clear hw1
  go_wp2_with fail
  go_returns
  exact ⟨rfl, HBw1.out⟩

set_option maxHeartbeats 4000000 in
set_option maxRecDepth 100000 in
theorem get_arg (L V : Int) (v : Value) (w : World) (hr : rightS L V = false) : Calls Try.prog 10 #[.agg (shC L V), v] w fun e w' => e = .returned (.tuple #[.agg zSig.toArray, .int .i64 1]) ∧ Below w.heap.size w w' := by
  have b1 := (Below.refl w.heap.size w).alloc (Nat.le_refl _) (.cells (shC L V) 23 (0, 0))
  have b2 := b1.alloc b1.size (.cells zSig.toArray 28 (0, 0))
  have Ksh := hid ((Blk.new (w := w) (n := w.heap.size) rfl (shC L V) 23).old (.cells zSig.toArray 28 (0, 0)))
  have Kr := hid (Blk.new (w := (w.alloc (.cells (shC L V) 23 (0, 0)))) (n := w.heap.size + 1) (by simp only [World.size_alloc]) zSig.toArray 28)
  have Hb := hid b2
  have hbz := b2.size
  have Hbs := hid (show w.heap.size + 1 + 1 = ((w.alloc (.cells (shC L V) 23 (0, 0))).alloc (.cells zSig.toArray 28 (0, 0))).heap.size by simp only [World.size_alloc])
  clear b1 b2 
  go_enter Try.func10, Try.ntmps10
  go_wp2_with (refine wpList_load_blk rfl 23 _ rfl (w.heap.size) rfl _ 23 Ksh.out _ Try.underlying23 rfl 2 size_shape rfl ?_)
  refine (hright_b L V false hr _).mono ?_
  rintro e w1 ⟨rfl, bw1⟩
  have HBw1 := hid (Below.on Hb.out bw1)
  have hsw1 := HBw1.out.size
  have Kshw1 := hid (Ksh.out.below bw1)
  have Krw1 := hid (Kr.out.below bw1)
  clear bw1
  go_wp2_with (
      refine wpList_store_blk rfl 28 _ _ rfl (w.heap.size + 1) zSig.toArray rfl rfl _ 28 Krw1.out 34 size_sig zSig_size zSig_size (sigC_ones _ _ _ rfl) ?_
      intro w9 hb9 hk9
      have HB9 := hid (hb9.below HBw1.out HBw1.out.size (by omega))
      have HK9 := hid hk9
      clear hb9 hk9)
  exact bodyPost_ret (v := .tuple #[.agg zSig.toArray, .int .i64 1]) (results_blk_tmp Try.results10 _ (w.heap.size + 1) rfl _ rfl _ 28 HK9.out _ Try.underlying28 rfl 34 size_sig zSig_size) rfl ⟨rfl, HB9.out⟩

set_option maxHeartbeats 4000000 in
set_option maxRecDepth 100000 in
theorem get_form1  (w : World) : Calls Try.prog 10 #[.agg (shC 1 1), .slice none 0 0] w fun e w' => e = .returned (.tuple #[.agg zSig.toArray, .int .i64 2]) ∧ Below w.heap.size w w' := by
  have b1 := (Below.refl w.heap.size w).alloc (Nat.le_refl _) (.cells (shC 1 1) 23 (0, 0))
  have b2 := b1.alloc b1.size (.cells zSig.toArray 28 (0, 0))
  have Ksh := hid ((Blk.new (w := w) (n := w.heap.size) rfl (shC 1 1) 23).old (.cells zSig.toArray 28 (0, 0)))
  have Kr := hid (Blk.new (w := (w.alloc (.cells (shC 1 1) 23 (0, 0)))) (n := w.heap.size + 1) (by simp only [World.size_alloc]) zSig.toArray 28)
  have Hb := hid b2
  have hbz := b2.size
  have Hbs := hid (show w.heap.size + 1 + 1 = ((w.alloc (.cells (shC 1 1) 23 (0, 0))).alloc (.cells zSig.toArray 28 (0, 0))).heap.size by simp only [World.size_alloc])
  clear b1 b2 
  go_enter Try.func10, Try.ntmps10
  go_wp2_with (refine wpList_load_blk rfl 23 _ rfl (w.heap.size) rfl _ 23 Ksh.out _ Try.underlying23 rfl 2 size_shape rfl ?_)
  refine (hright_b 1 1 true (by decide) _).mono ?_
  rintro e w1 ⟨rfl, bw1⟩
  have HBw1 := hid (Below.on Hb.out bw1)
  have hsw1 := HBw1.out.size
  have Kshw1 := hid (Ksh.out.below bw1)
  have Krw1 := hid (Kr.out.below bw1)
  clear bw1
  have d0 : w1.cell? ⟨w.heap.size, 0, none⟩ = some (.int .i64 1) := by rw [Kshw1.out.cell]; rfl
  have d1 : w1.cell? ⟨w.heap.size, 1, none⟩ = some (.int .i64 1) := by rw [Kshw1.out.cell]; rfl
  go_wp2_with (
      refine wpList_store_blk rfl 28 _ _ rfl (w.heap.size + 1) zSig.toArray rfl rfl _ 28 Krw1.out 34 size_sig zSig_size zSig_size (sigC_ones _ _ _ rfl) ?_
      intro w9 hb9 hk9
      have HB9 := hid (hb9.below HBw1.out HBw1.out.size (by omega))
      have HK9 := hid hk9
      clear hb9 hk9)
  exact bodyPost_ret (v := .tuple #[.agg zSig.toArray, .int .i64 2]) (results_blk_tmp Try.results10 _ (w.heap.size + 1) rfl _ rfl _ 28 HK9.out _ Try.underlying28 rfl 34 size_sig zSig_size) rfl ⟨rfl, HB9.out⟩
theorem TextV.len {t : List Int} {v : Value} {w : World} (h : TextV t v w) (n : Nat) (hn : t.length = n) : ∃ a c, v = .slice a n c ∧ TextAt w a n c t := by
  subst hn
  obtain ⟨a, m, c, rfl, ht⟩ := h
  obtain rfl := ht.length
  exact ⟨a, c, rfl, ht⟩
theorem wpList_buildv {P : Program} {ops : Array Oper} {rest : List Oper} {op : Oper} {a : Act} {w : World} {Q : Exit → Act → World → Prop} (hgd : op.guard = none) (t : TypeId) (parts : List (Nat × Operand)) (ho : op.op = .build t parts.toArray) (vs : List (Nat × Value)) (hv : (parts.map fun x => (x.1, a.eval x.2)) = vs) (v : Value) (h : ∀ w', (Instr.build t vs.toArray).run P w' = .ok v w') (hk : wpList P ops Q rest (a.put op.dst v) w) : wpList P ops Q (op :: rest) a w :=
  wpList_plain hgd fun K hK => by
    have hm : (parts.map fun (x : Nat × Operand) => match x with | (i, x) => (i, a.eval x)) = vs := hv
    unfold Oper.wp execOp
    simp only [ho, List.map_toArray, hm, Sem.run_bind, h, Result.andThen_ok, Sem.run_pure, Oper.upon_value]
    exact hK _ _ hk
theorem wpList_buildv_if {P : Program} {ops : Array Oper} {rest : List Oper} {op : Oper} {a : Act} {w : World} {Q : Exit → Act → World → Prop} (hw : Region.wanted op (yielded ops a.tmps) = true) (t : TypeId) (parts : List (Nat × Operand)) (ho : op.op = .build t parts.toArray) (vs : List (Nat × Value)) (hv : (parts.map fun x => (x.1, a.eval x.2)) = vs) (v : Value) (h : ∀ w', (Instr.build t vs.toArray).run P w' = .ok v w') (hk : wpList P ops Q rest (a.put op.dst v) w) : wpList P ops Q (op :: rest) a w := by
  unfold wpList
  rw [if_pos hw]
  refine .inl ?_
  have hm : (parts.map fun (x : Nat × Operand) => match x with | (i, x) => (i, a.eval x)) = vs := hv
  unfold Oper.wp execOp
  simp only [ho, List.map_toArray, hm, Sem.run_bind, h, Result.andThen_ok, Sem.run_pure, Oper.upon_value]
  exact hk
theorem build_head0 (w : World) : (Instr.build 49 #[]).run Try.prog w = .ok (.agg (pubC 0 0 zD zD).toArray) w := by
  refine run_build w _ _ _ ?_
  obtain ⟨i0, hi, hz0⟩ := Option.map_eq_some_iff.1 (show (Try.prog.info? 49).map (·.zero) = some (some (.agg (pubC 0 0 zD zD).toArray)) by kernel_rfl)
  obtain ⟨fields, hu, hq⟩ : ∃ fields, Try.prog.underlying 49 = some (.struct fields) ∧ fields.toList.mapM (fun f => (Try.prog.info? f.type).map fun i => (f.offset, i.size)) = some [(0, 1), (1, 1), (2, 32), (34, 32)] := ⟨_, Try.underlying49, by kernel_rfl⟩
  have hz : (Value.agg (pubC 0 0 zD zD).toArray).cells = (pubC 0 0 zD zD).toArray := rfl
  unfold Program.built
  simp only [hi, hu, hz0, hq, hz]
  rw [Instr.fill]
theorem build_pub0 (w : World) : (Instr.build 53 #[]).run Try.prog w = .ok (.agg (pubC 0 0 zD zD).toArray) w := by
  refine run_build w _ _ _ ?_
  obtain ⟨i0, hi, hz0⟩ := Option.map_eq_some_iff.1 (show (Try.prog.info? 53).map (·.zero) = some (some (.agg (pubC 0 0 zD zD).toArray)) by kernel_rfl)
  obtain ⟨fields, hu, hq⟩ : ∃ fields, Try.prog.underlying 53 = some (.struct fields) ∧ fields.toList.mapM (fun f => (Try.prog.info? f.type).map fun i => (f.offset, i.size)) = some [(0, 2), (2, 32), (34, 32)] := ⟨_, Try.underlying53, by kernel_rfl⟩
  have hz : (Value.agg (pubC 0 0 zD zD).toArray).cells = (pubC 0 0 zD zD).toArray := rfl
  unfold Program.built
  simp only [hi, hu, hz0, hq, hz]
  rw [Instr.fill]

set_option maxHeartbeats 4000000 in
set_option maxRecDepth 100000 in
theorem knows20 (w : World) : Calls Try.prog 6 #[] w fun e w' => e = .returned (.bool true) ∧ Below w.heap.size w w' := by
  have Hb := hid (Below.refl w.heap.size w)
  go_enter Try.func6, Try.ntmps6
  go_wp2_with fail
  refine (put_bad 0 0 _ _ (by decide)).mono ?_
  rintro e w1 ⟨rfl, bw1⟩
  have HBw1 := hid (Below.on Hb.out bw1)
  have hsw1 := HBw1.out.size
  clear bw1
  go_wp2_with fail
  refine (get_arg 0 0 _ _ (by decide)).mono ?_
  rintro e w2 ⟨rfl, bw2⟩
  have HBw2 := hid (Below.on HBw1.out bw2)
  have hsw2 := HBw2.out.size
  clear bw2
  go_wp2_with (
        refine wpList_store_blk rfl 28 _ _ rfl (w2.heap.size) zSig.toArray rfl rfl _ 28 (Blk.new rfl zSig.toArray _) 34 size_sig zSig_size zSig_size (sigC_ones _ _ _ rfl) ?_
        intro w3 hbw3 hkw3
        have hw3 := hbw3.below ((Below.refl w2.heap.size w2).alloc (Nat.le_refl _) _) (by simp only [World.size_alloc]; omega) (Nat.le_refl _)
        have HBw3 := hid (Below.on HBw2.out hw3)
        have hsw3 := HBw3.out.size
        have Kxw3 := hid hkw3
        have hfw3 : w.heap.size ≤ w2.heap.size := HBw2.out.size
        clear hbw3 hkw3 hw3)
  refine (get_form1 _).mono ?_
  rintro e w4 ⟨rfl, bw4⟩
  have HBw4 := hid (Below.on HBw3.out bw4)
  have hsw4 := HBw4.out.size
  have Kxw4 := hid (Kxw3.out.below bw4)
  clear bw4
  go_wp2_with (first
     | (
        refine wpList_store_blk rfl 28 _ _ rfl (w4.heap.size) zSig.toArray rfl rfl _ 28 (Blk.new rfl zSig.toArray _) 34 size_sig zSig_size zSig_size (sigC_ones _ _ _ rfl) ?_
        intro w5 hbw5 hkw5
        have hw5 := hbw5.below ((Below.refl w4.heap.size w4).alloc (Nat.le_refl _) _) (by simp only [World.size_alloc]; omega) (Nat.le_refl _)
        have HBw5 := hid (Below.on HBw4.out hw5)
        have hsw5 := HBw5.out.size
        have Kxw5 := hid (Kxw4.out.below hw5)
        have hlxw5 := Kxw4.out.lt
        have Kyw5 := hid hkw5
        have hfw5 : w.heap.size ≤ w4.heap.size := HBw4.out.size
        clear hbw5 hkw5 hw5)
     | (refine wpList_buildv rfl 49 [] rfl [] rfl _ build_head0 ?_))
  refine (headtext_any 0 0 zD zD _ (by omega) (by omega) Dg.zero Dg.zero).mono ?_
  rintro e w6 ⟨_, rfl, bw6, htw6⟩
  obtain ⟨aw6, cw6, rfl, _⟩ := htw6.len 81 (by simp [headZ, be_length, zD])
  have HBw6 := hid (Below.on HBw5.out bw6)
  have hsw6 := HBw6.out.size
  have Kxw6 := hid (Kxw5.out.below bw6)
  have Kyw6 := hid (Kyw5.out.below bw6)
  clear bw6
  go_wp2_with fail
  refine (epochtext_any 0 zD _ (by omega) Dg.zero).mono ?_
  rintro e w7 ⟨_, rfl, bw7, htw7⟩
  obtain ⟨aw7, cw7, rfl, _⟩ := htw7.len 40 (by simp [epochZ, be_length, zD])
  have HBw7 := hid (Below.on HBw6.out bw7)
  have hsw7 := HBw7.out.size
  have Kxw7 := hid (Kxw6.out.below bw7)
  have Kyw7 := hid (Kyw6.out.below bw7)
  clear bw7
  go_wp2_with (refine wpList_buildv_if (by first | rfl | go_simp) 53 [] rfl [] rfl _ build_pub0 ?_)
  refine (keytext_any 0 0 0 zD zD _ (by omega) (by omega) (by omega) Dg.zero Dg.zero).mono ?_
  rintro e w8 ⟨_, rfl, bw8, htw8⟩
  obtain ⟨aw8, cw8, rfl, _⟩ := htw8.len 89 (by simp [keyZ, be_length, zD])
  have HBw8 := hid (Below.on HBw7.out bw8)
  have hsw8 := HBw8.out.size
  have Kxw8 := hid (Kxw7.out.below bw8)
  have Kyw8 := hid (Kyw7.out.below bw8)
  clear bw8
  go_wp2_with fail
  go_returns
  exact ⟨rfl, HBw8.out⟩
theorem eqFields_and {P : Program} {d : Nat} {cs ds : Array Value} {f : Field} {fs : List Field} {w : World} {u u' : Value} {T : TypeId} {o : Nat} {b r : Bool} (hn : f.name ≠ "_") (ht : f.type = T) (ho : f.offset = o) (hp : (part T cs o).run P w = .ok u w) (hp' : (part T ds o).run P w = .ok u' w) (he : (Op.equalIn d T u u').run P w = .ok b w) (h : (Op.eqFields d cs ds fs).run P w = .ok r w) :
    (Op.eqFields d cs ds (f :: fs)).run P w = .ok (b && r) w := by
  subst ht ho
  unfold Op.eqFields
  cases b <;> simp [hn, Sem.run_bind, hp, hp', he, h]
theorem eqFields_none {P : Program} {d : Nat} {cs ds : Array Value} {w : World} : (Op.eqFields d cs ds []).run P w = .ok true w := rfl
theorem part_dig (cs : Array Value) (xs : List Int) (o : Nat) (w : World) (h : cs.extract o (o + 32) = (xs.map (Value.int .u8)).toArray) : (part 25 cs o).run Try.prog w = .ok (.agg (xs.map (Value.int .u8)).toArray) w := by
  obtain ⟨i0, hi, hs⟩ := Option.map_eq_some_iff.1 size_digest
  have hagg : (isAgg 25).run Try.prog w = .ok true w := by
    unfold isAgg
    simp only [Sem.run_bind, run_underlying Try.underlying25, Result.andThen_ok]
    rfl
  unfold part
  simp [Sem.run_bind, hagg, sizeOf, typeInfo, hi, hs, h]
theorem part_int (cs : Array Value) (o : Nat) (v : Value) (w : World) (h : cs[o]? = some v) : (part 3 cs o).run Try.prog w = .ok v w := by
  have hagg : (isAgg 3).run Try.prog w = .ok false w := by
    unfold isAgg
    simp only [Sem.run_bind, run_underlying Try.underlying3, Result.andThen_ok]
    rfl
  unfold part
  simp [Sem.run_bind, hagg, h]
theorem pubC_e1 {L V : Int} {root pub : List Int} (h1 : Dg root) : (pubC L V root pub).toArray.extract 2 (2 + 32) = (root.map (Value.int .u8)).toArray := by
  rw [List.extract_toArray, List.extract_eq_take_drop]
  unfold pubC
  rw [List.drop_succ_cons, List.drop_succ_cons, List.drop_zero, Nat.add_sub_cancel_left, List.take_append_of_le_length (by rw [List.length_map, h1.len]; omega), List.take_of_length_le (by rw [List.length_map, h1.len]; omega)]
theorem pubC_e2 {L V : Int} {root pub : List Int} (h1 : Dg root) (h2 : Dg pub) : (pubC L V root pub).toArray.extract 34 (34 + 32) = (pub.map (Value.int .u8)).toArray := by
  rw [List.extract_toArray, List.extract_eq_take_drop]
  unfold pubC
  rw [List.drop_succ_cons, List.drop_succ_cons, Nat.add_sub_cancel_left, List.drop_append, List.length_map, h1.len, List.drop_eq_nil_of_le (by rw [List.length_map, h1.len]; omega), List.nil_append, Nat.sub_self, List.drop_zero, List.take_of_length_le (by rw [List.length_map, h2.len]; omega)]
theorem equalIn_digs (d : Nat) (xs ys : List Int) (hx : xs.length = 32) (hy : ys.length = 32) (w : World) : (Op.equalIn (d + 2) 25 (.agg (xs.map (Value.int .u8)).toArray) (.agg (ys.map (Value.int .u8)).toArray)).run Try.prog w = .ok (decide (xs = ys)) w := by
  obtain ⟨i0, hi⟩ : ∃ i, Try.prog.info? 5 = some i := Option.isSome_iff_exists.1 (by kernel_rfl)
  rw [run_equalIn_array w (d + 1) _ _ Try.underlying25 hi, run_eqItems_ints d Try.underlying5 (by kernel_rfl) xs ys (by omega) w _ (by simp [hx])]
  simp only [Result.ok.injEq, and_true, decide_eq_decide, List.mem_range]
  constructor
  · intro h
    apply List.ext_getElem?
    intro j
    rcases Nat.lt_or_ge j 32 with hj | hj
    · exact h j hj
    · rw [List.getElem?_eq_none (by omega), List.getElem?_eq_none (by omega)]
  · rintro rfl _ _; rfl
theorem equalIn_head (d : Nat) (k q k' q' : Int) (t l t' l' : List Int) (ht : Dg t) (hl : Dg l) (ht' : Dg t') (hl' : Dg l') (w : World) : (Op.equalIn (d + 3) 49 (.agg (pubC k q t l).toArray) (.agg (pubC k' q' t' l').toArray)).run Try.prog w = .ok ((k == k') && ((q == q') && (decide (t = t') && (decide (l = l') && true)))) w := by
  obtain ⟨f0, f1, f2, f3, hu, t0, t1, t2, t3, o0, o1, o2, o3, n0, n1, n2, n3⟩ : ∃ f0 f1 f2 f3 : Field, Try.prog.underlying 49 = some (.struct #[f0, f1, f2, f3]) ∧ f0.type = 3 ∧ f1.type = 3 ∧ f2.type = 25 ∧ f3.type = 25 ∧ f0.offset = 0 ∧ f1.offset = 1 ∧ f2.offset = 2 ∧ f3.offset = 34 ∧ f0.name ≠ "_" ∧ f1.name ≠ "_" ∧ f2.name ≠ "_" ∧ f3.name ≠ "_" := ⟨_, _, _, _, Try.underlying49, rfl, rfl, rfl, rfl, rfl, rfl, rfl, rfl, by decide, by decide, by decide, by decide⟩
  have hf : Try.prog.fieldsOf 49 = #[f0, f1, f2, f3] := by unfold Program.fieldsOf; rw [hu]
  have a0 : (pubC k q t l).toArray[0]? = some (.int .i64 k) := rfl
  have a1 : (pubC k q t l).toArray[1]? = some (.int .i64 q) := rfl
  have b0 : (pubC k' q' t' l').toArray[0]? = some (.int .i64 k') := rfl
  have b1 : (pubC k' q' t' l').toArray[1]? = some (.int .i64 q') := rfl
  have a2 := pubC_e1 (L := k) (V := q) (pub := l) ht
  have a3 := pubC_e2 (L := k) (V := q) ht hl
  have b2 := pubC_e1 (L := k') (V := q') (pub := l') ht'
  have b3 := pubC_e2 (L := k') (V := q') ht' hl'
  generalize (pubC k q t l).toArray = cs at *
  generalize (pubC k' q' t' l').toArray = ds at *
  rw [run_equalIn_struct w (d + 2) 49 _ _ (by rw [hf]; exact hu) (by kernel_rfl), hf]
  exact eqFields_and n0 t0 o0 (part_int cs 0 _ w a0) (part_int ds 0 _ w b0) (run_equalIn_int w (d + 1) 3 .i64 .i64 _ _ Try.underlying3) (eqFields_and n1 t1 o1 (part_int cs 1 _ w a1) (part_int ds 1 _ w b1) (run_equalIn_int w (d + 1) 3 .i64 .i64 _ _ Try.underlying3) (eqFields_and n2 t2 o2 (part_dig cs t 2 w a2) (part_dig ds t' 2 w b2) (equalIn_digs d t t' ht.len ht'.len w) (eqFields_and n3 t3 o3 (part_dig cs l 34 w a3) (part_dig ds l' 34 w b3) (equalIn_digs d l l' hl.len hl'.len w) eqFields_none)))
theorem be_inj {a b : Int} (ha : 0 ≤ a ∧ a < 18446744073709551616) (hb : 0 ≤ b ∧ b < 18446744073709551616) (h : be 8 a = be 8 b) : a = b := by
  have h1 := numOf_be 8 a
  have h2 := numOf_be 8 b
  rw [h] at h1
  have h3 := h1.symm.trans h2
  rw [Int.emod_eq_of_lt ha.1 (by simpa using ha.2), Int.emod_eq_of_lt hb.1 (by simpa using hb.2)] at h3
  exact h3
theorem uZ_inj {a b : Int} (ha : -9223372036854775808 ≤ a ∧ a < 9223372036854775808) (hb : -9223372036854775808 ≤ b ∧ b < 9223372036854775808) (h : uZ a = uZ b) : a = b := by unfold uZ at h; omega
theorem headZ_inj {k q k' q' : Int} {t l t' l' : List Int} (hk : -9223372036854775808 ≤ k ∧ k < 9223372036854775808) (hq : -9223372036854775808 ≤ q ∧ q < 9223372036854775808) (hk' : -9223372036854775808 ≤ k' ∧ k' < 9223372036854775808) (hq' : -9223372036854775808 ≤ q' ∧ q' < 9223372036854775808) (ht : Dg t) (ht' : Dg t') :
    headZ k q t l = headZ k' q' t' l' ↔ k = k' ∧ q = q' ∧ t = t' ∧ l = l' := by
  constructor
  · intro h
    unfold headZ at h
    have h1 := (List.append_inj h rfl).2
    have h2 := List.append_inj h1 (by rw [be_length, be_length])
    have h3 := List.append_inj h2.2 (by rw [be_length, be_length])
    have h4 := List.append_inj h3.2 (by rw [ht.len, ht'.len])
    exact ⟨uZ_inj hk hk' (be_inj (uZ_in _) (uZ_in _) h2.1), uZ_inj hq hq' (be_inj (uZ_in _) (uZ_in _) h3.1), h4.1, h4.2⟩
  · rintro ⟨rfl, rfl, rfl, rfl⟩; rfl
theorem eq_head (k q k' q' : Int) (t l t' l' : List Int) (hk : -9223372036854775808 ≤ k ∧ k < 9223372036854775808) (hq : -9223372036854775808 ≤ q ∧ q < 9223372036854775808) (hk' : -9223372036854775808 ≤ k' ∧ k' < 9223372036854775808) (hq' : -9223372036854775808 ≤ q' ∧ q' < 9223372036854775808) (ht : Dg t) (hl : Dg l) (ht' : Dg t') (hl' : Dg l') (w : World) :
    (binOp .eql 49 (.agg (pubC k q t l).toArray) (.agg (pubC k' q' t' l').toArray)).run Try.prog w = .ok (.bool (decide (headZ k q t l = headZ k' q' t' l'))) w := by
  have h := equalIn_head 9997 k q k' q' t l t' l' ht hl ht' hl' w
  rw [run_eql_struct, h]
  have e : ((k == k') && ((q == q') && (decide (t = t') && (decide (l = l') && true)))) = decide (headZ k q t l = headZ k' q' t' l') := by
    by_cases hh : headZ k q t l = headZ k' q' t' l'
    · obtain ⟨rfl, rfl, rfl, rfl⟩ := (headZ_inj hk hq hk' hq' ht ht').1 hh
      simp
    · rw [decide_eq_false hh]
      by_cases h1 : k = k' <;> by_cases h2 : q = q' <;> by_cases h3 : t = t' <;> by_cases h4 : l = l' <;> first | exact absurd ((headZ_inj hk hq hk' hq' ht ht').2 ⟨h1, h2, h3, h4⟩) hh | simp [h1, h2, h3, h4]
  rw [e]
  rfl
theorem head_key {k q k' L V : Int} {t l r p : List Int} : ¬ headZ k q t l = keyZ k' L V r p := by
  unfold headZ keyZ
  intro h
  have := (List.append_inj h rfl).1
  simp at this
theorem headZ_small {k q : Int} {t l : List Int} (ht : Dg t) (hl : Dg l) : ∀ x ∈ headZ k q t l, 0 ≤ x ∧ x < 256 := fun x hx => by
  unfold headZ at hx
  simp only [List.mem_append, List.mem_singleton] at hx
  rcases hx with rfl | h | h | h | h
  · omega
  · exact be_small _ _ x h
  · exact be_small _ _ x h
  · exact ht.small x h
  · exact hl.small x h
theorem epochZ_small {q : Int} {t : List Int} (ht : Dg t) : ∀ x ∈ epochZ q t, 0 ≤ x ∧ x < 256 := fun x hx => by
  unfold epochZ at hx
  simp only [List.mem_append] at hx
  rcases hx with h | h
  · exact be_small _ _ x h
  · exact ht.small x h
theorem keyZ_small {k L V : Int} {t l : List Int} (ht : Dg t) (hl : Dg l) : ∀ x ∈ keyZ k L V t l, 0 ≤ x ∧ x < 256 := fun x hx => by
  unfold keyZ at hx
  simp only [List.mem_append, List.mem_singleton] at hx
  rcases hx with rfl | h | h | h | h | h
  · omega
  · exact be_small _ _ x h
  · exact be_small _ _ x h
  · exact be_small _ _ x h
  · exact ht.small x h
  · exact hl.small x h
end Go.Proofs.Ytkakoiaahgchmaa
