/-
  Put together, as far as wanted: JPStack JPBuild JHyper JHyper2 JHyper3 JDkA.
-/
import Derived.Test.YtpinamdgbijjlaaGreatDoorPD4
namespace Go.Proofs.YtpinamdgbijjlaaGreatDoor
set_option maxRecDepth 100000
open Go.ChangeShapes Go.WideShapes Go.ChangeAt Go.RowKit
theorem fill_part (place : Nat → Option (Nat × Nat)) (cells : Array Value) (i off : Nat) (v : Value) (rest : List (Nat × Value)) (hp : place i = some (off, v.cells.size)) (hs : off + v.cells.size ≤ cells.size) :
    Instr.fill place cells ((i, v) :: rest) = Instr.fill place (splice cells.toList off v.cells.toList).toArray rest := by
  rw [Instr.fill]
  simp only [hp]
  rw [if_neg (by simp only [ne_eq, not_true_eq_false, decide_false, Bool.false_or, decide_eq_true_eq]; omega)]
  congr 1
  have hf := fold_set v.cells.toList 0 off cells (by simpa using hs)
  apply Array.ext'
  rw [Nat.add_zero] at hf
  rw [← hf]
  have : v.cells.zipIdx = ((v.cells.toList.zipIdx 0)).toArray := by
    apply Array.ext'
    simp
  rw [this, List.foldl_toArray']
  all_goals first | rfl | simp
section
variable {P : Program} {ops : Array Oper} {rest : List Oper} {op : Oper} {a : Act} {w : World} {Q : Exit → Act → World → Prop} {t e : TypeId}
/-- A slice of one element, written out. -/
theorem run_build_rec {i : TypeInfo} {z v : Value} {n : Nat} (ht : P.underlying t = some (.slice e)) (hi : P.info? e = some i) (hz : i.zero = some z) (hs : i.size = n) (h0 : 0 < n) (hn : n ≤ 16777216) (hv : v.cells.size = n) (w : World) :
    (Instr.buildSlice t 1 #[(0, v)]).run P w = .ok (.slice (some ⟨w.heap.size, 0, none⟩) 1 1) (w.alloc (.cells v.cells e (0, 0))) := by
  unfold Instr.buildSlice
  have hne : ¬ (1 * n = 0) := by omega
  have hle : ¬ (16777216 < n) := by omega
  have hne2 : ¬ (n = 0) := by omega
  have hf : Instr.fill (fun i => some (i * n, n)) ((Array.range n).map fun i => z.cells[i % z.cells.size]!) [(0, v)] = some v.cells := by
    rw [fill_part (fun i => some (i * n, n)) _ 0 0 v [] (by simp [hv]) (by simp [hv]), Instr.fill]
    simp [splice, hv, List.drop_eq_nil_of_le]
  simp [run_underlying ht, sizeOf, typeInfo, hi, hs, hne2, hz, zeroValue]
  rw [if_neg hle, hf]
  simp [newRow]
theorem exec_build_rec {o : Oper} {A : Act} {w : World} {x : Operand} {i : TypeInfo} {z v : Value} {n : Nat} (ho : o.op = .buildSlice t 1 #[(0, x)]) (he : A.eval x = v) (ht : P.underlying t = some (.slice e)) (hi : P.info? e = some i) (hz : i.zero = some z) (hs : i.size = n) (h0 : 0 < n) (hn : n ≤ 16777216) (hv : v.cells.size = n) :
    (execOp A.eval o).run P w = .ok (.value (.slice (some ⟨w.heap.size, 0, none⟩) 1 1)) (w.alloc (.cells v.cells e (0, 0))) := by
  unfold execOp
  simp only [ho, List.map_toArray, List.map_cons, List.map_nil, he, Sem.run_bind, run_build_rec ht hi hz hs h0 hn hv, Result.andThen_ok, Sem.run_pure]
/-- An element of a row, whatever its size. -/
theorem run_index_sz {sz : Nat} (ht : P.underlying t = some (.slice e)) (hs : (P.info? e).map (·.size) = some sz) (b o len cap : Nat) (k : IntKind) (i : Int) (j : Nat) (hi : i = j) (hj : j < len) (w : World) :
    (Instr.indexAt t (.slice (some ⟨b, o, none⟩) len cap) (.int k i)).run P w = .ok (.pointer (some ⟨b, o + j * sz, none⟩)) w := by
  subst hi
  obtain ⟨i0, hi0, h32⟩ := Option.map_eq_some_iff.1 hs
  have hlt : (0 : Int) ≤ j ∧ (j : Int) < len := by omega
  unfold Instr.indexAt
  simp [asIntOf, Sem.run_bind, run_underlying ht, hlt, sizeOf, typeInfo, hi0, h32, hj, Addr.add_mid]
theorem quiet_index_sz {sz : Nat} {C : World → Prop} {K : Act → Prop} (ty : TypeId) (x ix : Operand) (ho : op.op = .indexAddr ty x ix) (ht : P.underlying ty = some (.slice e)) (hs : (P.info? e).map (·.size) = some sz) (b o len cap : Nat) (hx : a.eval x = .slice (some ⟨b, o, none⟩) len cap)
    (k : IntKind) (i : Int) (hix : a.eval ix = .int k i) (j : Nat) (hi : i = j) (hj : j < len) (h : K (a.put op.dst (.pointer (some ⟨b, o + j * sz, none⟩)))) : op.quiet P a C K :=
  ⟨.pointer (some ⟨b, o + j * sz, none⟩), fun w' hw' => by
    unfold Oper.quietAt execOp
    simp only [ho, hx, hix, Sem.run_bind, Sem.run_pure, Result.andThen_ok, run_index_sz ht hs b o len cap k i j hi hj]
    simp [Oper.quietUpon], h⟩
/-- The first elements of a row, whatever their size. -/
theorem run_cutr_h (ht : P.underlying t = some (.slice e)) (hs : (P.info? e).isSome = true) (a : Option Addr) (len cap : Nat) (hi : Int) (w : World) (h0 : 0 ≤ hi) (h2 : hi ≤ cap) :
    (Instr.slice t (.slice a len cap) none (some (.int .i64 hi)) none).run P w = .ok (.slice a hi.toNat cap) w := by
  have he : P.elem t = e := by simp [Program.elem, ht]
  rw [run_slice_h (w := w) t a len cap (by rw [he]; exact ht) _ hi h0 h2]
  obtain ⟨i, hi1⟩ := Option.isSome_iff_exists.1 hs
  have := cutD_zero a cap
  unfold cutD at this
  simp only [Nat.zero_mul] at this
  simp [sizeOf, typeInfo, he, hi1, sliced, this]
theorem quiet_of {C : World → Prop} {K : Act → Prop} (v : Value) (h : ∀ w', C w' → (execOp a.eval op).run P w' = .ok (.value v) w') (hk : K (a.put op.dst v)) : op.quiet P a C K :=
  ⟨v, fun w' hw' => by unfold Oper.quietAt; rw [h w' hw']; simp [Oper.quietUpon], hk⟩
/-- One cell is stored. -/
theorem run_store_one {ty : TypeId} {b o : Nat} {v : Value} {cs : Array Value} {T : TypeId} (w : World) (hk : Blk w b cs T) (ho : o < cs.size) (hi : (P.info? ty).map (·.size) = some 1) (h1 : v.oneCell' = true) (hc : v.cells = #[v]) :
    (storeVar ty ⟨b, o, none⟩ v).run P w = .ok () (w.setCells b o [v]) := by
  have h := run_storeVar_mid (P := P) w b o ty #[v] (fun j hj => ⟨by
    simp only [List.size_toArray, List.length_cons, List.length_nil] at hj
    rw [hk.cell, Array.getElem?_eq_getElem (by omega)]; rfl, hk.free _⟩) (by rw [hi]; rfl) (by simp [h1])
  unfold storeVar at *
  rw [hc]
  exact h
theorem wpList_store_cell (hgd : op.guard = none) (ty : TypeId) (x y : Operand) (ho : op.op = .store ty x y) (b o : Nat) (v : Value) (hx : a.eval x = .pointer (some ⟨b, o, none⟩)) (hy : a.eval y = v) (h1 : v.oneCell' = true) (hc : v.cells = #[v])
    (cs : Array Value) (T : TypeId) (hk : Blk w b cs T) (hlt : o < cs.size) (hi : (P.info? ty).map (·.size) = some 1)
    (h : ∀ w', But b w w' → Blk w' b (cs.setIfInBounds o v) T → wpList P ops Q rest (a.put op.dst undef) w') : wpList P ops Q (op :: rest) a w :=
  wpList_plain hgd fun K hK => by
    unfold Oper.wp execOp
    simp only [ho, hx, hy, Instr.storeAt, Instr.sureAddr, Sem.run_bind, Sem.run_pure, Result.andThen_ok, run_store_one w hk hlt hi h1 hc, Oper.upon_skip]
    exact hK _ _ (h _ (But.setCells [v] o w (But.of (Below.refl _ _))) (hk.set o v))
end
/-! Rows of structs. -/
theorem own_pop {w : World} {base n sz : Nat} {e : TypeId} {v : Value} {xs ys zs : List Value} (h : w.ownsRow base e sz v (n + 1) xs) (hx : xs = ys ++ zs) (hy : ys.length = n * sz) :
    ∃ g cap, v = .slice (some ⟨g, 0, none⟩) (n + 1) cap ∧ base ≤ g ∧ n + 1 ≤ cap ∧ cap ≤ maxLen ∧ g < w.heap.size ∧ w.rangeAt g (0 + n * sz) zs ∧
      ∀ w' : World, w'.heap[g]? = w.heap[g]? → w'.ownsRow base e sz (.slice (some ⟨g, 0, none⟩) n cap) n ys := by
  subst hx
  obtain ⟨hl, ⟨_, h0⟩ | ⟨g, cap, cur, rfl, hg, hh, hle, hmx, hsz, htk⟩⟩ := h
  · omega
  · refine ⟨g, cap, rfl, hg, hle, hmx, (Array.getElem?_eq_some_iff.1 hh).1, fun j u hj => ?_, fun w' hw => ⟨hy, .inr ⟨g, cap, cur, rfl, hg, by rw [hw]; exact hh, by omega, hmx, hsz, ?_⟩⟩⟩
    · have hb : Blk w g cur e := hh
      have hjl := (List.getElem?_eq_some_iff.1 hj).1
      rw [Nat.zero_add, hb.cell]
      rw [List.length_append, hy] at hl
      have h2 : (cur.toList.take ((n + 1) * sz))[n * sz + j]? = some u := by
        rw [htk, List.getElem?_append_right (by omega), hy, Nat.add_sub_cancel_left]
        exact hj
      rw [List.getElem?_take_of_lt (by omega)] at h2
      simpa using h2
    · have h3 := congrArg (List.take (n * sz)) htk
      rw [List.take_take, Nat.min_eq_left (by rw [Nat.add_mul]; omega), List.take_append_of_le_length (by omega), List.take_of_length_le (l := ys) (by omega)] at h3
      exact h3
end Go.Proofs.YtpinamdgbijjlaaGreatDoor
namespace Go.Proofs.YtpinamdgbijjlaaGreatDoor
set_option maxRecDepth 100000
open Go.ChangeShapes Go.WideShapes Go.ChangeAt Go.RowKit
/-- A secret's cells. -/
def secL (seed prf pub : List Int) : List Int := seed ++ (prf ++ pub)
theorem secL_seed {seed prf pub : List Int} {w : World} {b : Nat} {T : TypeId} (k : Blk w b ((secL seed prf pub).map (Value.int .u8)).toArray T) : w.rangeAt b 0 (seed.map (Value.int .u8)) := fun j v hv => by
  have hj : j < seed.length := by have := (List.getElem?_eq_some_iff.1 hv).1; simpa using this
  rw [Nat.zero_add, k.cell, List.getElem?_toArray, ← hv, List.getElem?_map, List.getElem?_map]
  unfold secL
  rw [List.getElem?_append_left hj]
theorem secL_pub {seed prf pub : List Int} (h : Dg seed) (hp : Dg prf) {w : World} {b : Nat} {T : TypeId} (k : Blk w b ((secL seed prf pub).map (Value.int .u8)).toArray T) : w.rangeAt b 64 (pub.map (Value.int .u8)) := fun j v hv => by
  rw [k.cell, List.getElem?_toArray, ← hv, List.getElem?_map, List.getElem?_map]
  unfold secL
  rw [List.getElem?_append_right (by rw [h.len]; omega), h.len, List.getElem?_append_right (by rw [hp.len]; omega), hp.len, show 64 + j - 32 - 32 = j by omega]
theorem secL_length {seed prf pub : List Int} (h : Dg seed) (hp : Dg prf) (hq : Dg pub) : (secL seed prf pub).length = 96 := by simp [secL, h.len, hp.len, hq.len]
def otsZ (la tr i : Int) : List Int := [la, tr / 4294967296, tr % 4294967296, 0, i, 0, 0, 0]
def ltrZ (la tr i : Int) : List Int := [la, tr / 4294967296, tr % 4294967296, 1, i, 0, 0, 0]
theorem Aw.ots {la tr i : Int} (hl : 0 ≤ la ∧ la < 4294967296) (ht : 0 ≤ tr ∧ tr < 18446744073709551616) (hi : 0 ≤ i ∧ i < 4294967296) : Aw (otsZ la tr i) := ⟨rfl, fun x hx => by
  simp only [otsZ, List.mem_cons, List.not_mem_nil, or_false] at hx
  omega⟩
theorem Aw.ltr {la tr i : Int} (hl : 0 ≤ la ∧ la < 4294967296) (ht : 0 ≤ tr ∧ tr < 18446744073709551616) (hi : 0 ≤ i ∧ i < 4294967296) : Aw (ltrZ la tr i) := ⟨rfl, fun x hx => by
  simp only [ltrZ, List.mem_cons, List.not_mem_nil, or_false] at hx
  omega⟩
@[irreducible] def leafZ (seed pub : List Int) (la tr i : Int) : List Int := compZ pub (ltrZ la tr i) 67 0 (rowW (pubP seed pub (otsZ la tr i)))
theorem leafZ_eq (seed pub : List Int) (la tr i : Int) : compZ pub (ltrZ la tr i) 67 0 (rowW (pubP seed pub (otsZ la tr i))) = leafZ seed pub la tr i := by unfold leafZ; rfl
theorem Dg.leaf (seed pub : List Int) (la tr i : Int) : Dg (leafZ seed pub la tr i) := by
  rw [← leafZ_eq]
  exact compZ_dg _ _ 67 0 _ (rowW_each (Dg.pubP _ _ _)) (by rw [rowW_length]; omega) (by rw [rowW_length]; omega)
theorem ots_list (la tr i : Int) (w : World) (h0 : 0 ≤ tr) (h1 : tr < 18446744073709551616) :
    Calls Tryz.prog 159 #[.int .u32 la, .int .u64 tr, .int .u32 i] w fun e w' => e = .returned (.agg ((otsZ la tr i).map (Value.int .u32)).toArray) ∧ Below w.heap.size w w' := ots_any la tr i w h0 h1
theorem ltr_list (la tr i : Int) (w : World) (h0 : 0 ≤ tr) (h1 : tr < 18446744073709551616) :
    Calls Tryz.prog 161 #[.int .u32 la, .int .u64 tr, .int .u32 i] w fun e w' => e = .returned (.agg ((ltrZ la tr i).map (Value.int .u32)).toArray) ∧ Below w.heap.size w w' := ltree_any la tr i w h0 h1
set_option maxHeartbeats 4000000 in
theorem refbase_ots (la tr i : Int) (w : World) (h0 : 0 ≤ tr) (h1 : tr < 18446744073709551616) :
    Calls Tryz.prog 163 #[.int .u32 la, .int .u64 tr, .int .u32 0, .int .u32 i] w fun e w' => e = .returned (.agg ((otsZ la tr i).map (Value.int .u32)).toArray) ∧ Below w.heap.size w w' := by
  go_enter Tryz.func163, Tryz.ntmps163
  go_wp2
  go_returns
  exact ⟨rfl, by go_grown⟩
set_option maxHeartbeats 4000000 in
theorem refbase_ltr (la tr i : Int) (w : World) (h0 : 0 ≤ tr) (h1 : tr < 18446744073709551616) :
    Calls Tryz.prog 163 #[.int .u32 la, .int .u64 tr, .int .u32 1, .int .u32 i] w fun e w' => e = .returned (.agg ((ltrZ la tr i).map (Value.int .u32)).toArray) ∧ Below w.heap.size w w' := by
  go_enter Tryz.func163, Tryz.ntmps163
  go_wp2
  go_returns
  exact ⟨rfl, by go_grown⟩
set_option maxHeartbeats 4000000 in
theorem leaf_any (seed prf pub : List Int) (la tr i : Int) (w : World) (hseed : Dg seed) (hprf : Dg prf) (hpub : Dg pub) (hla : 0 ≤ la ∧ la < 4294967296) (htr : 0 ≤ tr ∧ tr < 18446744073709551616) (hi : 0 ≤ i ∧ i < 4294967296) (tab : ShaTab w) :
    Calls Tryz.prog 123 #[(.agg ((secL seed prf pub).map (Value.int .u8)).toArray), .int .u32 la, .int .u64 tr, .int .i64 i] w fun e w' => e = .returned (.agg ((leafZ seed pub la tr i).map (Value.int .u8)).toArray) ∧ Below w.heap.size w w' := by
  have HO := hid (Aw.ots hla htr hi)
  have HT := hid (Aw.ltr hla htr hi)
  have HL := hid (Dg.leaf seed pub la tr i)
  have C2 := hid (show ∀ (pa : Option Addr) (pc : Nat) (W : World) (h : DigsAt W pa 67 pc (rowW (pubP seed pub (otsZ la tr i)))) (t : ShaTab W), Calls Tryz.prog 160 #[.slice pa 67 pc, (.agg (pub.map (Value.int .u8)).toArray), (.agg ((ltrZ la tr i).map (Value.int .u32)).toArray)] W (fun e w' => e = .returned (.tuple #[(.agg ((leafZ seed pub la tr i).map (Value.int .u8)).toArray), .int .i64 0]) ∧ Below W.heap.size W w') from fun pa pc W h t => by
    have := compress_good pa 67 pc (rowW (pubP seed pub (otsZ la tr i))) pub (ltrZ la tr i) W h (by omega) hpub HT.out t
    rw [leafZ_eq] at this
    exact this)
  generalize leafZ seed pub la tr i = R at *
  have b1 := (Below.refl w.heap.size w).alloc (Nat.le_refl _) (.cells ((secL seed prf pub).map (Value.int .u8)).toArray 40 (0, 0))
  have b2 := b1.alloc b1.size (.cells (byteCells 32 []) 25 (0, 0))
  have Ks := hid ((Blk.new (w := w) (n := w.heap.size) rfl ((secL seed prf pub).map (Value.int .u8)).toArray 40).old (.cells (byteCells 32 []) 25 (0, 0)))
  have Kr0 := hid (Blk.new (w := w.alloc (.cells ((secL seed prf pub).map (Value.int .u8)).toArray 40 (0, 0))) (n := w.heap.size + 1) (by simp only [World.size_alloc]) (byteCells 32 []) 25)
  have Hb := hid b2
  have Hbs := hid (show w.heap.size + 1 + 1 = ((w.alloc (.cells ((secL seed prf pub).map (Value.int .u8)).toArray 40 (0, 0))).alloc (.cells (byteCells 32 []) 25 (0, 0))).heap.size by simp only [World.size_alloc])
  have HzA := hid zsize
  have Htab := hid tab
  clear b1 b2 tab
  go_enter Tryz.func123, Tryz.ntmps123
  go_wp2_with fail
  refine wp_region_flow 10 [0, 1, 2, 3, 4, 5, 6, 7, 8] [] [(.c 9, [], [])] (by kernel_rfl) (by kernel_rfl) ?_
  apply Exists.intro
  refine ⟨fun w0 hb0 hF0 => ?_, ?_⟩
  · skip
    have c0 := fun e : Ext w0 => ots_list la tr i e.at_ htr.1 htr.2
    have xs : ∀ w', (∃ x : Ext w0, w' = x.at_) → w'.rangeAt (w.heap.size) 0 (seed.map (Value.int .u8)) := fun w' ⟨x, hx⟩ => hx ▸ secL_seed ((Ks.out.below hb0).below x.same)
    have xp : ∀ w', (∃ x : Ext w0, w' = x.at_) → w'.rangeAt (w.heap.size) 64 (pub.map (Value.int .u8)) := fun w' ⟨x, hx⟩ => hx ▸ secL_pub hseed hprf ((Ks.out.below hb0).below x.same)
    simp only [pick, List.getElem?_toArray, List.getElem?_cons_succ, List.getElem?_cons_zero, Option.toList_some, List.cons_append, List.nil_append]
    repeat (first | (go_big_quiet_want; refine quiet_load_mid 25 _ rfl (w.heap.size) 0 rfl _ xs _ Tryz.underlying25 rfl (by rw [List.length_map, hseed.len]; exact size_digest) ?_; go_big_quiet_on; simp only [Act.put, List.setIfInBounds_toArray, List.set_cons_zero, List.set_cons_succ]) | (go_big_quiet_want; refine quiet_load_mid 25 _ rfl (w.heap.size) 64 rfl _ xp _ Tryz.underlying25 rfl (by rw [List.length_map, hpub.len]; exact size_digest) ?_; go_big_quiet_on; simp only [Act.put, List.setIfInBounds_toArray, List.set_cons_zero, List.set_cons_succ]) | go_big_quiet_step (first | (go_at_call 159; with_reducible exact Calls.ext (c0 _))))
    exact wpQuiet_nil rfl
  refine AlChk.nil ?_
  refine Walk.call rfl 158 #[(.agg (seed.map (Value.int .u8)).toArray), (.agg (pub.map (Value.int .u8)).toArray), (.agg ((otsZ la tr i).map (Value.int .u32)).toArray)] (RowV 67 (rowW (pubP seed pub (otsZ la tr i)))) (fun v w' w'' h k => h.below k) rfl (fun w1 hb1 hF1 => ⟨by go_simp, ?_⟩) ?_
  · skip
    exact public_v seed pub (otsZ la tr i) hseed hpub HO.out w1 ((Htab.out.below Hb.out).below hb1)
  rintro v0 w1 hb1 hF1 ⟨pa, pc, rfl, _⟩
  apply Exists.intro
  refine ⟨fun w0 hb0 hF0 => ?_, ?_⟩
  · skip
    exact wpQuiet_nil rfl
  refine AlChk.nil ?_
  refine Walk.fin fun w1 hw1 hFw1 _ => ?_
  simp only [List.drop_succ_cons, List.drop_zero]
  have HFw1 := hid hFw1
  have HBw1 := hid (Below.on Hb.out hw1)
  have hsw1 := HBw1.out.size
  have Ksw1 := hid (Ks.out.below hw1)
  have Kr0w1 := hid (Kr0.out.below hw1)
  clear hw1 hFw1
  have Hp := hid ((show RowV 67 (rowW (pubP seed pub (otsZ la tr i))) (.slice pa 67 pc) w1 from HFw1.out.2).digs.2)
  clear HFw1
  go_wp2_with fail
  refine wp_region_late 13 11 13 [0, 1, 2, 3, 4, 5, 6, 7, 8, 9, 10, 11] [12] [(.b 12, [], [])] (by kernel_rfl) (by kernel_rfl) rfl (by kernel_rfl) (fun _ _ d _ _ h => by cases d <;> exact h) ?_
  simp only [late]
  apply Exists.intro
  refine ⟨fun w0 hb0 hF0 => ?_, ?_⟩
  · skip
    have c0 := fun e : Ext w0 => ltr_list la tr i e.at_ htr.1 htr.2
    have c1 := fun e : Ext w0 => C2.out pa pc e.at_ ((Hp.out.below hb0).below e.same) ((Htab.out.below (Below.on HBw1.out hb0)).below e.same)
    have xp : ∀ w', (∃ x : Ext w0, w' = x.at_) → w'.rangeAt (w.heap.size) 64 (pub.map (Value.int .u8)) := fun w' ⟨x, hx⟩ => hx ▸ secL_pub hseed hprf ((Ksw1.out.below hb0).below x.same)
    simp only [pick, List.getElem?_toArray, List.getElem?_cons_succ, List.getElem?_cons_zero, Option.toList_some, List.cons_append, List.nil_append]
    repeat (first | (go_big_quiet_want; refine quiet_load_mid 25 _ rfl (w.heap.size) 64 rfl _ xp _ Tryz.underlying25 rfl (by rw [List.length_map, hpub.len]; exact size_digest) ?_; go_big_quiet_on; simp only [Act.put, List.setIfInBounds_toArray, List.set_cons_zero, List.set_cons_succ]) | go_big_quiet_step (first | (go_at_call 161; with_reducible exact Calls.ext (c0 _)) | (go_at_call 160; with_reducible exact Calls.ext (c1 _))))
    exact wpQuiet_nil rfl
  refine AlChk.one rfl (fun b => .pointer (some ⟨b, 0, none⟩)) (.cells (byteCells 32 []) 25 (0, 0)) rfl (fun w3 hb3 hF3 => by go_simp; rfl) ?_
  refine AlChk.nil ?_
  refine Walk.blk rfl (fun b => .pointer (some ⟨b, 0, none⟩)) (.cells (byteCells 32 []) 25 (0, 0)) (by simp) ?_
  intro bw2 wz hbz_ hFz hgew2 _
  apply Exists.intro
  refine ⟨fun w4 hb4 hF4 => wpQuiet_nil rfl, ?_⟩
  refine AlChk.nil ?_
  refine Walk.fin fun w2 hw2 hFw2 _ => ?_
  simp only [List.drop_succ_cons, List.drop_zero]
  have kbw2 : Blk w2 bw2 (byteCells 32 []) 25 := hFw2.2
  have Kzw2 := hid kbw2
  have hgww2 : w.heap.size ≤ bw2 := Nat.le_trans HBw1.out.size hgew2
  clear hbz_ hFz hFw2 kbw2
  have hnsw2 : w.heap.size ≠ bw2 := by have := Ksw1.out.lt; omega
  have hnr0w2 : w.heap.size + 1 ≠ bw2 := by have := Kr0w1.out.lt; omega
  have HBw2 := hid (Below.on HBw1.out hw2)
  have hsw2 := HBw2.out.size
  have Ksw2 := hid (Ksw1.out.below hw2)
  have Kr0w2 := hid (Kr0w1.out.below hw2)
  clear hw2
  go_wp2_with (first
     | (
        refine wpList_store_blk rfl 25 _ _ rfl bw2 (R.map (Value.int .u8)).toArray rfl rfl _ 25 Kzw2.out 32 size_digest HzA.out HL.out.size (ints_one _ _) ?_
        intro w3 hbw3 hkw3
        have HBw3 := hid (hbw3.below HBw2.out HBw2.out.size hgww2)
        have hsw3 := HBw3.out.size
        have Kyw3 := hid hkw3
        have Ksw3 := hid (hbw3.blk Ksw2.out hnsw2)
        have Kr0w3 := hid (hbw3.blk Kr0w2.out hnr0w2)
        clear hbw3 hkw3)
     | (refine wpList_load_blk rfl 25 _ rfl (bw2) rfl _ 25 Kyw3.out _ Tryz.underlying25 rfl 32 size_digest HL.out.size ?_)
     | (
      refine wpList_store_blk rfl 25 _ _ rfl (w.heap.size + 1) (R.map (Value.int .u8)).toArray rfl rfl _ 25 Kr0w3.out 32 size_digest HzA.out HL.out.size (ints_one _ _) ?_
      intro w9 hb9 hk9
      have HB9 := hid (hb9.below HBw3.out HBw3.out.size (by omega))
      have HK9 := hid hk9
      clear hb9 hk9))
  exact bodyPost_ret (v := (.agg (R.map (Value.int .u8)).toArray)) (results_blk Tryz.results123 _ (w.heap.size + 1) rfl _ 25 HK9.out _ Tryz.underlying25 rfl 32 size_digest HL.out.size) rfl ⟨rfl, HB9.out⟩
set_option maxHeartbeats 4000000 in
theorem refleaf_any (seed prf pub : List Int) (la tr i : Int) (w : World) (hseed : Dg seed) (hprf : Dg prf) (hpub : Dg pub) (hla : 0 ≤ la ∧ la < 4294967296) (htr : 0 ≤ tr ∧ tr < 18446744073709551616) (hi : 0 ≤ i ∧ i < 4294967296) :
    Calls Tryz.prog 125 #[(.agg ((secL seed prf pub).map (Value.int .u8)).toArray), .int .u32 la, .int .u64 tr, .int .u32 i] w fun e w' => e = .returned (.agg ((leafZ seed pub la tr i).map (Value.int .u8)).toArray) ∧ Below w.heap.size w w' := by
  have HO := hid (Aw.ots hla htr hi)
  have HT := hid (Aw.ltr hla htr hi)
  have HL := hid (Dg.leaf seed pub la tr i)
  have C2 := hid (show ∀ (pa : Option Addr) (pc : Nat) (W : World) (h : DigsAt W pa 67 pc (rowW (pubP seed pub (otsZ la tr i)))), Calls Tryz.prog 164 #[.slice pa 67 pc, (.agg (pub.map (Value.int .u8)).toArray), (.agg ((ltrZ la tr i).map (Value.int .u32)).toArray)] W (fun e w' => e = .returned (.agg ((leafZ seed pub la tr i).map (Value.int .u8)).toArray) ∧ Below W.heap.size W w') from fun pa pc W h => by
    have := refcompress_any pa 67 pc (rowW (pubP seed pub (otsZ la tr i))) pub (ltrZ la tr i) W h (by omega) hpub HT.out
    rw [leafZ_eq] at this
    exact this)
  generalize leafZ seed pub la tr i = R at *
  have b1 := (Below.refl w.heap.size w).alloc (Nat.le_refl _) (.cells ((secL seed prf pub).map (Value.int .u8)).toArray 40 (0, 0))
  have b2 := b1.alloc b1.size (.cells (byteCells 32 []) 25 (0, 0))
  have Ks := hid ((Blk.new (w := w) (n := w.heap.size) rfl ((secL seed prf pub).map (Value.int .u8)).toArray 40).old (.cells (byteCells 32 []) 25 (0, 0)))
  have Kr0 := hid (Blk.new (w := w.alloc (.cells ((secL seed prf pub).map (Value.int .u8)).toArray 40 (0, 0))) (n := w.heap.size + 1) (by simp only [World.size_alloc]) (byteCells 32 []) 25)
  have Hb := hid b2
  have Hbs := hid (show w.heap.size + 1 + 1 = ((w.alloc (.cells ((secL seed prf pub).map (Value.int .u8)).toArray 40 (0, 0))).alloc (.cells (byteCells 32 []) 25 (0, 0))).heap.size by simp only [World.size_alloc])
  have HzA := hid zsize
  clear b1 b2
  go_enter Tryz.func125, Tryz.ntmps125
  go_wp2_with fail
  refine wp_region_flow 9 [0, 1, 2, 3, 4, 5, 6, 7] [] [(.c 8, [], [])] (by kernel_rfl) (by kernel_rfl) ?_
  apply Exists.intro
  refine ⟨fun w0 hb0 hF0 => ?_, ?_⟩
  · skip
    have c0 := fun e : Ext w0 => refbase_ots la tr i e.at_ htr.1 htr.2
    have xs : ∀ w', (∃ x : Ext w0, w' = x.at_) → w'.rangeAt (w.heap.size) 0 (seed.map (Value.int .u8)) := fun w' ⟨x, hx⟩ => hx ▸ secL_seed ((Ks.out.below hb0).below x.same)
    have xp : ∀ w', (∃ x : Ext w0, w' = x.at_) → w'.rangeAt (w.heap.size) 64 (pub.map (Value.int .u8)) := fun w' ⟨x, hx⟩ => hx ▸ secL_pub hseed hprf ((Ks.out.below hb0).below x.same)
    simp only [pick, List.getElem?_toArray, List.getElem?_cons_succ, List.getElem?_cons_zero, Option.toList_some, List.cons_append, List.nil_append]
    repeat (first | (go_big_quiet_want; refine quiet_load_mid 25 _ rfl (w.heap.size) 0 rfl _ xs _ Tryz.underlying25 rfl (by rw [List.length_map, hseed.len]; exact size_digest) ?_; go_big_quiet_on; simp only [Act.put, List.setIfInBounds_toArray, List.set_cons_zero, List.set_cons_succ]) | (go_big_quiet_want; refine quiet_load_mid 25 _ rfl (w.heap.size) 64 rfl _ xp _ Tryz.underlying25 rfl (by rw [List.length_map, hpub.len]; exact size_digest) ?_; go_big_quiet_on; simp only [Act.put, List.setIfInBounds_toArray, List.set_cons_zero, List.set_cons_succ]) | go_big_quiet_step (first | (go_at_call 163; with_reducible exact Calls.ext (c0 _))))
    exact wpQuiet_nil rfl
  refine AlChk.nil ?_
  refine Walk.call rfl 162 #[(.agg (seed.map (Value.int .u8)).toArray), (.agg (pub.map (Value.int .u8)).toArray), (.agg ((otsZ la tr i).map (Value.int .u32)).toArray)] (RowV 67 (rowW (pubP seed pub (otsZ la tr i)))) (fun v w' w'' h k => h.below k) rfl (fun w1 hb1 hF1 => ⟨by go_simp, ?_⟩) ?_
  · skip
    exact refpublic_any seed pub (otsZ la tr i) w1 hseed hpub HO.out
  rintro v0 w1 hb1 hF1 ⟨pa, pc, rfl, _⟩
  apply Exists.intro
  refine ⟨fun w0 hb0 hF0 => ?_, ?_⟩
  · skip
    exact wpQuiet_nil rfl
  refine AlChk.nil ?_
  refine Walk.fin fun w1 hw1 hFw1 _ => ?_
  simp only [List.drop_succ_cons, List.drop_zero]
  have HFw1 := hid hFw1
  have HBw1 := hid (Below.on Hb.out hw1)
  have hsw1 := HBw1.out.size
  have Ksw1 := hid (Ks.out.below hw1)
  have Kr0w1 := hid (Kr0.out.below hw1)
  clear hw1 hFw1
  have Hp := hid ((show RowV 67 (rowW (pubP seed pub (otsZ la tr i))) (.slice pa 67 pc) w1 from HFw1.out.2).digs.2)
  clear HFw1
  go_wp2_with fail
  refine wp_region_flow 8 (List.range 8) [] [] (by kernel_rfl) (by kernel_rfl) ?_
  apply Exists.intro
  refine ⟨fun w0 hb0 hF0 => ?_, ?_⟩
  · skip
    have c0 := fun e : Ext w0 => refbase_ltr la tr i e.at_ htr.1 htr.2
    have c1 := fun e : Ext w0 => C2.out pa pc e.at_ ((Hp.out.below hb0).below e.same)
    have xp : ∀ w', (∃ x : Ext w0, w' = x.at_) → w'.rangeAt (w.heap.size) 64 (pub.map (Value.int .u8)) := fun w' ⟨x, hx⟩ => hx ▸ secL_pub hseed hprf ((Ksw1.out.below hb0).below x.same)
    simp only [pick, List.range, List.range.loop, List.getElem?_toArray, List.getElem?_cons_succ, List.getElem?_cons_zero, Option.toList_some, List.cons_append, List.nil_append]
    repeat (first | (go_big_quiet_want; refine quiet_load_mid 25 _ rfl (w.heap.size) 64 rfl _ xp _ Tryz.underlying25 rfl (by rw [List.length_map, hpub.len]; exact size_digest) ?_; go_big_quiet_on; simp only [Act.put, List.setIfInBounds_toArray, List.set_cons_zero, List.set_cons_succ]) | go_big_quiet_step (first | (go_at_call 163; with_reducible exact Calls.ext (c0 _)) | (go_at_call 164; with_reducible exact Calls.ext (c1 _))))
    exact wpQuiet_nil rfl
  refine AlChk.nil ?_
  refine Walk.fin fun w2 hw2 _ _ => ?_
  simp only [List.drop_succ_cons, List.drop_zero]
  have HBw2 := hid (Below.on HBw1.out hw2)
  have hsw2 := HBw2.out.size
  have Ksw2 := hid (Ksw1.out.below hw2)
  have Kr0w2 := hid (Kr0w1.out.below hw2)
  clear hw2
  go_wp2_with (
      refine wpList_store_blk rfl 25 _ _ rfl (w.heap.size + 1) (R.map (Value.int .u8)).toArray rfl rfl _ 25 Kr0w2.out 32 size_digest HzA.out HL.out.size (ints_one _ _) ?_
      intro w9 hb9 hk9
      have HB9 := hid (hb9.below HBw2.out HBw2.out.size (by omega))
      have HK9 := hid hk9
      clear hb9 hk9)
  exact bodyPost_ret (v := (.agg (R.map (Value.int .u8)).toArray)) (results_blk Tryz.results125 _ (w.heap.size + 1) rfl _ 25 HK9.out _ Tryz.underlying25 rfl 32 size_digest HL.out.size) rfl ⟨rfl, HB9.out⟩
end Go.Proofs.YtpinamdgbijjlaaGreatDoor
namespace Go.Proofs.YtpinamdgbijjlaaGreatDoor
set_option maxRecDepth 100000
open Go.ChangeShapes Go.WideShapes Go.ChangeAt Go.RowKit
structure Nod where
  d : List Int
  l : Nat
  q : Nat
def nodC (x : Nod) : List Value := x.d.map (Value.int .u8) ++ [.int .i64 x.l, .int .i64 x.q]
theorem nodC_length {x : Nod} (h : Dg x.d) : (nodC x).length = 34 := by simp [nodC, h.len]
theorem nodC_size {x : Nod} (h : Dg x.d) : (nodC x).toArray.size = 34 := by rw [List.size_toArray, nodC_length h]
theorem nodC_dig {x : Nod} {w : World} {b : Nat} {T : TypeId} (k : Blk w b (nodC x).toArray T) : w.rangeAt b 0 (x.d.map (Value.int .u8)) := fun j v hv => by
  have hj : j < x.d.length := by have := (List.getElem?_eq_some_iff.1 hv).1; simpa using this
  rw [Nat.zero_add, k.cell, List.getElem?_toArray, ← hv]
  unfold nodC
  rw [List.getElem?_append_left (by rw [List.length_map]; exact hj)]
theorem nodC_lev {x : Nod} (h : Dg x.d) {w : World} {b : Nat} {T : TypeId} (k : Blk w b (nodC x).toArray T) : w.cell? ⟨b, 32, none⟩ = some (.int .i64 x.l) := by
  rw [k.cell, List.getElem?_toArray]
  unfold nodC
  rw [List.getElem?_append_right (by rw [List.length_map, h.len]; omega), List.length_map, h.len]
  rfl
theorem nodC_num {x : Nod} (h : Dg x.d) {w : World} {b : Nat} {T : TypeId} (k : Blk w b (nodC x).toArray T) : w.cell? ⟨b, 33, none⟩ = some (.int .i64 x.q) := by
  rw [k.cell, List.getElem?_toArray]
  unfold nodC
  rw [List.getElem?_append_right (by rw [List.length_map, h.len]; omega), List.length_map, h.len]
  rfl
theorem nodC_one (x : Nod) : ∀ v ∈ nodC x, v.oneCell' = true := fun v hv => by
  unfold nodC at hv
  rcases List.mem_append.1 hv with hv | hv
  · obtain ⟨_, _, rfl⟩ := List.mem_map.1 hv
    rfl
  · simp only [List.mem_cons, List.not_mem_nil, or_false] at hv
    rcases hv with rfl | rfl <;> rfl
theorem nodC_ones (x : Nod) : (nodC x).toArray.all (·.oneCell') = true := all_oneCell_toArray (nodC_one x)
def nodZ : Array Value := (nodC ⟨zD, 0, 0⟩).toArray
theorem nodZ_size : nodZ.size = 34 := by decide
theorem info_nod : (Tryz.prog.info? 226).map (fun i => (i.zero, i.size, i.bytes)) = some (some (.agg nodZ), 34, 48) := by kernel_rfl
theorem size_nod : (Tryz.prog.info? 226).map (·.size) = some 34 := by kernel_rfl
def nodsC (l : List Nod) : List Value := (l.map nodC).flatten
theorem nodsC_append (a b : List Nod) : nodsC (a ++ b) = nodsC a ++ nodsC b := by simp [nodsC]
theorem nodsC_one (x : Nod) : nodsC [x] = nodC x := by simp [nodsC]
theorem nodsC_length : ∀ {l : List Nod}, (∀ x ∈ l, Dg x.d) → (nodsC l).length = l.length * 34
  | [], _ => rfl
  | x :: l, h => by
    have h1 := nodsC_length (l := l) (fun y hy => h y (by simp [hy]))
    have h2 := nodC_length (h x (by simp))
    unfold nodsC at h1 ⊢
    rw [List.map_cons, List.flatten_cons, List.length_append, h1, h2, List.length_cons]
    omega
theorem build_nod (d : List Int) (l q : Nat) (hd : Dg d) (w : World) : (Instr.build 226 #[(0, .agg (d.map (Value.int .u8)).toArray), (1, .int .i64 l), (2, .int .i64 q)]).run Tryz.prog w = .ok (.agg (nodC ⟨d, l, q⟩).toArray) w := by
  refine run_build w _ _ _ ?_
  obtain ⟨i0, hi, hz0, hz1, hz2⟩ := info_parts info_nod
  obtain ⟨fields, hu, hp⟩ : ∃ fields, Tryz.prog.underlying 226 = some (.struct fields) ∧ fields.toList.mapM (fun f => (Tryz.prog.info? f.type).map fun i => (f.offset, i.size)) = some [(0, 32), (32, 1), (33, 1)] := ⟨_, Tryz.underlying226, by kernel_rfl⟩
  unfold Program.built
  simp only [hi, hu, hz0, hp]
  have hc : (Value.agg (d.map (Value.int .u8)).toArray).cells = (d.map (Value.int .u8)).toArray := rfl
  have hs : (Value.agg (d.map (Value.int .u8)).toArray).cells.size = 32 := by rw [hc]; exact hd.size
  rw [fill_part _ _ 0 0 _ _ (by rw [hs]; rfl) (by rw [hs, show (Value.agg nodZ).cells = nodZ from rfl, nodZ_size]; omega), hc]
  have h1 : splice (Value.agg nodZ).cells.toList 0 (d.map (Value.int .u8)).toArray.toList = nodC ⟨d, 0, 0⟩ := by
    unfold splice
    rw [show (Value.agg nodZ).cells.toList = nodC ⟨zD, 0, 0⟩ from rfl]
    simp only [List.length_map, List.take_zero, List.nil_append, Nat.zero_add, hd.len]
    rfl
  rw [h1, fill_part _ _ 1 32 _ _ (by rfl) (by rw [nodC_size hd]; show 32 + 1 ≤ 34; omega)]
  have h2 : splice (nodC ⟨d, 0, 0⟩) 32 (Value.int IntKind.i64 (l : Int)).cells.toList = nodC ⟨d, l, 0⟩ := by
    show splice (nodC ⟨d, 0, 0⟩) 32 [Value.int IntKind.i64 (l : Int)] = _
    unfold splice nodC
    rw [List.take_append, List.drop_append, List.length_map, hd.len, List.take_of_length_le (by rw [List.length_map, hd.len]; omega), List.drop_eq_nil_of_le (by rw [List.length_map, hd.len]; simp)]
    simp
  have h3 : splice (nodC ⟨d, l, 0⟩) 33 (Value.int IntKind.i64 (q : Int)).cells.toList = nodC ⟨d, l, q⟩ := by
    show splice (nodC ⟨d, l, 0⟩) 33 [Value.int IntKind.i64 (q : Int)] = _
    unfold splice nodC
    rw [List.take_append, List.drop_append, List.length_map, hd.len, List.take_of_length_le (by rw [List.length_map, hd.len]; omega), List.drop_eq_nil_of_le (by rw [List.length_map, hd.len]; simp)]
    simp
  rw [List.toList_toArray, h2, fill_part _ _ 2 33 _ _ (by rfl) (by rw [nodC_size hd]; show 33 + 1 ≤ 34; omega), List.toList_toArray, h3, Instr.fill]
theorem But.of_two {b : Nat} {w w1 w2 w3 : World} (h1 : Below w.heap.size w w1) (h2 : But b w1 w2) (h3 : But w.heap.size w2 w3) : But b w w3 :=
  ⟨by rw [h3.os, h2.os, h1.os], by rw [h3.tape, h2.tape, h1.tape], by rw [h3.output, h2.output, h1.output], Nat.le_trans h1.size (Nat.le_trans h2.size h3.size), fun k hk hne => by
    have a1 := h1.size
    have a2 := h2.size
    rw [h3.block k (by omega) (by omega), h2.block k (by omega) hne, h1.block k hk]⟩
set_option maxHeartbeats 4000000 in
theorem pop_any (b base n : Nat) (cs : Array Value) (T : TypeId) (v : Value) (ys : List Value) (x : Nod) (w : World) (hk : Blk w b cs T) (hc : cs[0]? = some v) (hcs : 0 < cs.size) (hown : w.ownsRow base 226 34 v (n + 1) (ys ++ nodC x)) (hy : ys.length = n * 34) (hx : Dg x.d) (hne : ¬ v.ownBlock = some b) :
    Calls Tryz.prog 124 #[.pointer (some ⟨b, 0, none⟩)] w fun e w' => e = .returned (.agg (nodC x).toArray) ∧ ∃ v', But b w w' ∧ Blk w' b (cs.setIfInBounds 0 v') T ∧ w'.ownsRow base 226 34 v' n ys ∧ v'.ownBlock = v.ownBlock := by
  obtain ⟨g, cap, rfl, hg, hle, hmx, hgl, hr, hpop⟩ := own_pop hown rfl hy
  have hbg : g ≠ b := fun h => hne (by rw [h]; rfl)
  have hbl := hk.lt
  unfold maxLen at hmx
  have Hr := hid hr
  have Hpop := hid hpop
  have Hc := hid hc
  have Hk := hid hk
  clear hown hr hpop hne hc hk
  have bA := (Below.refl w.heap.size w).alloc (Nat.le_refl _) (.cells nodZ 226 (0, 0))
  have Kr0 := hid (Blk.new (w := w) (n := w.heap.size) rfl nodZ 226)
  have Hb := hid bA
  have hn1 : (n : Int) + 1 - 1 = n := by omega
  have hcut : ∀ W : World, (Instr.slice 218 (.slice (some ⟨g, 0, none⟩) (n + 1) cap) none (some (.int .i64 n)) none).run Tryz.prog W = .ok (.slice (some ⟨g, 0, none⟩) n cap) W := fun W => by
    have := run_cutr_h (P := Tryz.prog) Tryz.underlying218 (by kernel_rfl) (some ⟨g, 0, none⟩) (n + 1) cap (n : Int) W (by omega) (by omega)
    rw [Int.toNat_natCast] at this
    exact this
  clear bA
  go_enter Tryz.func124, Tryz.ntmps124
  go_wp2_with fail
  refine wp_region_flow 13 (List.range 12) [12] [(.b 12, [], [])] (by kernel_rfl) (by kernel_rfl) ?_
  apply Exists.intro
  refine ⟨fun w0 hb0 hF0 => ?_, ?_⟩
  · skip
    have y0 : ∀ w', (∃ x : Ext w0, w' = x.at_) → w'.cell? ⟨b, 0, none⟩ = some (.slice (some ⟨g, 0, none⟩) (n + 1) cap) := fun w' ⟨x, hx⟩ => by rw [hx, ((Hk.out.below (Below.on Hb.out hb0)).below x.same).cell]; exact Hc.out
    have x0 : ∀ w', (∃ x : Ext w0, w' = x.at_) → w'.rangeAt g (0 + n * 34) (nodC x) := fun w' ⟨z, hz⟩ => hz ▸ rangeAt_below (rangeAt_below Hr.out hgl (Below.on Hb.out hb0)) (Nat.lt_of_lt_of_le hgl (Below.on Hb.out hb0).size) z.same
    simp only [pick, List.range, List.range.loop, List.getElem?_toArray, List.getElem?_cons_succ, List.getElem?_cons_zero, Option.toList_some, List.cons_append, List.nil_append]
    repeat (first | (go_big_quiet_want; refine quiet_load_one 218 _ rfl ⟨b, 0, none⟩ rfl _ y0 _ Tryz.underlying218 rfl ?_; go_big_quiet_on; simp only [Act.put, List.setIfInBounds_toArray, List.set_cons_zero, List.set_cons_succ]) | (go_big_quiet_want; refine quiet_index_sz 218 _ _ rfl Tryz.underlying218 size_nod g 0 (n + 1) cap rfl _ _ rfl n (by omega) (by omega) ?_; go_big_quiet_on; simp only [Act.put, List.setIfInBounds_toArray, List.set_cons_zero, List.set_cons_succ]) | (go_big_quiet_want; refine quiet_load_mid 226 _ rfl g (0 + n * 34) rfl _ x0 _ Tryz.underlying226 rfl (by rw [nodC_length hx]; exact size_nod) ?_; go_big_quiet_on; simp only [Act.put, List.setIfInBounds_toArray, List.set_cons_zero, List.set_cons_succ]) | go_big_quiet_step (fail))
    exact wpQuiet_nil rfl
  refine AlChk.one rfl (fun b => .pointer (some ⟨b, 0, none⟩)) (.cells nodZ 226 (0, 0)) rfl (fun w3 hb3 hF3 => by go_simp; rfl) ?_
  refine AlChk.nil ?_
  refine Walk.blk rfl (fun b => .pointer (some ⟨b, 0, none⟩)) (.cells nodZ 226 (0, 0)) (by simp) ?_
  intro c wz hbz_ hFz hgec _
  apply Exists.intro
  refine ⟨fun w4 hb4 hF4 => wpQuiet_nil rfl, ?_⟩
  refine AlChk.nil ?_
  refine Walk.fin fun w5 h5 hF5 _ => ?_
  simp only [List.drop_succ_cons, List.drop_zero]
  have kc : Blk w5 c nodZ 226 := hF5.2
  have Kc := hid kc
  have HB5 := hid (Below.on Hb.out h5)
  have Kr5 := hid (Kr0.out.below h5)
  have hwc : w.heap.size < c := by
    have h1 : (w.alloc (.cells nodZ 226 (0, 0))).heap.size ≤ c := hgec
    rw [World.size_alloc] at h1
    omega
  clear h5 hF5 kc hbz_ hFz
  go_wp2_with (
    refine wpList_store_blk rfl 226 _ _ rfl c (nodC x).toArray rfl rfl _ 226 Kc.out 34 size_nod nodZ_size (nodC_size hx) (nodC_ones x) ?_
    intro w6 hb6 hk6
    have HB6 := hid (hb6.below HB5.out HB5.out.size (by omega))
    have Kc6 := hid hk6
    have Kr6 := hid (hb6.blk Kr5.out (by omega))
    clear hb6 hk6)
  simp only [Act.put, List.setIfInBounds_toArray, List.set_cons_zero, List.set_cons_succ]
  refine wp_region_flow 14 (List.range 14) [] [] (by kernel_rfl) (by kernel_rfl) ?_
  apply Exists.intro
  refine ⟨fun w0 hb0 hF0 => ?_, ?_⟩
  · skip
    have y0 : ∀ w', (∃ x : Ext w0, w' = x.at_) → w'.cell? ⟨b, 0, none⟩ = some (.slice (some ⟨g, 0, none⟩) (n + 1) cap) := fun w' ⟨x, hx⟩ => by rw [hx, ((Hk.out.below (Below.on HB6.out hb0)).below x.same).cell]; exact Hc.out
    simp only [pick, List.range, List.range.loop, List.getElem?_toArray, List.getElem?_cons_succ, List.getElem?_cons_zero, Option.toList_some, List.cons_append, List.nil_append]
    repeat (first | (go_big_quiet_want; refine quiet_load_one 218 _ rfl ⟨b, 0, none⟩ rfl _ y0 _ Tryz.underlying218 rfl ?_; go_big_quiet_on; simp only [Act.put, List.setIfInBounds_toArray, List.set_cons_zero, List.set_cons_succ]) | go_big_quiet_step (fail))
    exact wpQuiet_nil rfl
  refine AlChk.nil ?_
  refine Walk.fin fun w7 h7 _ _ => ?_
  simp only [List.drop_succ_cons, List.drop_zero]
  have HB7 := hid (Below.on HB6.out h7)
  have Kc7 := hid (Kc6.out.below h7)
  have Kr7 := hid (Kr6.out.below h7)
  clear h7
  have Kb7 := hid (Hk.out.below HB7.out)
  go_wp2_with (first
   | (
    refine wpList_store_cell rfl 218 _ _ rfl b 0 (.slice (some ⟨g, 0, none⟩) n cap) rfl rfl rfl rfl cs T Kb7.out hcs (by kernel_rfl) ?_
    intro w8 hb8 hk8
    have H8 := hid hb8
    have Kb8 := hid hk8
    have Kc8 := hid (hb8.blk Kc7.out (by omega))
    have Kr8 := hid (hb8.blk Kr7.out (by omega))
    clear hb8 hk8)
   | (refine wpList_load_blk rfl 226 _ rfl c rfl _ 226 Kc8.out _ Tryz.underlying226 rfl 34 size_nod (nodC_size hx) ?_)
   | (
    refine wpList_store_blk rfl 226 _ _ rfl (w.heap.size) (nodC x).toArray rfl rfl _ 226 Kr8.out 34 size_nod nodZ_size (nodC_size hx) (nodC_ones x) ?_
    intro w9 hb9 hk9
    have H9 := hid hb9
    have Kr9 := hid hk9
    have Kb9 := hid (hb9.blk Kb8.out (by omega))
    clear hb9 hk9))
  exact bodyPost_ret (v := .agg (nodC x).toArray) (results_blk Tryz.results124 _ (w.heap.size) rfl _ 226 Kr9.out _ Tryz.underlying226 rfl 34 size_nod (nodC_size hx)) rfl ⟨rfl, _, But.of_two HB7.out H8.out H9.out, Kb9.out, Hpop.out _ (by rw [H9.out.block g (by have := HB7.out.size; have := H8.out.size; omega) (by omega), H8.out.block g (by have := HB7.out.size; omega) hbg, HB7.out.block g hgl]), rfl⟩
end Go.Proofs.YtpinamdgbijjlaaGreatDoor
namespace Go.Proofs.YtpinamdgbijjlaaGreatDoor
set_option maxRecDepth 100000
open Go.ChangeShapes Go.WideShapes Go.ChangeAt Go.RowKit
theorem FlowB.ButIn.of_store {S : List Nat} {b : Nat} {w w1 w2 : World} (h1 : FlowB.ButIn S w w1) (h2 : But b w1 w2) : FlowB.ButIn (b :: S) w w2 :=
  ⟨by rw [h2.os, h1.os], by rw [h2.tape, h1.tape], by rw [h2.output, h1.output], Nat.le_trans h1.size h2.size, fun k hk hne => by
    have a1 := h1.size
    rw [h2.block k (by omega) (fun e => hne (by rw [e]; simp)), h1.block k hk (fun e => hne (by simp [e]))]⟩
theorem FlowB.ButIn.after {S : List Nat} {w w1 w2 : World} (h0 : Below w.heap.size w w1) (h1 : FlowB.ButIn S w1 w2) : FlowB.ButIn S w w2 :=
  ⟨by rw [h1.os, h0.os], by rw [h1.tape, h0.tape], by rw [h1.output, h0.output], Nat.le_trans h0.size h1.size, fun k hk hne => by
    have a1 := h0.size
    rw [h1.block k (by omega) hne, h0.block k hk]⟩
theorem own_cell {w : World} {base n sz : Nat} {e : TypeId} {v : Value} {xs : List Value} (h : w.ownsRow base e sz v n xs) : v.oneCell' = true := by
  obtain ⟨_, ⟨rfl, _⟩ | ⟨g, cap, cur, rfl, _⟩⟩ := h <;> rfl
theorem own_cells {w : World} {base n sz : Nat} {e : TypeId} {v : Value} {xs : List Value} (h : w.ownsRow base e sz v n xs) : v.cells = #[v] := by
  obtain ⟨_, ⟨rfl, _⟩ | ⟨g, cap, cur, rfl, _⟩⟩ := h <;> rfl
theorem own_but {w w' : World} {base n sz b : Nat} {e : TypeId} {v : Value} {xs : List Value} (h : w.ownsRow base e sz v n xs) (hb : But b w w') (hne : ¬ v.ownBlock = some b) : w'.ownsRow base e sz v n xs := by
  obtain ⟨h1, ⟨rfl, h2⟩ | ⟨g, cap, cur, rfl, hg, hh, h3⟩⟩ := h
  · exact ⟨h1, .inl ⟨rfl, h2⟩⟩
  · refine ⟨h1, .inr ⟨g, cap, cur, rfl, hg, ?_, h3⟩⟩
    rw [hb.block g (Array.getElem?_eq_some_iff.1 hh).1 (fun e => hne (by rw [e]; rfl))]
    exact hh
set_option maxHeartbeats 4000000 in
theorem push_any (b base n : Nat) (cs : Array Value) (T : TypeId) (v : Value) (xs : List Value) (x : Nod) (w : World) (hk : Blk w b cs T) (hc : cs[0]? = some v) (hcs : 0 < cs.size) (hown : w.ownsRow base 226 34 v n xs) (hx : Dg x.d) (hne : ¬ v.ownBlock = some b) (hbase : base ≤ w.heap.size) (hn : n ≤ 1000) :
    Calls Tryz.prog 157 #[.pointer (some ⟨b, 0, none⟩), .agg (nodC x).toArray] w fun e w' => e = .returned (.tuple #[]) ∧ ∃ v', FlowB.ButIn (b :: v.ownBlock.toList) w w' ∧ Blk w' b (cs.setIfInBounds 0 v') T ∧ w'.ownsRow base 226 34 v' (n + 1) (xs ++ nodC x) ∧ (v'.ownBlock = v.ownBlock ∨ ∃ g, v'.ownBlock = some g ∧ w.heap.size ≤ g) := by
  have hlo := hown.lt
  have hbl := hk.lt
  have HO0 := hid hown
  have Hc := hid hc
  have Hk := hid hk
  clear hown hc hk
  obtain ⟨i0, hi, hz0, hz1, hz2⟩ := info_parts info_nod
  have bA := (Below.refl w.heap.size w).alloc (Nat.le_refl _) (.cells (nodC x).toArray 226 (0, 0))
  have Kx := hid (Blk.new (w := w) (n := w.heap.size) rfl (nodC x).toArray 226)
  have Kb := hid (Hk.out.below bA)
  have HO := hid (owns_below HO0.out bA)
  have Hb := hid bA
  have hbS : b ∉ v.ownBlock.toList := fun hm => hne (by simpa using hm)
  have hxS : w.heap.size ∉ v.ownBlock.toList := fun hm => by have := hlo _ (by simpa using hm); omega
  have hS : ∀ g ∈ v.ownBlock.toList, g < (w.alloc (.cells (nodC x).toArray 226 (0, 0))).heap.size := fun g hm => by
    have := hlo _ (by simpa using hm)
    rw [World.size_alloc]
    omega
  clear bA
  go_enter Tryz.func157, Tryz.ntmps157
  go_wp2_with fail
  refine FlowB.wp_region_butIn (v.ownBlock.toList) (fun wz => wz.ownsRow base 226 34 v n xs) 10 [0, 1, 2, 3, 4, 5, 8, 9] [6] [(.b 6, [], []), (.c 7, [], [])] (by kernel_rfl) (by kernel_rfl) HO.out (fun _ _ h hb => owns_below h hb) ?_
  apply Exists.intro
  refine ⟨fun w0 hb0 hF0 => ?_, ?_⟩
  · skip
    have y0 : ∀ w', (∃ x : Ext w0, w' = x.at_) → w'.cell? ⟨b, 0, none⟩ = some v := fun w' ⟨z, hz⟩ => by rw [hz, ((hb0.blk Kb.out hbS).below z.same).cell]; exact Hc.out
    have x0 : ∀ w', (∃ x : Ext w0, w' = x.at_) → ∃ T, Blk w' (w.heap.size) (nodC x).toArray T := fun w' ⟨z, hz⟩ => ⟨_, hz ▸ (hb0.blk Kx.out hxS).below z.same⟩
    simp only [pick, List.getElem?_toArray, List.getElem?_cons_succ, List.getElem?_cons_zero, Option.toList_some, List.cons_append, List.nil_append]
    repeat (first | (go_big_quiet_want; refine quiet_load_one 218 _ rfl ⟨b, 0, none⟩ rfl _ y0 _ Tryz.underlying218 rfl ?_; go_big_quiet_on; simp only [Act.put, List.setIfInBounds_toArray, List.set_cons_zero, List.set_cons_succ]) | (go_big_quiet_want; refine quiet_load_blk 226 _ rfl (w.heap.size) rfl _ x0 _ Tryz.underlying226 rfl 34 size_nod (nodC_size hx) ?_; go_big_quiet_on; simp only [Act.put, List.setIfInBounds_toArray, List.set_cons_zero, List.set_cons_succ]) | go_big_quiet_step (fail))
    exact wpQuiet_nil rfl
  refine FlowB.AlChk.one rfl (fun b => .slice (some ⟨b, 0, none⟩) 1 1) (.cells (nodC x).toArray 226 (0, 0)) rfl (FlowB.st_butIn _ hS) (fun w2 hb2 hF2 => exec_build_rec (v := .agg (nodC x).toArray) rfl rfl Tryz.underlying218 hi hz0 hz1 (by omega) (by omega) (nodC_size hx)) ?_
  refine FlowB.AlChk.nil ?_
  refine FlowB.Walk.blk rfl (fun b => .slice (some ⟨b, 0, none⟩) 1 1) (.cells (nodC x).toArray 226 (0, 0)) (by simp) ?_
  intro b9 w2 hb2 hF2 hge9 _
  apply Exists.intro
  refine ⟨fun w2 hb2 hF2 => wpQuiet_nil rfl, ?_⟩
  refine FlowB.AlChk.nil ?_
  refine FlowB.Walk.does rfl (fun v' _ => v'.ownBlock = v.ownBlock ∨ ∃ g, v'.ownBlock = some g ∧ w.heap.size ≤ g) (fun v' w' => w'.ownsRow base 226 34 v' (n + 1) (xs ++ nodC x)) (fun v w' w'' _ h _ => h) (fun v w' w'' h k => owns_below h k) rfl (fun w2 hb2 hF2 hG2 => ?_) ?_
  · have k9 : Blk w2 b9 (nodC x).toArray 226 := hF2.2
    have hsz : w.heap.size ≤ w2.heap.size := Nat.le_trans Hb.out.size hb2.size
    obtain ⟨v', w', hr, q2, q3, q4, q5⟩ := run_append_own_at (P := Tryz.prog) (w := w2) base 218 _ 226 i0 _ 34 48 Tryz.underlying218 hi hz0 hz1 hz2 nodZ_size (by omega) v n xs hG2 ⟨b9, 0, none⟩ 1 1 (nodC x) (by rw [nodC_length hx]) (news_blk k9) (nodC_one x) (by unfold maxLen; omega) (by omega) (by omega)
    exact ⟨v', w', FlowB.exec_append rfl rfl rfl hr, FlowB.ButIn.of_grown q3, q5.imp id (fun h => ⟨_, h, hsz⟩), q2⟩
  rintro v3 w3 hb3 hF3 hv3
  apply Exists.intro
  refine ⟨fun w2 hb2 hF2 => wpQuiet_nil rfl, ?_⟩
  refine FlowB.AlChk.nil ?_
  refine FlowB.Walk.fin fun w4 h4 _ hG4 => ?_
  simp only [List.drop_succ_cons, List.drop_zero]
  have HG4 := hid hG4
  have Kb4 := hid (h4.blk Kb.out hbS)
  have H4 := hid (FlowB.ButIn.after Hb.out h4)
  have hne3 : ¬ v3.ownBlock = some b := fun h => by
    rcases hv3 with h1 | ⟨g, h1, h2⟩
    · exact hne (by rw [← h1]; exact h)
    · rw [h1] at h
      injection h with h
      omega
  clear h4 hG4
  have Hv3 := hid hv3
  have ho1 : v3.oneCell' = true := own_cell HG4.out
  have hc1 : v3.cells = #[v3] := own_cells HG4.out
  go_wp2_with (
    refine wpList_store_cell rfl 218 _ _ rfl b 0 v3 rfl rfl ho1 hc1 cs T Kb4.out hcs (by kernel_rfl) ?_
    intro w8 hb8 hk8
    have H8 := hid hb8
    have Kb8 := hid hk8
    clear hb8 hk8)
  go_end0
  exact ⟨rfl, FlowB.ButIn.of_store H4.out H8.out, v3, Kb8.out, own_but HG4.out H8.out hne3, Hv3.out⟩
end Go.Proofs.YtpinamdgbijjlaaGreatDoor
namespace Go.Proofs.YtpinamdgbijjlaaGreatDoor
set_option maxRecDepth 100000
open Go.ChangeShapes Go.WideShapes Go.ChangeAt Go.RowKit
set_option maxHeartbeats 4000000 in
theorem holds_none (b : Nat) (cs : Array Value) (T : TypeId) (a : Option Addr) (c : Nat) (lev : Int) (w : World) (hk : Blk w b cs T) (hc : cs[0]? = some (.slice a 0 c)) :
    Calls Tryz.prog 155 #[.pointer (some ⟨b, 0, none⟩), .int .i64 lev] w fun e w' => e = .returned (.bool false) ∧ Below w.heap.size w w' := by
  have Hc := hid hc
  have Hk := hid hk
  clear hc hk
  go_enter Tryz.func155, Tryz.ntmps155
  go_wp2_with fail
  refine wp_region_flow 23 (List.range 23) [] [] (by kernel_rfl) (by kernel_rfl) ?_
  apply Exists.intro
  refine ⟨fun w0 hb0 hF0 => ?_, ?_⟩
  · skip
    have y0 : ∀ w', (∃ x : Ext w0, w' = x.at_) → w'.cell? ⟨b, 0, none⟩ = some (.slice a 0 c) := fun w' ⟨z, hz⟩ => by rw [hz, ((Hk.out.below hb0).below z.same).cell]; exact Hc.out
    simp only [pick, List.range, List.range.loop, List.getElem?_toArray, List.getElem?_cons_succ, List.getElem?_cons_zero, Option.toList_some, List.cons_append, List.nil_append]
    repeat (first | (go_big_quiet_want; refine quiet_load_one 218 _ rfl ⟨b, 0, none⟩ rfl _ y0 _ Tryz.underlying218 rfl ?_; go_big_quiet_on; simp only [Act.put, List.setIfInBounds_toArray, List.set_cons_zero, List.set_cons_succ]) | go_big_quiet_step (fail))
    exact wpQuiet_nil rfl
  refine AlChk.nil ?_
  refine Walk.fin fun w1 h1 _ _ => ?_
  simp only [List.drop_succ_cons, List.drop_zero]
  have H1 := hid h1
  clear h1
  go_wp2_with fail
  go_returns
  exact ⟨rfl, H1.out⟩
set_option maxHeartbeats 4000000 in
theorem holds_top (b base n : Nat) (cs : Array Value) (T : TypeId) (v : Value) (ys : List Value) (x : Nod) (lev : Int) (r : Bool) (w : World) (hk : Blk w b cs T) (hc : cs[0]? = some v) (hown : w.ownsRow base 226 34 v (n + 1) (ys ++ nodC x)) (hy : ys.length = n * 34) (hx : Dg x.d) (hr : ((x.l : Int) == lev) = r) :
    Calls Tryz.prog 155 #[.pointer (some ⟨b, 0, none⟩), .int .i64 lev] w fun e w' => e = .returned (.bool r) ∧ Below w.heap.size w w' := by
  have hr2 : decide ((x.l : Int) = lev) = r := by rw [← hr]; rfl
  obtain ⟨g, cap, rfl, hg, hle, hmx, hgl, hrr, _⟩ := own_pop hown rfl hy
  unfold maxLen at hmx
  have Hr := hid hrr
  have Hc := hid hc
  have Hk := hid hk
  have hn1 : (0 : Int) < (n : Int) + 1 := by omega
  have hlv : w.cell? ⟨g, n * 34 + 32, none⟩ = some (.int .i64 x.l) := (congrArg (fun k => w.cell? ⟨g, k, none⟩) (show n * 34 + 32 = 0 + n * 34 + 32 by omega)).trans (hrr 32 _ <| by
    unfold nodC
    rw [List.getElem?_append_right (by rw [List.length_map, hx.len]; omega), List.length_map, hx.len]
    rfl)
  have Hlv := hid hlv
  clear hown hrr hc hk hlv
  go_enter Tryz.func155, Tryz.ntmps155
  go_wp2_with fail
  refine wp_region_flow 23 (List.range 23) [] [] (by kernel_rfl) (by kernel_rfl) ?_
  apply Exists.intro
  refine ⟨fun w0 hb0 hF0 => ?_, ?_⟩
  · skip
    have y0 : ∀ w', (∃ x : Ext w0, w' = x.at_) → w'.cell? ⟨b, 0, none⟩ = some (.slice (some ⟨g, 0, none⟩) (n + 1) cap) := fun w' ⟨z, hz⟩ => by rw [hz, ((Hk.out.below hb0).below z.same).cell]; exact Hc.out
    have y1 : ∀ w', (∃ x : Ext w0, w' = x.at_) → w'.cell? ⟨g, n * 34 + 32, none⟩ = some (.int .i64 x.l) := fun w' ⟨z, hz⟩ => by rw [hz]; exact (z.same.cell (Nat.lt_of_lt_of_le hgl hb0.size)).trans ((hb0.cell hgl).trans Hlv.out)
    simp only [pick, List.range, List.range.loop, List.getElem?_toArray, List.getElem?_cons_succ, List.getElem?_cons_zero, Option.toList_some, List.cons_append, List.nil_append]
    repeat (first | (go_big_quiet_want; refine quiet_load_one 218 _ rfl ⟨b, 0, none⟩ rfl _ y0 _ Tryz.underlying218 rfl ?_; go_big_quiet_on; simp only [Act.put, List.setIfInBounds_toArray, List.set_cons_zero, List.set_cons_succ]) | (go_big_quiet_want; refine quiet_index_sz 218 _ _ rfl Tryz.underlying218 size_nod g 0 (n + 1) cap rfl _ _ rfl n (by omega) (by omega) ?_; go_big_quiet_on; simp only [Act.put, List.setIfInBounds_toArray, List.set_cons_zero, List.set_cons_succ]) | (go_big_quiet_want; refine quiet_load_one 3 _ rfl ⟨g, n * 34 + 32, none⟩ rfl _ y1 _ Tryz.underlying3 rfl ?_; go_big_quiet_on; simp only [Act.put, List.setIfInBounds_toArray, List.set_cons_zero, List.set_cons_succ]) | go_big_quiet_step (fail))
    exact wpQuiet_nil rfl
  refine AlChk.nil ?_
  refine Walk.fin fun w1 h1 _ _ => ?_
  simp only [List.drop_succ_cons, List.drop_zero]
  have H1 := hid h1
  clear h1
  go_wp2_with fail
  go_returns
  exact ⟨rfl, H1.out⟩
theorem xor_one : ∀ n : Fin 16, bits .xor .i64 ((n.val : Nat) : Int) 1 = ((if n.val % 2 = 0 then n.val + 1 else n.val - 1 : Nat) : Int) := by decide +kernel
/-- The number of the node beside a leaf's way, at a level. -/
def sibN (leaf l : Nat) : Nat := if leaf / 2 ^ l % 2 = 0 then leaf / 2 ^ l + 1 else leaf / 2 ^ l - 1
theorem xor_sib (leaf l : Nat) (h : leaf < 16) : bits .xor .i64 ((leaf : Int) / 2 ^ l) 1 = (sibN leaf l : Int) := by
  have h1 : leaf / 2 ^ l < 16 := Nat.lt_of_le_of_lt (Nat.div_le_self _ _) h
  have h2 : ((leaf : Int) / 2 ^ l) = ((leaf / 2 ^ l : Nat) : Int) := by
    rw [Int.natCast_ediv, Int.natCast_pow]
    rfl
  rw [h2]
  exact xor_one ⟨leaf / 2 ^ l, h1⟩
def pickM (leaf : Nat) (path : List (List Int)) (x : Nod) : List (List Int) := if x.l < path.length ∧ x.q = sibN leaf x.l then path.set x.l x.d else path
theorem pickM_length (leaf : Nat) (path : List (List Int)) (x : Nod) : (pickM leaf path x).length = path.length := by
  unfold pickM
  split
  · rw [List.length_set]
  · rfl
theorem pickM_each {leaf : Nat} {path : List (List Int)} {x : Nod} (h : ∀ d ∈ path, Dg d) (hx : Dg x.d) : ∀ d ∈ pickM leaf path x, Dg d := fun d hd => by
  unfold pickM at hd
  split at hd
  · rcases List.mem_or_eq_of_mem_set hd with h1 | h1
    · exact h d h1
    · rw [h1]; exact hx
  · exact h d hd
/-- A builder's cells. -/
def bldC (v : Value) (pub ad : List Int) (leaf : Nat) (pv : Value) : Array Value := (v :: (pub.map (Value.int .u8) ++ (ad.map (Value.int .u32) ++ [.int .i64 (leaf : Int), pv]))).toArray
theorem bldC_size {v pv : Value} {pub ad : List Int} {leaf : Nat} (hp : Dg pub) (ha : Aw ad) : (bldC v pub ad leaf pv).size = 43 := by simp [bldC, hp.len, ha.len]
theorem bldC_set (v v' pv : Value) (pub ad : List Int) (leaf : Nat) : (bldC v pub ad leaf pv).setIfInBounds 0 v' = bldC v' pub ad leaf pv := by simp [bldC]
theorem bldC_top (v pv : Value) (pub ad : List Int) (leaf : Nat) : (bldC v pub ad leaf pv)[0]? = some v := by simp [bldC]
theorem bldC_leaf {v pv : Value} {pub ad : List Int} {leaf : Nat} (hp : Dg pub) (ha : Aw ad) : (bldC v pub ad leaf pv)[41]? = some (.int .i64 (leaf : Int)) := by
  unfold bldC
  rw [List.getElem?_toArray, List.getElem?_cons_succ, List.getElem?_append_right (by rw [List.length_map, hp.len]; omega), List.length_map, hp.len, List.getElem?_append_right (by rw [List.length_map, ha.len]; omega), List.length_map, ha.len]
  rfl
theorem bldC_path {v pv : Value} {pub ad : List Int} {leaf : Nat} (hp : Dg pub) (ha : Aw ad) : (bldC v pub ad leaf pv)[42]? = some pv := by
  unfold bldC
  rw [List.getElem?_toArray, List.getElem?_cons_succ, List.getElem?_append_right (by rw [List.length_map, hp.len]; omega), List.length_map, hp.len, List.getElem?_append_right (by rw [List.length_map, ha.len]; omega), List.length_map, ha.len]
  rfl
theorem bldC_pub {v pv : Value} {pub ad : List Int} {leaf : Nat} {w : World} {b : Nat} {T : TypeId} (k : Blk w b (bldC v pub ad leaf pv) T) : w.rangeAt b 1 (pub.map (Value.int .u8)) := fun j u hv => by
  have hj : j < pub.length := by have := (List.getElem?_eq_some_iff.1 hv).1; simpa using this
  rw [k.cell, ← hv]
  unfold bldC
  rw [List.getElem?_toArray, show 1 + j = j + 1 by omega, List.getElem?_cons_succ, List.getElem?_append_left (by rw [List.length_map]; exact hj)]
theorem bldC_ad {v pv : Value} {pub ad : List Int} {leaf : Nat} (hp : Dg pub) {w : World} {b : Nat} {T : TypeId} (k : Blk w b (bldC v pub ad leaf pv) T) : w.rangeAt b 33 (ad.map (Value.int .u32)) := fun j u hv => by
  have hj : j < ad.length := by have := (List.getElem?_eq_some_iff.1 hv).1; simpa using this
  rw [k.cell, ← hv]
  unfold bldC
  rw [List.getElem?_toArray, show 33 + j = (32 + j) + 1 by omega, List.getElem?_cons_succ, List.getElem?_append_right (by rw [List.length_map, hp.len]; omega), List.length_map, hp.len, show 32 + j - 32 = j by omega, List.getElem?_append_left (by rw [List.length_map]; exact hj)]
theorem FlowB.ButIn.of_below {S : List Nat} {w w' : World} (h : Below w.heap.size w w') : FlowB.ButIn S w w' := ⟨h.os, h.tape, h.output, h.size, fun k hk _ => h.block k hk⟩
set_option maxHeartbeats 4000000 in
theorem pick_far (b pg n leaf : Nat) (v : Value) (pub ad : List Int) (T : TypeId) (path : List (List Int)) (x : Nod) (w : World) (hk : Blk w b (bldC v pub ad leaf (.slice (some ⟨pg, 0, none⟩) n n)) T) (hpg : Blk w pg (dcs path) 25) (hpn : path.length = n) (hpub : Dg pub) (had : Aw ad) (hx : Dg x.d) (hl : x.l ≤ 64) (hcase : ¬ x.l < n) :
    Calls Tryz.prog 154 #[.pointer (some ⟨b, 0, none⟩), .agg (nodC x).toArray] w fun e w' => e = .returned (.tuple #[]) ∧ FlowB.ButIn [pg] w w' ∧ Blk w' pg (dcs (pickM leaf path x)) 25 := by
  have hbl := hk.lt
  have hpl := hpg.lt
  have Hk := hid hk
  have Hpg := hid hpg
  clear hk hpg
  have bA := (Below.refl w.heap.size w).alloc (Nat.le_refl _) (.cells (nodC x).toArray 226 (0, 0))
  have Kx := hid (Blk.new (w := w) (n := w.heap.size) rfl (nodC x).toArray 226)
  have Hb := hid bA
  have hl64 : (x.l : Int) ≤ 64 := by omega
  clear bA
  have hc1 : ¬ ((x.l : Int) < n) := by omega
  go_enter Tryz.func154, Tryz.ntmps154
  go_wp2_with fail
  refine wp_region_flow 21 (List.range 21) [] [] (by kernel_rfl) (by kernel_rfl) ?_
  apply Exists.intro
  refine ⟨fun w0 hb0 hF0 => ?_, ?_⟩
  · skip
    have y0 : ∀ w', (∃ x : Ext w0, w' = x.at_) → w'.cell? ⟨w.heap.size, 32, none⟩ = some (.int .i64 x.l) := fun w' ⟨z, hz⟩ => by rw [hz]; exact nodC_lev hx ((Kx.out.below hb0).below z.same)
    have y1 : ∀ w', (∃ x : Ext w0, w' = x.at_) → w'.cell? ⟨w.heap.size, 33, none⟩ = some (.int .i64 x.q) := fun w' ⟨z, hz⟩ => by rw [hz]; exact nodC_num hx ((Kx.out.below hb0).below z.same)
    have y2 : ∀ w', (∃ x : Ext w0, w' = x.at_) → w'.cell? ⟨b, 42, none⟩ = some (.slice (some ⟨pg, 0, none⟩) n n) := fun w' ⟨z, hz⟩ => by rw [hz, ((Hk.out.below (Below.on Hb.out hb0)).below z.same).cell]; exact (bldC_path hpub had)
    have y3 : ∀ w', (∃ x : Ext w0, w' = x.at_) → w'.cell? ⟨b, 41, none⟩ = some (.int .i64 (leaf : Int)) := fun w' ⟨z, hz⟩ => by rw [hz, ((Hk.out.below (Below.on Hb.out hb0)).below z.same).cell]; exact (bldC_leaf hpub had)
    simp only [pick, List.range, List.range.loop, List.getElem?_toArray, List.getElem?_cons_succ, List.getElem?_cons_zero, Option.toList_some, List.cons_append, List.nil_append]
    repeat (first | (go_big_quiet_want; refine quiet_load_one 3 _ rfl ⟨w.heap.size, 32, none⟩ rfl _ y0 _ Tryz.underlying3 rfl ?_; go_big_quiet_on; simp only [Act.put, List.setIfInBounds_toArray, List.set_cons_zero, List.set_cons_succ]) | (go_big_quiet_want; refine quiet_load_one 3 _ rfl ⟨w.heap.size, 33, none⟩ rfl _ y1 _ Tryz.underlying3 rfl ?_; go_big_quiet_on; simp only [Act.put, List.setIfInBounds_toArray, List.set_cons_zero, List.set_cons_succ]) | (go_big_quiet_want; refine quiet_load_one 49 _ rfl ⟨b, 42, none⟩ rfl _ y2 _ Tryz.underlying49 rfl ?_; go_big_quiet_on; simp only [Act.put, List.setIfInBounds_toArray, List.set_cons_zero, List.set_cons_succ]) | (go_big_quiet_want; refine quiet_load_one 3 _ rfl ⟨b, 41, none⟩ rfl _ y3 _ Tryz.underlying3 rfl ?_; go_big_quiet_on; simp only [Act.put, List.setIfInBounds_toArray, List.set_cons_zero, List.set_cons_succ]) | go_big_quiet_step (fail))
    exact wpQuiet_nil rfl
  refine AlChk.nil ?_
  refine Walk.fin fun w1 h1 _ _ => ?_
  simp only [List.drop_succ_cons, List.drop_zero]
  have H1 := hid (Below.on Hb.out h1)
  have Kx1 := hid (Kx.out.below h1)
  clear h1
  go_wp2_with fail
  go_end0
  exact ⟨rfl, FlowB.ButIn.of_below H1.out, by rw [pickM, if_neg (by omega)]; exact Hpg.out.below H1.out⟩
set_option maxHeartbeats 4000000 in
theorem pick_miss (b pg n leaf : Nat) (v : Value) (pub ad : List Int) (T : TypeId) (path : List (List Int)) (x : Nod) (w : World) (hk : Blk w b (bldC v pub ad leaf (.slice (some ⟨pg, 0, none⟩) n n)) T) (hpg : Blk w pg (dcs path) 25) (hpub : Dg pub) (had : Aw ad) (hx : Dg x.d) (hl : x.l ≤ 64) (hlf : leaf < 16) (hcase : x.l < n) (hq : ¬ x.q = sibN leaf x.l) :
    Calls Tryz.prog 154 #[.pointer (some ⟨b, 0, none⟩), .agg (nodC x).toArray] w fun e w' => e = .returned (.tuple #[]) ∧ FlowB.ButIn [pg] w w' ∧ Blk w' pg (dcs (pickM leaf path x)) 25 := by
  have hbl := hk.lt
  have hpl := hpg.lt
  have Hk := hid hk
  have Hpg := hid hpg
  clear hk hpg
  have bA := (Below.refl w.heap.size w).alloc (Nat.le_refl _) (.cells (nodC x).toArray 226 (0, 0))
  have Kx := hid (Blk.new (w := w) (n := w.heap.size) rfl (nodC x).toArray 226)
  have Hb := hid bA
  have hl64 : (x.l : Int) ≤ 64 := by omega
  clear bA
  have hc1 : (x.l : Int) < n := by omega
  have hc2 := xor_sib leaf x.l hlf
  have hc3 : ((x.q : Int) == (sibN leaf x.l : Int)) = false := by simp; omega
  have hc4 : decide ((x.q : Int) = (sibN leaf x.l : Int)) = false := by simp; omega
  go_enter Tryz.func154, Tryz.ntmps154
  go_wp2_with fail
  refine wp_region_flow 21 (List.range 21) [] [] (by kernel_rfl) (by kernel_rfl) ?_
  apply Exists.intro
  refine ⟨fun w0 hb0 hF0 => ?_, ?_⟩
  · skip
    have y0 : ∀ w', (∃ x : Ext w0, w' = x.at_) → w'.cell? ⟨w.heap.size, 32, none⟩ = some (.int .i64 x.l) := fun w' ⟨z, hz⟩ => by rw [hz]; exact nodC_lev hx ((Kx.out.below hb0).below z.same)
    have y1 : ∀ w', (∃ x : Ext w0, w' = x.at_) → w'.cell? ⟨w.heap.size, 33, none⟩ = some (.int .i64 x.q) := fun w' ⟨z, hz⟩ => by rw [hz]; exact nodC_num hx ((Kx.out.below hb0).below z.same)
    have y2 : ∀ w', (∃ x : Ext w0, w' = x.at_) → w'.cell? ⟨b, 42, none⟩ = some (.slice (some ⟨pg, 0, none⟩) n n) := fun w' ⟨z, hz⟩ => by rw [hz, ((Hk.out.below (Below.on Hb.out hb0)).below z.same).cell]; exact (bldC_path hpub had)
    have y3 : ∀ w', (∃ x : Ext w0, w' = x.at_) → w'.cell? ⟨b, 41, none⟩ = some (.int .i64 (leaf : Int)) := fun w' ⟨z, hz⟩ => by rw [hz, ((Hk.out.below (Below.on Hb.out hb0)).below z.same).cell]; exact (bldC_leaf hpub had)
    simp only [pick, List.range, List.range.loop, List.getElem?_toArray, List.getElem?_cons_succ, List.getElem?_cons_zero, Option.toList_some, List.cons_append, List.nil_append]
    repeat (first | (go_big_quiet_want; refine quiet_load_one 3 _ rfl ⟨w.heap.size, 32, none⟩ rfl _ y0 _ Tryz.underlying3 rfl ?_; go_big_quiet_on; simp only [Act.put, List.setIfInBounds_toArray, List.set_cons_zero, List.set_cons_succ]) | (go_big_quiet_want; refine quiet_load_one 3 _ rfl ⟨w.heap.size, 33, none⟩ rfl _ y1 _ Tryz.underlying3 rfl ?_; go_big_quiet_on; simp only [Act.put, List.setIfInBounds_toArray, List.set_cons_zero, List.set_cons_succ]) | (go_big_quiet_want; refine quiet_load_one 49 _ rfl ⟨b, 42, none⟩ rfl _ y2 _ Tryz.underlying49 rfl ?_; go_big_quiet_on; simp only [Act.put, List.setIfInBounds_toArray, List.set_cons_zero, List.set_cons_succ]) | (go_big_quiet_want; refine quiet_load_one 3 _ rfl ⟨b, 41, none⟩ rfl _ y3 _ Tryz.underlying3 rfl ?_; go_big_quiet_on; simp only [Act.put, List.setIfInBounds_toArray, List.set_cons_zero, List.set_cons_succ]) | go_big_quiet_step (fail))
    exact wpQuiet_nil rfl
  refine AlChk.nil ?_
  refine Walk.fin fun w1 h1 _ _ => ?_
  simp only [List.drop_succ_cons, List.drop_zero]
  have H1 := hid (Below.on Hb.out h1)
  have Kx1 := hid (Kx.out.below h1)
  clear h1
  go_wp2_with fail
  go_end0
  exact ⟨rfl, FlowB.ButIn.of_below H1.out, by rw [pickM, if_neg (by omega)]; exact Hpg.out.below H1.out⟩
set_option maxHeartbeats 4000000 in
theorem pick_hit (b pg n leaf : Nat) (v : Value) (pub ad : List Int) (T : TypeId) (path : List (List Int)) (x : Nod) (w : World) (hk : Blk w b (bldC v pub ad leaf (.slice (some ⟨pg, 0, none⟩) n n)) T) (hpg : Blk w pg (dcs path) 25) (hpe : ∀ d ∈ path, Dg d) (hpn : path.length = n) (hpub : Dg pub) (had : Aw ad) (hx : Dg x.d) (hl : x.l ≤ 64) (hlf : leaf < 16) (hcase : x.l < n) (hq : x.q = sibN leaf x.l) :
    Calls Tryz.prog 154 #[.pointer (some ⟨b, 0, none⟩), .agg (nodC x).toArray] w fun e w' => e = .returned (.tuple #[]) ∧ FlowB.ButIn [pg] w w' ∧ Blk w' pg (dcs (pickM leaf path x)) 25 := by
  have hbl := hk.lt
  have hpl := hpg.lt
  have Hk := hid hk
  have Hpg := hid hpg
  clear hk hpg
  have bA := (Below.refl w.heap.size w).alloc (Nat.le_refl _) (.cells (nodC x).toArray 226 (0, 0))
  have Kx := hid (Blk.new (w := w) (n := w.heap.size) rfl (nodC x).toArray 226)
  have Hb := hid bA
  have hl64 : (x.l : Int) ≤ 64 := by omega
  clear bA
  have hc1 : (x.l : Int) < n := by omega
  have hc2 := xor_sib leaf x.l hlf
  have hc3 : ((x.q : Int) == (sibN leaf x.l : Int)) = true := by simp; omega
  have hc4 : decide ((x.q : Int) = (sibN leaf x.l : Int)) = true := by simp; omega
  go_enter Tryz.func154, Tryz.ntmps154
  go_wp2_with fail
  refine wp_region_flow 21 (List.range 21) [] [] (by kernel_rfl) (by kernel_rfl) ?_
  apply Exists.intro
  refine ⟨fun w0 hb0 hF0 => ?_, ?_⟩
  · skip
    have y0 : ∀ w', (∃ x : Ext w0, w' = x.at_) → w'.cell? ⟨w.heap.size, 32, none⟩ = some (.int .i64 x.l) := fun w' ⟨z, hz⟩ => by rw [hz]; exact nodC_lev hx ((Kx.out.below hb0).below z.same)
    have y1 : ∀ w', (∃ x : Ext w0, w' = x.at_) → w'.cell? ⟨w.heap.size, 33, none⟩ = some (.int .i64 x.q) := fun w' ⟨z, hz⟩ => by rw [hz]; exact nodC_num hx ((Kx.out.below hb0).below z.same)
    have y2 : ∀ w', (∃ x : Ext w0, w' = x.at_) → w'.cell? ⟨b, 42, none⟩ = some (.slice (some ⟨pg, 0, none⟩) n n) := fun w' ⟨z, hz⟩ => by rw [hz, ((Hk.out.below (Below.on Hb.out hb0)).below z.same).cell]; exact (bldC_path hpub had)
    have y3 : ∀ w', (∃ x : Ext w0, w' = x.at_) → w'.cell? ⟨b, 41, none⟩ = some (.int .i64 (leaf : Int)) := fun w' ⟨z, hz⟩ => by rw [hz, ((Hk.out.below (Below.on Hb.out hb0)).below z.same).cell]; exact (bldC_leaf hpub had)
    simp only [pick, List.range, List.range.loop, List.getElem?_toArray, List.getElem?_cons_succ, List.getElem?_cons_zero, Option.toList_some, List.cons_append, List.nil_append]
    repeat (first | (go_big_quiet_want; refine quiet_load_one 3 _ rfl ⟨w.heap.size, 32, none⟩ rfl _ y0 _ Tryz.underlying3 rfl ?_; go_big_quiet_on; simp only [Act.put, List.setIfInBounds_toArray, List.set_cons_zero, List.set_cons_succ]) | (go_big_quiet_want; refine quiet_load_one 3 _ rfl ⟨w.heap.size, 33, none⟩ rfl _ y1 _ Tryz.underlying3 rfl ?_; go_big_quiet_on; simp only [Act.put, List.setIfInBounds_toArray, List.set_cons_zero, List.set_cons_succ]) | (go_big_quiet_want; refine quiet_load_one 49 _ rfl ⟨b, 42, none⟩ rfl _ y2 _ Tryz.underlying49 rfl ?_; go_big_quiet_on; simp only [Act.put, List.setIfInBounds_toArray, List.set_cons_zero, List.set_cons_succ]) | (go_big_quiet_want; refine quiet_load_one 3 _ rfl ⟨b, 41, none⟩ rfl _ y3 _ Tryz.underlying3 rfl ?_; go_big_quiet_on; simp only [Act.put, List.setIfInBounds_toArray, List.set_cons_zero, List.set_cons_succ]) | go_big_quiet_step (fail))
    exact wpQuiet_nil rfl
  refine AlChk.nil ?_
  refine Walk.fin fun w1 h1 _ _ => ?_
  simp only [List.drop_succ_cons, List.drop_zero]
  have H1 := hid (Below.on Hb.out h1)
  have Kx1 := hid (Kx.out.below h1)
  clear h1
  go_wp2_with fail
  refine wp_region_flow 9 (List.range 9) [] [] (by kernel_rfl) (by kernel_rfl) ?_
  apply Exists.intro
  refine ⟨fun w0 hb0 hF0 => ?_, ?_⟩
  · skip
    have y0 : ∀ w', (∃ x : Ext w0, w' = x.at_) → w'.cell? ⟨w.heap.size, 32, none⟩ = some (.int .i64 x.l) := fun w' ⟨z, hz⟩ => by rw [hz]; exact nodC_lev hx ((Kx1.out.below hb0).below z.same)
    have y2 : ∀ w', (∃ x : Ext w0, w' = x.at_) → w'.cell? ⟨b, 42, none⟩ = some (.slice (some ⟨pg, 0, none⟩) n n) := fun w' ⟨z, hz⟩ => by rw [hz, ((Hk.out.below (Below.on H1.out hb0)).below z.same).cell]; exact (bldC_path hpub had)
    have x0 : ∀ w', (∃ x : Ext w0, w' = x.at_) → w'.rangeAt (w.heap.size) 0 (x.d.map (Value.int .u8)) := fun w' ⟨z, hz⟩ => hz ▸ nodC_dig ((Kx1.out.below hb0).below z.same)
    simp only [pick, List.range, List.range.loop, List.getElem?_toArray, List.getElem?_cons_succ, List.getElem?_cons_zero, Option.toList_some, List.cons_append, List.nil_append]
    repeat (first | (go_big_quiet_want; refine quiet_load_one 3 _ rfl ⟨w.heap.size, 32, none⟩ rfl _ y0 _ Tryz.underlying3 rfl ?_; go_big_quiet_on; simp only [Act.put, List.setIfInBounds_toArray, List.set_cons_zero, List.set_cons_succ]) | (go_big_quiet_want; refine quiet_load_one 49 _ rfl ⟨b, 42, none⟩ rfl _ y2 _ Tryz.underlying49 rfl ?_; go_big_quiet_on; simp only [Act.put, List.setIfInBounds_toArray, List.set_cons_zero, List.set_cons_succ]) | (go_big_quiet_want; refine quiet_index_digs 49 _ _ rfl Tryz.underlying49 size_digest pg 0 n n rfl _ _ rfl x.l rfl (by omega) ?_; go_big_quiet_on; simp only [Act.put, List.setIfInBounds_toArray, List.set_cons_zero, List.set_cons_succ]) | (go_big_quiet_want; refine quiet_load_mid 25 _ rfl (w.heap.size) 0 rfl _ x0 _ Tryz.underlying25 rfl (by rw [List.length_map, hx.len]; exact size_digest) ?_; go_big_quiet_on; simp only [Act.put, List.setIfInBounds_toArray, List.set_cons_zero, List.set_cons_succ]) | go_big_quiet_step (fail))
    exact wpQuiet_nil rfl
  refine AlChk.nil ?_
  refine Walk.fin fun w2 h2 _ _ => ?_
  simp only [List.drop_succ_cons, List.drop_zero]
  have H2 := hid (Below.on H1.out h2)
  clear h2
  have Kp2 := hid (Hpg.out.below H2.out)
  go_wp2_with (
    refine wpList_store_dig rfl _ _ _ rfl pg x.l x.d rfl rfl path 25 Kp2.out hpe hx (by omega) size_digest ?_
    intro w6 hb6 hk6
    have H6 := hid hb6
    have K6 := hid hk6
    clear hb6 hk6)
  go_end0
  exact ⟨rfl, FlowB.ButIn.after H2.out (FlowB.ButIn.of_but H6.out (by simp)), by rw [pickM, if_pos (by omega)]; exact K6.out⟩
theorem pick_any (b pg n leaf : Nat) (v : Value) (pub ad : List Int) (T : TypeId) (path : List (List Int)) (x : Nod) (w : World) (hk : Blk w b (bldC v pub ad leaf (.slice (some ⟨pg, 0, none⟩) n n)) T) (hpg : Blk w pg (dcs path) 25) (hpe : ∀ d ∈ path, Dg d) (hpn : path.length = n) (hpub : Dg pub) (had : Aw ad) (hx : Dg x.d) (hl : x.l ≤ 64) (hlf : leaf < 16) :
    Calls Tryz.prog 154 #[.pointer (some ⟨b, 0, none⟩), .agg (nodC x).toArray] w fun e w' => e = .returned (.tuple #[]) ∧ FlowB.ButIn [pg] w w' ∧ Blk w' pg (dcs (pickM leaf path x)) 25 := by
  by_cases h1 : x.l < n
  · by_cases h2 : x.q = sibN leaf x.l
    · exact pick_hit b pg n leaf v pub ad T path x w hk hpg hpe hpn hpub had hx hl hlf h1 h2
    · exact pick_miss b pg n leaf v pub ad T path x w hk hpg hpub had hx hl hlf h1 h2
  · exact pick_far b pg n leaf v pub ad T path x w hk hpg hpn hpub had hx hl h1
end Go.Proofs.YtpinamdgbijjlaaGreatDoor
namespace Go.Proofs.YtpinamdgbijjlaaGreatDoor
set_option maxRecDepth 100000
open Go.ChangeShapes Go.WideShapes Go.ChangeAt Go.RowKit
def upN (pub ad : List Int) (t x : Nod) : Nod := ⟨joinZ t.d x.d pub (setAd ad x.l (t.q / 2 : Nat) 0), x.l + 1, t.q / 2⟩
/-- What adding a node that was looked at comes to: the stack, its last node first; the path. -/
def addR (pub ad : List Int) (leaf : Nat) : List Nod → List (List Int) → Nod → List Nod × List (List Int)
  | [], path, x => ([x], path)
  | t :: s, path, x => if t.l = x.l then addR pub ad leaf s (pickM leaf path (upN pub ad t x)) (upN pub ad t x) else (x :: t :: s, path)
theorem addR_up {pub ad : List Int} {leaf : Nat} {t : Nod} {s : List Nod} {path : List (List Int)} {x : Nod} (h : t.l = x.l) : addR pub ad leaf (t :: s) path x = addR pub ad leaf s (pickM leaf path (upN pub ad t x)) (upN pub ad t x) := by
  rw [addR, if_pos h]
theorem addR_on {pub ad : List Int} {leaf : Nat} {t : Nod} {s : List Nod} {path : List (List Int)} {x : Nod} (h : ¬ t.l = x.l) : addR pub ad leaf (t :: s) path x = (x :: t :: s, path) := by
  rw [addR, if_neg h]
structure BldAt (w : World) (base b pg n leaf : Nat) (pub ad : List Int) (v : Value) (stk : List Nod) (path : List (List Int)) : Prop where
  blk : Blk w b (bldC v pub ad leaf (.slice (some ⟨pg, 0, none⟩) n n)) 222
  row : w.ownsRow base 226 34 v stk.length (nodsC stk.reverse)
  pth : Blk w pg (dcs path) 25
  len : path.length = n
  each : ∀ d ∈ path, Dg d
  nods : ∀ y ∈ stk, Dg y.d ∧ y.q < 100000
  ne : b ≠ pg
  nb : ¬ v.ownBlock = some b
  np : ¬ v.ownBlock = some pg
theorem BldAt.below {w w' : World} {base b pg n leaf : Nat} {pub ad : List Int} {v : Value} {stk : List Nod} {path : List (List Int)} (h : BldAt w base b pg n leaf pub ad v stk path) (hb : Below w.heap.size w w') : BldAt w' base b pg n leaf pub ad v stk path :=
  ⟨h.blk.below hb, owns_below h.row hb, h.pth.below hb, h.len, h.each, h.nods, h.ne, h.nb, h.np⟩
theorem FlowB.ButIn.trans {S : List Nat} {w w1 w2 : World} (h0 : FlowB.ButIn S w w1) (h1 : FlowB.ButIn S w1 w2) : FlowB.ButIn S w w2 :=
  ⟨by rw [h1.os, h0.os], by rw [h1.tape, h0.tape], by rw [h1.output, h0.output], Nat.le_trans h0.size h1.size, fun k hk hne => by
    have a1 := h0.size
    rw [h1.block k (by omega) hne, h0.block k hk hne]⟩
/-- Behind a step that may also write to a block that is new. -/
theorem FlowB.ButIn.step {S S' : List Nat} {w w1 w2 : World} (h0 : FlowB.ButIn S w w1) (h1 : FlowB.ButIn S' w1 w2) (hs : ∀ k, k < w.heap.size → k ∈ S' → k ∈ S) : FlowB.ButIn S w w2 :=
  ⟨by rw [h1.os, h0.os], by rw [h1.tape, h0.tape], by rw [h1.output, h0.output], Nat.le_trans h0.size h1.size, fun k hk hne => by
    have a1 := h0.size
    rw [h1.block k (by omega) (fun hm => hne (hs k hk hm)), h0.block k hk hne]⟩
theorem own_in {S : List Nat} {w w' : World} {base n sz : Nat} {e : TypeId} {v : Value} {xs : List Value} (h : w.ownsRow base e sz v n xs) (hb : FlowB.ButIn S w w') (hne : ∀ g, v.ownBlock = some g → g ∉ S) : w'.ownsRow base e sz v n xs := by
  obtain ⟨h1, ⟨rfl, h2⟩ | ⟨g, cap, cur, rfl, hg, hh, h3⟩⟩ := h
  · exact ⟨h1, .inl ⟨rfl, h2⟩⟩
  · refine ⟨h1, .inr ⟨g, cap, cur, rfl, hg, ?_, h3⟩⟩
    rw [hb.block g (Array.getElem?_eq_some_iff.1 hh).1 (hne g rfl)]
    exact hh
theorem But.in_ {b : Nat} {w w' : World} (h : But b w w') : FlowB.ButIn [b] w w' := FlowB.ButIn.of_but h (by simp)
theorem ShaTab.in_ {S : List Nat} {w w' : World} (h : ShaTab w) (hb : FlowB.ButIn S w w') (h1 : 1 ∉ S) (h0 : 0 ∉ S) : ShaTab w' := h.same hb.size (fun j => by unfold World.cell?; rw [hb.block _ h.lt h1]) (fun j => by unfold World.cell?; rw [hb.block _ h.lt0 h0])
theorem quiet_build {P : Program} {op : Oper} {a : Act} {C : World → Prop} {K : Act → Prop} (t : TypeId) (parts : List (Nat × Operand)) (ho : op.op = .build t parts.toArray) (vs : List (Nat × Value)) (hv : (parts.map fun x => (x.1, a.eval x.2)) = vs) (v : Value) (h : ∀ w', (Instr.build t vs.toArray).run P w' = .ok v w') (hk : K (a.put op.dst v)) : op.quiet P a C K :=
  quiet_of v (fun w' _ => by
    unfold execOp
    have hm : (parts.map fun (x : Nat × Operand) => match x with | (i, x) => (i, a.eval x)) = vs := hv
    simp only [ho, List.map_toArray, hm, Sem.run_bind, h, Result.andThen_ok, Sem.run_pure]) hk
theorem own_len {w : World} {base n sz : Nat} {e : TypeId} {v : Value} {xs : List Value} (h : w.ownsRow base e sz v n xs) : ∃ a c, v = .slice a n c := by
  obtain ⟨_, ⟨rfl, rfl⟩ | ⟨g, cap, cur, rfl, _⟩⟩ := h
  · exact ⟨_, _, rfl⟩
  · exact ⟨_, _, rfl⟩
theorem nods_rev (t : Nod) (s : List Nod) : nodsC (t :: s).reverse = nodsC s.reverse ++ nodC t := by rw [List.reverse_cons, nodsC_append, nodsC_one]
theorem nods_len {s : List Nod} (h : ∀ y ∈ s, Dg y.d) : (nodsC s.reverse).length = s.length * 34 := by rw [nodsC_length (fun x hx => h x (by simpa using hx)), List.length_reverse]
section
variable {w w' : World} {base b pg n leaf : Nat} {pub ad : List Int} {v v' : Value} {stk s : List Nod} {path : List (List Int)} {x t : Nod}
theorem BldAt.pushed (h : BldAt w base b pg n leaf pub ad v stk path) (hI : FlowB.ButIn (b :: v.ownBlock.toList) w w') (hk : Blk w' b (bldC v' pub ad leaf (.slice (some ⟨pg, 0, none⟩) n n)) 222) (ho : w'.ownsRow base 226 34 v' (stk.length + 1) (nodsC stk.reverse ++ nodC x)) (hv : v'.ownBlock = v.ownBlock ∨ ∃ g, v'.ownBlock = some g ∧ w.heap.size ≤ g) (hx : Dg x.d) (hq : x.q < 100000) :
    BldAt w' base b pg n leaf pub ad v' (x :: stk) path := by
  have h1 := h.blk.lt
  have h2 := h.pth.lt
  refine ⟨hk, by rw [nods_rev]; exact ho, hI.blk h.pth (fun hm => ?_), h.len, h.each, fun y hy => ?_, h.ne, fun e => ?_, fun e => ?_⟩
  · rcases List.mem_cons.1 hm with e | e
    · exact h.ne e.symm
    · exact h.np (by simpa using e)
  · rcases List.mem_cons.1 hy with e | e
    · rw [e]; exact ⟨hx, hq⟩
    · exact h.nods y e
  · rcases hv with hv | ⟨g, hv, hg⟩
    · exact h.nb (by rw [← hv]; exact e)
    · rw [hv] at e
      injection e with e
      omega
  · rcases hv with hv | ⟨g, hv, hg⟩
    · exact h.np (by rw [← hv]; exact e)
    · rw [hv] at e
      injection e with e
      omega
theorem BldAt.popped (h : BldAt w base b pg n leaf pub ad v (t :: s) path) (hI : But b w w') (hk : Blk w' b (bldC v' pub ad leaf (.slice (some ⟨pg, 0, none⟩) n n)) 222) (ho : w'.ownsRow base 226 34 v' s.length (nodsC s.reverse)) (hv : v'.ownBlock = v.ownBlock) :
    BldAt w' base b pg n leaf pub ad v' s path :=
  ⟨hk, ho, hI.blk h.pth (fun e => h.ne e.symm), h.len, h.each, fun y hy => h.nods y (by simp [hy]), h.ne, by rw [hv]; exact h.nb, by rw [hv]; exact h.np⟩
theorem BldAt.picked (h : BldAt w base b pg n leaf pub ad v stk path) (hI : FlowB.ButIn [pg] w w') (hp : Blk w' pg (dcs (pickM leaf path x)) 25) (hx : Dg x.d) : BldAt w' base b pg n leaf pub ad v stk (pickM leaf path x) :=
  ⟨hI.blk h.blk (by simpa using h.ne), own_in h.row hI (fun g hg hm => h.np (by simp at hm; rw [← hm]; exact hg)), hp, by rw [pickM_length]; exact h.len, pickM_each h.each hx, h.nods, h.ne, h.nb, h.np⟩
theorem BldAt.top (h : BldAt w base b pg n leaf pub ad v stk path) : w.cell? ⟨b, 0, none⟩ = some v := by rw [h.blk.cell]; exact bldC_top _ _ _ _ _
end
set_option maxHeartbeats 4000000 in
theorem addn_any (base b pg n leaf : Nat) (pub ad : List Int) (v0 : Value) (stk0 : List Nod) (path0 : List (List Int)) (x0 : Nod) (w : World) (hB : BldAt w base b pg n leaf pub ad v0 stk0 path0) (hpub : Dg pub) (had : Aw ad) (hx0 : Dg x0.d) (hl0 : x0.l + stk0.length ≤ 50) (hq0 : x0.q < 100000) (hlf : leaf < 16) (hbt : 1 < base ∧ 0 < base) (hbb : base ≤ b) (hbp : base ≤ pg) (tab : ShaTab w) :
    Calls Tryz.prog 122 #[.pointer (some ⟨b, 0, none⟩), .agg (nodC x0).toArray] w fun e w' => e = .returned (.tuple #[]) ∧ ∃ v', FlowB.ButIn (b :: pg :: v0.ownBlock.toList) w w' ∧ BldAt w' base b pg n leaf pub ad v' (addR pub ad leaf stk0 (pickM leaf path0 x0) x0).1 (addR pub ad leaf stk0 (pickM leaf path0 x0) x0).2 ∧ (v'.ownBlock = v0.ownBlock ∨ ∃ g, v'.ownBlock = some g ∧ w.heap.size ≤ g) := by
  have hbl := hB.blk.lt
  have hpl := hB.pth.lt
  have hol := hB.row.lt
  have hS1 : 1 ∉ (b :: pg :: v0.ownBlock.toList) := fun hm => by
    simp only [List.mem_cons, Option.mem_toList] at hm
    rcases hm with hm | hm | hm
    · omega
    · omega
    · have := (hol _ hm).1; omega
  have hS0 : 0 ∉ (b :: pg :: v0.ownBlock.toList) := fun hm => by
    simp only [List.mem_cons, Option.mem_toList] at hm
    rcases hm with hm | hm | hm
    · omega
    · omega
    · have := (hol _ hm).1; omega
  have bA := (Below.refl w.heap.size w).alloc (Nat.le_refl _) (.cells (nodC x0).toArray 226 (0, 0))
  have Kx0 := hid (Blk.new (w := w) (n := w.heap.size) rfl (nodC x0).toArray 226)
  have HBa := hid (hB.below bA)
  have Ha := hid bA
  have hsa : w.heap.size + 1 ≤ (w.alloc (.cells (nodC x0).toArray 226 (0, 0))).heap.size := by simp only [World.size_alloc]; omega
  clear bA hB
  go_enter Tryz.func122, Tryz.ntmps122
  go_wp2_with (refine wpList_load_blk rfl 226 _ rfl (w.heap.size) rfl _ 226 Kx0.out _ Tryz.underlying226 rfl 34 size_nod (nodC_size hx0) ?_)
  refine (pick_any b pg n leaf _ pub ad _ path0 x0 _ HBa.out.blk HBa.out.pth HBa.out.each HBa.out.len hpub had hx0 (by omega) hlf).mono ?_
  rintro e wp ⟨rfl, hIp, hpp⟩
  have hnp : ¬ w.heap.size = pg := by omega
  have HBp := hid (show BldAt wp base b pg n leaf pub ad v0 stk0 (pickM leaf path0 x0) from ⟨hIp.blk HBa.out.blk (by simpa using HBa.out.ne), own_in HBa.out.row hIp (fun g hg hm => HBa.out.np (by simp at hm; rw [← hm]; exact hg)), hpp, by rw [pickM_length]; exact HBa.out.len, pickM_each HBa.out.each hx0, HBa.out.nods, HBa.out.ne, HBa.out.nb, HBa.out.np⟩)
  have Kxp := hid (hIp.blk Kx0.out (by simpa using hnp))
  have HIp := hid (show FlowB.ButIn (b :: pg :: v0.ownBlock.toList) w wp from (FlowB.ButIn.of_below Ha.out).step hIp (fun k _ hm => by simp at hm ⊢; exact .inr (.inl hm)))
  have hsp := Nat.le_trans hsa hIp.size
  clear hIp hpp
  go_wp2_with fail
  go_loopw [8] (fun _ wr => ∃ (v : Value) (stk : List Nod) (path : List (List Int)) (x : Nod), BldAt wr base b pg n leaf pub ad v stk path ∧ v.ownBlock = v0.ownBlock ∧ Blk wr (w.heap.size) (nodC x).toArray 226 ∧ Dg x.d ∧ x.l + stk.length ≤ 50 ∧ x.q < 100000 ∧ FlowB.ButIn (b :: pg :: v0.ownBlock.toList) w wr ∧ w.heap.size + 1 ≤ wr.heap.size ∧ addR pub ad leaf stk path x = addR pub ad leaf stk0 (pickM leaf path0 x0) x0) (fun _ wr => match wr.cell? ⟨b, 0, none⟩ with | some (.slice _ m _) => m | _ => 0)
  case atStart => exact ⟨v0, stk0, _, x0, HBp.out, rfl, Kxp.out, hx0, hl0, hq0, HIp.out, hsp, rfl⟩
  case round =>
    clear HBp Kxp HIp Kx0 HBa Ha
    obtain ⟨v, stk, path, x, hBl, hov, kx, hx, hlx, hqx, hI, hsz, hR⟩ := hrel
    have HBld := hid hBl
    have Kx := hid kx
    have Hx := hid hx
    have HI := hid hI
    have HR := hid hR
    have Hov := hid hov
    have hXb : ¬ w.heap.size = b := by omega
    have hXp : ¬ w.heap.size = pg := by omega
    clear hBl kx hx hI hR hov
    cases stk with
    | nil =>
      have hn0 := HBld.out.row
      obtain ⟨a0, c0, rfl⟩ : ∃ a c, v = .slice a 0 c := by
        obtain ⟨_, ⟨rfl, _⟩ | ⟨g, cap, cur, rfl, _⟩⟩ := hn0
        · exact ⟨_, _, rfl⟩
        · exact ⟨_, _, rfl⟩
      clear hn0
      go_wp2_with fail
      refine wp_region_flow 6 [0, 1, 2, 3, 4, 5] [] [] (by kernel_rfl) (by kernel_rfl) ?_
      apply Exists.intro
      refine ⟨fun w0 hb0 hF0 => ?_, ?_⟩
      · skip
        have y0 : ∀ w', (∃ x : Ext w0, w' = x.at_) → w'.cell? ⟨w.heap.size, 32, none⟩ = some (.int .i64 x.l) := fun w' ⟨z, hz⟩ => by rw [hz]; exact nodC_lev Hx.out ((Kx.out.below hb0).below z.same)
        have c0 := fun e : Ext w0 => holds_none b _ _ a0 c0 (x.l : Int) e.at_ ((HBld.out.blk.below hb0).below e.same) (bldC_top _ _ _ _ _)
        simp only [pick, List.getElem?_toArray, List.getElem?_cons_succ, List.getElem?_cons_zero, Option.toList_some, List.cons_append, List.nil_append]
        repeat (first | (go_big_quiet_want; refine quiet_load_one 3 _ rfl ⟨w.heap.size, 32, none⟩ rfl _ y0 _ Tryz.underlying3 rfl ?_; go_big_quiet_on; simp only [Act.put, List.setIfInBounds_toArray, List.set_cons_zero, List.set_cons_succ]) | go_big_quiet_step (first | (go_at_call 155; with_reducible exact Calls.ext (c0 _))))
        exact wpQuiet_nil rfl
      refine AlChk.nil ?_
      refine Walk.fin fun w1 h1 _ _ => ?_
      simp only [List.drop_succ_cons, List.drop_zero]
      have HBld1 := hid (HBld.out.below h1)
      have HI1 := hid (HI.out.step (FlowB.ButIn.of_below (S := []) h1) (fun _ _ h => absurd h (by simp)))
      have Kxwr1 := hid (Kx.out.below h1)
      have hs1 := Nat.le_trans hsz h1.size
      clear h1
      go_wp2_with fail
      refine wp_region_flow 4 [0, 1, 2, 3] [] [] (by kernel_rfl) (by kernel_rfl) ?_
      apply Exists.intro
      refine ⟨fun w0 hb0 hF0 => ?_, ?_⟩
      · skip
        have x1 : ∀ w', (∃ x : Ext w0, w' = x.at_) → ∃ T, Blk w' (w.heap.size) (nodC x).toArray T := fun w' ⟨z, hz⟩ => ⟨_, hz ▸ (Kxwr1.out.below hb0).below z.same⟩
        simp only [pick, List.getElem?_toArray, List.getElem?_cons_succ, List.getElem?_cons_zero, Option.toList_some, List.cons_append, List.nil_append]
        repeat (first | (go_big_quiet_want; refine quiet_load_blk 226 _ rfl (w.heap.size) rfl _ x1 _ Tryz.underlying226 rfl 34 size_nod (nodC_size Hx.out) ?_; go_big_quiet_on; simp only [Act.put, List.setIfInBounds_toArray, List.set_cons_zero, List.set_cons_succ]) | go_big_quiet_step (fail))
        exact wpQuiet_nil rfl
      refine AlChk.nil ?_
      refine Walk.fin fun w2 h2 _ _ => ?_
      simp only [List.drop_succ_cons, List.drop_zero]
      have HB2 := hid (HBld1.out.below h2)
      have HI2 := hid (HI1.out.step (FlowB.ButIn.of_below (S := []) h2) (fun _ _ h => absurd h (by simp)))
      have hs2 := Nat.le_trans hs1 h2.size
      clear h2
      go_wp2_with fail
      refine (push_any b base 0 _ _ _ (nodsC []) x _ HB2.out.blk (bldC_top _ _ _ _ _) (by rw [bldC_size hpub had]; omega) HB2.out.row Hx.out HB2.out.nb (by omega) (by omega)).mono ?_
      rintro e w3 ⟨rfl, v3, hI3, hk3, ho3, hv3⟩
      rw [bldC_set] at hk3
      have H3 := hid (And.intro hI3 (And.intro hk3 ho3))
      have hs3 := hI3.size
      clear hI3 hk3 ho3
      go_wp2_with fail
      go_end0
      refine ⟨rfl, v3, HI2.out.step H3.out.1 (fun k _ hm => ?_), ?_, ?_⟩
      · rw [Hov.out] at hm
        simp only [List.mem_cons] at hm ⊢
        rcases hm with hm | hm
        · exact .inl hm
        · exact .inr (.inr hm)
      · rw [← HR.out, addR]
        exact HB2.out.pushed H3.out.1 H3.out.2.1 H3.out.2.2 hv3 Hx.out hqx
      · rcases hv3 with h3 | ⟨g, h3, h4⟩
        · exact .inl (h3.trans Hov.out)
        · exact .inr ⟨g, h3, by omega⟩
    | cons t s =>
      have Hrow := hid (show wr.ownsRow base 226 34 v (s.length + 1) (nodsC s.reverse ++ nodC t) from by rw [← nods_rev]; exact HBld.out.row)
      have hns := HBld.out.nods
      have Ht := hid (hns t (by simp)).1
      have htq := (hns t (by simp)).2
      have Hls := hid (nods_len (s := s) (fun y hy => (hns y (by simp [hy])).1))
      have hlx2 : x.l + s.length + 1 ≤ 50 := by
        simp only [List.length_cons] at hlx
        omega
      clear hns
      by_cases htl : t.l = x.l
      · go_wp2_with fail
        refine wp_region_flow 6 [0, 1, 2, 3, 4, 5] [] [] (by kernel_rfl) (by kernel_rfl) ?_
        apply Exists.intro
        refine ⟨fun w0 hb0 hF0 => ?_, ?_⟩
        · skip
          have y0 : ∀ w', (∃ x : Ext w0, w' = x.at_) → w'.cell? ⟨w.heap.size, 32, none⟩ = some (.int .i64 x.l) := fun w' ⟨z, hz⟩ => by rw [hz]; exact nodC_lev Hx.out ((Kx.out.below hb0).below z.same)
          have c0 := fun e : Ext w0 => holds_top b base s.length _ _ v _ t (x.l : Int) true e.at_ ((HBld.out.blk.below hb0).below e.same) (bldC_top _ _ _ _ _) (owns_below (owns_below Hrow.out hb0) e.same) Hls.out Ht.out (by rw [htl]; simp)
          simp only [pick, List.getElem?_toArray, List.getElem?_cons_succ, List.getElem?_cons_zero, Option.toList_some, List.cons_append, List.nil_append]
          repeat (first | (go_big_quiet_want; refine quiet_load_one 3 _ rfl ⟨w.heap.size, 32, none⟩ rfl _ y0 _ Tryz.underlying3 rfl ?_; go_big_quiet_on; simp only [Act.put, List.setIfInBounds_toArray, List.set_cons_zero, List.set_cons_succ]) | go_big_quiet_step (first | (go_at_call 155; with_reducible exact Calls.ext (c0 _))))
          exact wpQuiet_nil rfl
        refine AlChk.nil ?_
        refine Walk.fin fun w1 h1 _ _ => ?_
        simp only [List.drop_succ_cons, List.drop_zero]
        have HBld1 := hid (HBld.out.below h1)
        have Hrow1 := hid (owns_below Hrow.out h1)
        have HI1 := hid (HI.out.step (FlowB.ButIn.of_below (S := []) h1) (fun _ _ h => absurd h (by simp)))
        have Kx1 := hid (Kx.out.below h1)
        have hs1 := Nat.le_trans hsz h1.size
        clear h1
        go_wp2_with fail
        refine (pop_any b base s.length _ _ v _ t _ HBld1.out.blk (bldC_top _ _ _ _ _) (by rw [bldC_size hpub had]; omega) Hrow1.out Hls.out Ht.out HBld1.out.nb).mono ?_
        rintro e w2 ⟨rfl, v2, hb2, hk2, ho2, hv2⟩
        rw [bldC_set] at hk2
        have HB2 := hid (HBld1.out.popped hb2 hk2 ho2 hv2)
        have Kx2 := hid (hb2.blk Kx1.out hXb)
        have HI2 := hid (HI1.out.step hb2.in_ (fun k _ hm => by simp at hm ⊢; exact .inl hm))
        have hs2 := Nat.le_trans hs1 hb2.size
        have Hov2 := hid (hv2.trans Hov.out)
        have hxl2 := Kx2.out.lt
        clear hb2 hk2 ho2 hv2
        go_wp2_with (
          refine wpList_store_blk rfl 226 _ _ rfl (w2.heap.size) (nodC t).toArray rfl rfl _ 226 (Blk.new rfl nodZ _) 34 size_nod nodZ_size (nodC_size Ht.out) (nodC_ones t) ?_
          intro w3 hb3 hk3
          have h3 := hb3.below ((Below.refl w2.heap.size w2).alloc (Nat.le_refl _) _) (by simp only [World.size_alloc]; omega) (Nat.le_refl _)
          have HB3 := hid (HB2.out.below h3)
          have Kx3 := hid (Kx2.out.below h3)
          have Kt3 := hid hk3
          have HI3 := hid (HI2.out.step (FlowB.ButIn.of_below (S := []) h3) (fun _ _ h => absurd h (by simp)))
          have hs3 := Nat.le_trans hs2 h3.size
          clear hb3 hk3 h3)
        have HJ := hid (Dg.join t.d x.d pub (setAd ad x.l ((t.q : Int) / 2) 0))
        have HU := hid (show upN pub ad t x = ⟨joinZ t.d x.d pub (setAd ad x.l ((t.q : Int) / 2) 0), x.l + 1, t.q / 2⟩ from rfl)
        have C1 := hid (fun (W : World) (h : ShaTab W) => tjoin_any t.d x.d pub ad (x.l : Int) ((t.q : Int) / 2) W Ht.out Hx.out hpub had (by omega) (by omega) h)
        generalize joinZ t.d x.d pub (setAd ad x.l ((t.q : Int) / 2) 0) = J at *
        have hbn : ∀ W : World, (Instr.build 226 #[(0, (.agg (J.map (Value.int .u8)).toArray)), (1, .int .i64 ((x.l : Int) + 1)), (2, .int .i64 ((t.q : Int) / 2))]).run Tryz.prog W = .ok (.agg (nodC ⟨J, x.l + 1, t.q / 2⟩).toArray) W := fun W => build_nod J (x.l + 1) (t.q / 2) HJ.out W
        generalize hxn : upN pub ad t x = xn at *
        simp only [Act.put]
        refine wp_region_flow 25 (List.range 25) [] [] (by kernel_rfl) (by kernel_rfl) ?_
        apply Exists.intro
        refine ⟨fun w0 hb0 hF0 => ?_, ?_⟩
        · skip
          have x0 : ∀ w', (∃ x : Ext w0, w' = x.at_) → w'.rangeAt (w2.heap.size) 0 (t.d.map (Value.int .u8)) := fun w' ⟨z, hz⟩ => hz ▸ nodC_dig ((Kt3.out.below hb0).below z.same)
          have x1 : ∀ w', (∃ x : Ext w0, w' = x.at_) → w'.rangeAt (w.heap.size) 0 (x.d.map (Value.int .u8)) := fun w' ⟨z, hz⟩ => hz ▸ nodC_dig ((Kx3.out.below hb0).below z.same)
          have x2 : ∀ w', (∃ x : Ext w0, w' = x.at_) → w'.rangeAt b 1 (pub.map (Value.int .u8)) := fun w' ⟨z, hz⟩ => hz ▸ bldC_pub ((HB3.out.blk.below hb0).below z.same)
          have x3 : ∀ w', (∃ x : Ext w0, w' = x.at_) → w'.rangeAt b 33 (ad.map (Value.int .u32)) := fun w' ⟨z, hz⟩ => hz ▸ bldC_ad hpub ((HB3.out.blk.below hb0).below z.same)
          have y0 : ∀ w', (∃ x : Ext w0, w' = x.at_) → w'.cell? ⟨w.heap.size, 32, none⟩ = some (.int .i64 x.l) := fun w' ⟨z, hz⟩ => by rw [hz]; exact nodC_lev Hx.out ((Kx3.out.below hb0).below z.same)
          have y1 : ∀ w', (∃ x : Ext w0, w' = x.at_) → w'.cell? ⟨w2.heap.size, 33, none⟩ = some (.int .i64 t.q) := fun w' ⟨z, hz⟩ => by rw [hz]; exact nodC_num Ht.out ((Kt3.out.below hb0).below z.same)
          have c0 := fun e : Ext w0 => C1.out e.at_ (((tab.in_ HI3.out hS1 hS0).below hb0).below e.same)
          simp only [pick, List.range, List.range.loop, List.getElem?_toArray, List.getElem?_cons_succ, List.getElem?_cons_zero, Option.toList_some, List.cons_append, List.nil_append]
          repeat (first | (go_big_quiet_want; refine quiet_load_mid 25 _ rfl (w2.heap.size) 0 rfl _ x0 _ Tryz.underlying25 rfl (by rw [List.length_map, Ht.out.len]; exact size_digest) ?_; go_big_quiet_on; simp only [Act.put, List.setIfInBounds_toArray, List.set_cons_zero, List.set_cons_succ]) | (go_big_quiet_want; refine quiet_load_mid 25 _ rfl (w.heap.size) 0 rfl _ x1 _ Tryz.underlying25 rfl (by rw [List.length_map, Hx.out.len]; exact size_digest) ?_; go_big_quiet_on; simp only [Act.put, List.setIfInBounds_toArray, List.set_cons_zero, List.set_cons_succ]) | (go_big_quiet_want; refine quiet_load_mid 25 _ rfl (b) 1 rfl _ x2 _ Tryz.underlying25 rfl (by rw [List.length_map, hpub.len]; exact size_digest) ?_; go_big_quiet_on; simp only [Act.put, List.setIfInBounds_toArray, List.set_cons_zero, List.set_cons_succ]) | (go_big_quiet_want; refine quiet_load_mid 216 _ rfl (b) 33 rfl _ x3 _ Tryz.underlying216 rfl (by rw [List.length_map, had.len]; exact sizeAdrs) ?_; go_big_quiet_on; simp only [Act.put, List.setIfInBounds_toArray, List.set_cons_zero, List.set_cons_succ]) | (go_big_quiet_want; refine quiet_load_one 3 _ rfl ⟨w.heap.size, 32, none⟩ rfl _ y0 _ Tryz.underlying3 rfl ?_; go_big_quiet_on; simp only [Act.put, List.setIfInBounds_toArray, List.set_cons_zero, List.set_cons_succ]) | (go_big_quiet_want; refine quiet_load_one 3 _ rfl ⟨w2.heap.size, 33, none⟩ rfl _ y1 _ Tryz.underlying3 rfl ?_; go_big_quiet_on; simp only [Act.put, List.setIfInBounds_toArray, List.set_cons_zero, List.set_cons_succ]) | (go_big_quiet_want; refine quiet_build _ _ rfl [(0, (.agg (J.map (Value.int .u8)).toArray)), (1, .int .i64 ((x.l : Int) + 1)), (2, .int .i64 ((t.q : Int) / 2))] rfl _ hbn ?_; go_big_quiet_on; simp only [Act.put, List.setIfInBounds_toArray, List.set_cons_zero, List.set_cons_succ]) | go_big_quiet_step (first | (go_at_call 156; with_reducible exact Calls.ext (c0 _))))
          exact wpQuiet_nil rfl
        refine AlChk.nil ?_
        refine Walk.fin fun w4 h4 _ _ => ?_
        simp only [List.drop_succ_cons, List.drop_zero]
        have HB4 := hid (HB3.out.below h4)
        have Kx4 := hid (Kx3.out.below h4)
        have HI4 := hid (HI3.out.step (FlowB.ButIn.of_below (S := []) h4) (fun _ _ h => absurd h (by simp)))
        have hs4 := Nat.le_trans hs3 h4.size
        have Hxn := hid (show Dg xn.d by rw [HU.out]; exact HJ.out)
        have hxnl : xn.l = x.l + 1 := by rw [HU.out]
        have hxnq : xn.q = t.q / 2 := by rw [HU.out]
        have HXn : Hid ((nodC ⟨J, x.l + 1, t.q / 2⟩).toArray = (nodC xn).toArray) := hid (by rw [HU.out])
        clear h4
        go_wp2_with (first
         | (
          refine wpList_store_blk rfl 226 _ _ rfl (w.heap.size) (nodC ⟨J, x.l + 1, t.q / 2⟩).toArray rfl rfl _ 226 Kx4.out 34 size_nod (nodC_size Hx.out) (by rw [HXn.out]; exact nodC_size Hxn.out) (nodC_ones _) ?_
          intro w5 hb5 hk5
          rw [HXn.out] at hk5
          have Kx5 := hid hk5
          have HB5 := hid (show BldAt w5 base b pg n leaf pub ad v2 s path from ⟨hb5.blk HB4.out.blk (Ne.symm hXb), own_but HB4.out.row hb5 (fun h => by have := (hol _ (by rw [← Hov2.out]; exact h)).2; omega), hb5.blk HB4.out.pth (Ne.symm hXp), HB4.out.len, HB4.out.each, HB4.out.nods, HB4.out.ne, HB4.out.nb, HB4.out.np⟩)
          have HI5 := hid (HI4.out.step hb5.in_ (fun k hk hm => by simp at hm; omega))
          have hs5 := Nat.le_trans hs4 hb5.size
          clear hb5 hk5)
         | (refine wpList_load_blk rfl 226 _ rfl (w.heap.size) rfl _ 226 Kx5.out _ Tryz.underlying226 rfl 34 size_nod (nodC_size Hxn.out) ?_))
        refine (pick_any b pg n leaf _ pub ad _ path xn _ HB5.out.blk HB5.out.pth HB5.out.each HB5.out.len hpub had Hxn.out (by omega) hlf).mono ?_
        rintro e w6 ⟨rfl, hI6, hp6⟩
        have HB6 := hid (HB5.out.picked hI6 hp6 Hxn.out)
        have Kx6 := hid (hI6.blk Kx5.out (by simpa using hXp))
        have HI6 := hid (HI5.out.step hI6 (fun k _ hm => by simp at hm ⊢; exact .inr (.inl hm)))
        have hs6 := Nat.le_trans hs5 hI6.size
        clear hI6 hp6
        go_wp2_with fail
        have hm1 := HBld.out.top
        have hm2 := HB6.out.top
        obtain ⟨ma, mc, rfl⟩ := own_len Hrow.out
        obtain ⟨na, nc, rfl⟩ := own_len HB6.out.row
        refine ⟨⟨_, s, _, xn, HB6.out, Hov2.out, Kx6.out, Hxn.out, by omega, by omega, HI6.out, hs6, ?_⟩, ?_⟩
        · rw [← HR.out, addR_up htl, hxn]
        · simp only [hm1, hm2]; omega
      · go_wp2_with fail
        refine wp_region_flow 6 [0, 1, 2, 3, 4, 5] [] [] (by kernel_rfl) (by kernel_rfl) ?_
        apply Exists.intro
        refine ⟨fun w0 hb0 hF0 => ?_, ?_⟩
        · skip
          have y0 : ∀ w', (∃ x : Ext w0, w' = x.at_) → w'.cell? ⟨w.heap.size, 32, none⟩ = some (.int .i64 x.l) := fun w' ⟨z, hz⟩ => by rw [hz]; exact nodC_lev Hx.out ((Kx.out.below hb0).below z.same)
          have c0 := fun e : Ext w0 => holds_top b base s.length _ _ v _ t (x.l : Int) false e.at_ ((HBld.out.blk.below hb0).below e.same) (bldC_top _ _ _ _ _) (owns_below (owns_below Hrow.out hb0) e.same) Hls.out Ht.out (by simp; omega)
          simp only [pick, List.getElem?_toArray, List.getElem?_cons_succ, List.getElem?_cons_zero, Option.toList_some, List.cons_append, List.nil_append]
          repeat (first | (go_big_quiet_want; refine quiet_load_one 3 _ rfl ⟨w.heap.size, 32, none⟩ rfl _ y0 _ Tryz.underlying3 rfl ?_; go_big_quiet_on; simp only [Act.put, List.setIfInBounds_toArray, List.set_cons_zero, List.set_cons_succ]) | go_big_quiet_step (first | (go_at_call 155; with_reducible exact Calls.ext (c0 _))))
          exact wpQuiet_nil rfl
        refine AlChk.nil ?_
        refine Walk.fin fun w1 h1 _ _ => ?_
        simp only [List.drop_succ_cons, List.drop_zero]
        have HBld1 := hid (HBld.out.below h1)
        have HI1 := hid (HI.out.step (FlowB.ButIn.of_below (S := []) h1) (fun _ _ h => absurd h (by simp)))
        have Kxwr1 := hid (Kx.out.below h1)
        have hs1 := Nat.le_trans hsz h1.size
        clear h1
        go_wp2_with fail
        refine wp_region_flow 4 [0, 1, 2, 3] [] [] (by kernel_rfl) (by kernel_rfl) ?_
        apply Exists.intro
        refine ⟨fun w0 hb0 hF0 => ?_, ?_⟩
        · skip
          have x1 : ∀ w', (∃ x : Ext w0, w' = x.at_) → ∃ T, Blk w' (w.heap.size) (nodC x).toArray T := fun w' ⟨z, hz⟩ => ⟨_, hz ▸ (Kxwr1.out.below hb0).below z.same⟩
          simp only [pick, List.getElem?_toArray, List.getElem?_cons_succ, List.getElem?_cons_zero, Option.toList_some, List.cons_append, List.nil_append]
          repeat (first | (go_big_quiet_want; refine quiet_load_blk 226 _ rfl (w.heap.size) rfl _ x1 _ Tryz.underlying226 rfl 34 size_nod (nodC_size Hx.out) ?_; go_big_quiet_on; simp only [Act.put, List.setIfInBounds_toArray, List.set_cons_zero, List.set_cons_succ]) | go_big_quiet_step (fail))
          exact wpQuiet_nil rfl
        refine AlChk.nil ?_
        refine Walk.fin fun w2 h2 _ _ => ?_
        simp only [List.drop_succ_cons, List.drop_zero]
        have HB2 := hid (HBld1.out.below h2)
        have HI2 := hid (HI1.out.step (FlowB.ButIn.of_below (S := []) h2) (fun _ _ h => absurd h (by simp)))
        have hs2 := Nat.le_trans hs1 h2.size
        clear h2
        go_wp2_with fail
        refine (push_any b base (t :: s).length _ _ _ (nodsC (t :: s).reverse) x _ HB2.out.blk (bldC_top _ _ _ _ _) (by rw [bldC_size hpub had]; omega) HB2.out.row Hx.out HB2.out.nb (by omega) (by omega)).mono ?_
        rintro e w3 ⟨rfl, v3, hI3, hk3, ho3, hv3⟩
        rw [bldC_set] at hk3
        have H3 := hid (And.intro hI3 (And.intro hk3 ho3))
        have hs3 := hI3.size
        clear hI3 hk3 ho3
        go_wp2_with fail
        go_end0
        refine ⟨rfl, v3, HI2.out.step H3.out.1 (fun k _ hm => ?_), ?_, ?_⟩
        · rw [Hov.out] at hm
          simp only [List.mem_cons] at hm ⊢
          rcases hm with hm | hm
          · exact .inl hm
          · exact .inr (.inr hm)
        · rw [← HR.out, addR_on htl]
          exact HB2.out.pushed H3.out.1 H3.out.2.1 H3.out.2.2 hv3 Hx.out hqx
        · rcases hv3 with h3 | ⟨g, h3, h4⟩
          · exact .inl (h3.trans Hov.out)
          · exact .inr ⟨g, h3, by omega⟩
end Go.Proofs.YtpinamdgbijjlaaGreatDoor
namespace Go.Proofs.YtpinamdgbijjlaaGreatDoor
set_option maxRecDepth 100000
open Go.ChangeShapes Go.WideShapes Go.ChangeAt Go.RowKit
theorem addR_length (pub ad : List Int) (leaf : Nat) : ∀ (stk : List Nod) (path : List (List Int)) (x : Nod), (addR pub ad leaf stk path x).1.length ≤ stk.length + 1
  | [], _, _ => by simp [addR]
  | t :: s, path, x => by
    by_cases h : t.l = x.l
    · rw [addR_up h]
      have := addR_length pub ad leaf s (pickM leaf path (upN pub ad t x)) (upN pub ad t x)
      simp only [List.length_cons]
      omega
    · rw [addR_on h]
      simp
/-- What the first leaves come to. -/
def addAll (pub ad : List Int) (leaf n : Nat) (lf : Nat → List Int) : Nat → List Nod × List (List Int)
  | 0 => ([], List.replicate n zD)
  | k + 1 => addR pub ad leaf (addAll pub ad leaf n lf k).1 (pickM leaf (addAll pub ad leaf n lf k).2 ⟨lf k, 0, k⟩) ⟨lf k, 0, k⟩
theorem addAll_length (pub ad : List Int) (leaf n : Nat) (lf : Nat → List Int) : ∀ k, (addAll pub ad leaf n lf k).1.length ≤ k
  | 0 => by simp [addAll]
  | k + 1 => by
    have h1 := addAll_length pub ad leaf n lf k
    have h2 := addR_length pub ad leaf (addAll pub ad leaf n lf k).1 (pickM leaf (addAll pub ad leaf n lf k).2 ⟨lf k, 0, k⟩) ⟨lf k, 0, k⟩
    unfold addAll
    omega
/-- The node of a level, at a number. -/
def nodeZ (pub ad : List Int) (lf : Nat → List Int) : Nat → Nat → List Int
  | 0, j => lf j
  | k + 1, j => joinZ (nodeZ pub ad lf k (2 * j)) (nodeZ pub ad lf k (2 * j + 1)) pub (setAd ad (k : Nat) (j : Nat) 0)
def wayZ (pub ad : List Int) (lf : Nat → List Int) (leaf n : Nat) : List (List Int) := (List.range n).map fun k => nodeZ pub ad lf k (sibN leaf k)
theorem all_1 (pub ad : List Int) (lf : Nat → List Int) : ∀ i, i < 2 → addAll pub ad i 1 lf 2 = ([⟨nodeZ pub ad lf 1 0, 1, 0⟩], wayZ pub ad lf i 1)
  | 0, _ => by kernel_rfl
  | 1, _ => by kernel_rfl
  | _ + 2, h => absurd h (by omega)
theorem all_2 (pub ad : List Int) (lf : Nat → List Int) : ∀ i, i < 4 → addAll pub ad i 2 lf 4 = ([⟨nodeZ pub ad lf 2 0, 2, 0⟩], wayZ pub ad lf i 2)
  | 0, _ => by kernel_rfl
  | 1, _ => by kernel_rfl
  | 2, _ => by kernel_rfl
  | 3, _ => by kernel_rfl
  | _ + 4, h => absurd h (by omega)
theorem all_3 (pub ad : List Int) (lf : Nat → List Int) : ∀ i, i < 8 → addAll pub ad i 3 lf 8 = ([⟨nodeZ pub ad lf 3 0, 3, 0⟩], wayZ pub ad lf i 3)
  | 0, _ => by kernel_rfl
  | 1, _ => by kernel_rfl
  | 2, _ => by kernel_rfl
  | 3, _ => by kernel_rfl
  | 4, _ => by kernel_rfl
  | 5, _ => by kernel_rfl
  | 6, _ => by kernel_rfl
  | 7, _ => by kernel_rfl
  | _ + 8, h => absurd h (by omega)
theorem all_4 (pub ad : List Int) (lf : Nat → List Int) : ∀ i, i < 16 → addAll pub ad i 4 lf 16 = ([⟨nodeZ pub ad lf 4 0, 4, 0⟩], wayZ pub ad lf i 4)
  | 0, _ => by kernel_rfl
  | 1, _ => by kernel_rfl
  | 2, _ => by kernel_rfl
  | 3, _ => by kernel_rfl
  | 4, _ => by kernel_rfl
  | 5, _ => by kernel_rfl
  | 6, _ => by kernel_rfl
  | 7, _ => by kernel_rfl
  | 8, _ => by kernel_rfl
  | 9, _ => by kernel_rfl
  | 10, _ => by kernel_rfl
  | 11, _ => by kernel_rfl
  | 12, _ => by kernel_rfl
  | 13, _ => by kernel_rfl
  | 14, _ => by kernel_rfl
  | 15, _ => by kernel_rfl
  | _ + 16, h => absurd h (by omega)
theorem addAll_done (pub ad : List Int) (lf : Nat → List Int) (n leaf : Nat) (h : rightZ n leaf = true) : addAll pub ad leaf n lf (2 ^ n) = ([⟨nodeZ pub ad lf n 0, n, 0⟩], wayZ pub ad lf leaf n) := by
  simp only [rightZ, decide_eq_true_eq] at h
  obtain ⟨h1, h2, h3, h4⟩ := h
  rcases (show n = 1 ∨ n = 2 ∨ n = 3 ∨ n = 4 by omega) with rfl | rfl | rfl | rfl
  · exact all_1 pub ad lf leaf (by simp at h4; omega)
  · exact all_2 pub ad lf leaf (by simp at h4; omega)
  · exact all_3 pub ad lf leaf (by simp at h4; omega)
  · exact all_4 pub ad lf leaf (by simp at h4; omega)
/-- A world in which a builder may have changed but for its path's slice. -/
structure ButBld (b r : Nat) (a c : World) : Prop where
  inn : FlowB.ButIn [b, r] a c
  cell : b < a.heap.size → c.cell? ⟨b, 42, none⟩ = a.cell? ⟨b, 42, none⟩
theorem rel_butBld (b r : Nat) : Rel (ButBld b r) :=
  ⟨fun h => ⟨FlowB.ButIn.of_below h, fun hb => h.cell hb⟩, fun h k => ⟨h.inn.trans k.inn, fun hb => (k.cell (Nat.lt_of_lt_of_le hb h.inn.size)).trans (h.cell hb)⟩⟩
theorem build_bld (pub ad : List Int) (leaf n c : Nat) (hp : Dg pub) (ha : Aw ad) (w : World) : (Instr.build 222 #[(1, .agg (pub.map (Value.int .u8)).toArray), (2, .agg (ad.map (Value.int .u32)).toArray), (3, .int .i64 (leaf : Int)), (4, .slice (some ⟨c, 0, none⟩) n n)]).run Tryz.prog w = .ok (.agg (bldC (.slice none 0 0) pub ad leaf (.slice (some ⟨c, 0, none⟩) n n))) w := by
  refine run_build w _ _ _ ?_
  obtain ⟨i0, hi, hz0⟩ := Option.map_eq_some_iff.1 (show (Tryz.prog.info? 222).map (·.zero) = some (some (.agg (bldC (.slice none 0 0) zD (List.replicate 8 0) 0 (.slice none 0 0)))) by kernel_rfl)
  have hz : (Value.agg (bldC (.slice none 0 0) zD (List.replicate 8 0) 0 (.slice none 0 0))).cells = bldC (.slice none 0 0) zD (List.replicate 8 0) 0 (.slice none 0 0) := rfl
  obtain ⟨fields, hu, hq⟩ : ∃ fields, Tryz.prog.underlying 222 = some (.struct fields) ∧ fields.toList.mapM (fun f => (Tryz.prog.info? f.type).map fun i => (f.offset, i.size)) = some [(0, 1), (1, 32), (33, 8), (41, 1), (42, 1)] := ⟨_, Tryz.underlying222, by kernel_rfl⟩
  unfold Program.built
  simp only [hi, hu, hz0, hq, hz]
  have hzl : (zD : List Int).length = 32 := rfl
  have s0 : (bldC (.slice none 0 0) zD (List.replicate 8 0) 0 (.slice none 0 0)).size = 43 := rfl
  have hc1 : (Value.agg (pub.map (Value.int .u8)).toArray).cells.size = 32 := hp.size
  have hc2 : (Value.agg (ad.map (Value.int .u32)).toArray).cells.size = 8 := ha.size
  have hl1 : (Value.int IntKind.i64 (leaf : Int)).cells = #[Value.int IntKind.i64 (leaf : Int)] := rfl
  have hl2 : (Value.slice (some ⟨c, 0, none⟩) n n).cells = #[Value.slice (some ⟨c, 0, none⟩) n n] := rfl
  have t1 : splice (bldC (.slice none 0 0) zD (List.replicate 8 0) 0 (.slice none 0 0)).toList 1 (Value.agg (pub.map (Value.int .u8)).toArray).cells.toList = (bldC (.slice none 0 0) pub (List.replicate 8 0) 0 (.slice none 0 0)).toList := by
    show splice _ 1 (pub.map (Value.int .u8)) = _
    unfold splice
    rw [List.length_map, hp.len]
    rfl
  have t2 : splice (bldC (.slice none 0 0) pub (List.replicate 8 0) 0 (.slice none 0 0)).toList 33 (Value.agg (ad.map (Value.int .u32)).toArray).cells.toList = (bldC (.slice none 0 0) pub ad 0 (.slice none 0 0)).toList := by
    show splice (Value.slice none 0 0 :: (pub.map (Value.int .u8) ++ ((List.replicate 8 (0 : Int)).map (Value.int .u32) ++ [.int .i64 ((0 : Nat) : Int), .slice none 0 0]))) 33 (ad.map (Value.int .u32)) = _
    unfold splice
    rw [List.length_map, ha.len, List.take_succ_cons, List.take_append_of_le_length (by rw [List.length_map, hp.len]; omega), List.take_of_length_le (by rw [List.length_map, hp.len]; omega), show 33 + 8 = 40 + 1 by omega, List.drop_succ_cons, List.drop_append, List.drop_eq_nil_of_le (by rw [List.length_map, hp.len]; omega), List.length_map, hp.len]
    simp [bldC]
  have t3 : splice (bldC (.slice none 0 0) pub ad 0 (.slice none 0 0)).toList 41 (Value.int IntKind.i64 (leaf : Int)).cells.toList = (bldC (.slice none 0 0) pub ad leaf (.slice none 0 0)).toList := by
    rw [hl1]
    show splice (Value.slice none 0 0 :: (pub.map (Value.int .u8) ++ (ad.map (Value.int .u32) ++ [.int .i64 ((0 : Nat) : Int), .slice none 0 0]))) 41 [Value.int IntKind.i64 (leaf : Int)] = _
    unfold splice
    rw [List.take_succ_cons, List.take_append, List.take_of_length_le (by rw [List.length_map, hp.len]; omega), List.length_map, hp.len, List.take_append, List.take_of_length_le (by rw [List.length_map, ha.len]; omega), List.length_map, ha.len, show 41 + [Value.int IntKind.i64 (leaf : Int)].length = 41 + 1 from rfl, List.drop_succ_cons, List.drop_append, List.drop_eq_nil_of_le (by rw [List.length_map, hp.len]; omega), List.length_map, hp.len, List.drop_append, List.drop_eq_nil_of_le (by rw [List.length_map, ha.len]; omega), List.length_map, ha.len]
    simp [bldC]
  have t4 : splice (bldC (.slice none 0 0) pub ad leaf (.slice none 0 0)).toList 42 (Value.slice (some ⟨c, 0, none⟩) n n).cells.toList = (bldC (.slice none 0 0) pub ad leaf (.slice (some ⟨c, 0, none⟩) n n)).toList := by
    rw [hl2]
    show splice (Value.slice none 0 0 :: (pub.map (Value.int .u8) ++ (ad.map (Value.int .u32) ++ [.int .i64 (leaf : Int), .slice none 0 0]))) 42 [Value.slice (some ⟨c, 0, none⟩) n n] = _
    unfold splice
    rw [List.take_succ_cons, List.take_append, List.take_of_length_le (by rw [List.length_map, hp.len]; omega), List.length_map, hp.len, List.take_append, List.take_of_length_le (by rw [List.length_map, ha.len]; omega), List.length_map, ha.len, show 42 + [Value.slice (some ⟨c, 0, none⟩) n n].length = 42 + 1 from rfl, List.drop_succ_cons, List.drop_append, List.drop_eq_nil_of_le (by rw [List.length_map, hp.len]; omega), List.length_map, hp.len, List.drop_append, List.drop_eq_nil_of_le (by rw [List.length_map, ha.len]; omega), List.length_map, ha.len]
    simp [bldC]
  rw [fill_part _ _ 1 1 _ _ (by rw [hc1]; rfl) (by rw [hc1, s0]; omega), t1, Array.toArray_toList]
  rw [fill_part _ _ 2 33 _ _ (by rw [hc2]; rfl) (by rw [hc2, bldC_size hp ⟨rfl, fun x hx => by have := List.eq_of_mem_replicate hx; omega⟩]; omega), t2, Array.toArray_toList]
  rw [fill_part _ _ 3 41 _ _ (by rw [hl1]; rfl) (by rw [hl1, bldC_size hp ha]; show 41 + 1 ≤ 43; omega), t3, Array.toArray_toList]
  rw [fill_part _ _ 4 42 _ _ (by rw [hl2]; rfl) (by rw [hl2, bldC_size hp ha]; show 42 + 1 ≤ 43; omega), t4, Array.toArray_toList, Instr.fill]
theorem field_nod {x : Nod} (h : Dg x.d) (w : World) : (Instr.field 226 (.agg (nodC x).toArray) 0).run Tryz.prog w = .ok (.agg (x.d.map (Value.int .u8)).toArray) w := by
  obtain ⟨fields, hu, f, hf, ht, ho⟩ : ∃ fields, Tryz.prog.underlying 226 = some (.struct fields) ∧ ∃ f, fields[0]? = some f ∧ f.type = 25 ∧ f.offset = 0 := ⟨_, Tryz.underlying226, _, rfl, rfl, rfl⟩
  obtain ⟨i0, hi, hs⟩ := Option.map_eq_some_iff.1 size_digest
  unfold Instr.field part
  simp only [Sem.run_bind, run_underlying hu, Result.andThen_ok, hf, asAgg, Sem.run_pure, ht, ho]
  have hagg : (isAgg 25).run Tryz.prog w = .ok true w := by
    unfold isAgg
    simp only [Sem.run_bind, run_underlying Tryz.underlying25, Result.andThen_ok]
    rfl
  simp [hagg, sizeOf, typeInfo, hi, hs]
  simp [nodC, h.len]
end Go.Proofs.YtpinamdgbijjlaaGreatDoor
namespace Go.Proofs.YtpinamdgbijjlaaGreatDoor
set_option maxRecDepth 100000
open Go.ChangeShapes Go.WideShapes Go.ChangeAt Go.RowKit
theorem size_secret : (Tryz.prog.info? 40).map (·.size) = some 96 := by kernel_rfl
theorem wpList_buildv {P : Program} {ops : Array Oper} {rest : List Oper} {op : Oper} {a : Act} {w : World} {Q : Exit → Act → World → Prop} (hgd : op.guard = none) (t : TypeId) (parts : List (Nat × Operand)) (ho : op.op = .build t parts.toArray) (vs : List (Nat × Value)) (hv : (parts.map fun x => (x.1, a.eval x.2)) = vs) (v : Value) (h : ∀ w', (Instr.build t vs.toArray).run P w' = .ok v w') (hk : wpList P ops Q rest (a.put op.dst v) w) : wpList P ops Q (op :: rest) a w :=
  wpList_plain hgd fun K hK => by
    have hm : (parts.map fun (x : Nat × Operand) => match x with | (i, x) => (i, a.eval x)) = vs := hv
    unfold Oper.wp execOp
    simp only [ho, List.map_toArray, hm, Sem.run_bind, h, Result.andThen_ok, Sem.run_pure, Oper.upon_value]
    exact hK _ _ hk
theorem quiet_field {P : Program} {op : Oper} {a : Act} {C : World → Prop} {K : Act → Prop} (ty : TypeId) (x : Operand) (f : Nat) (ho : op.op = .field ty x f) (v0 : Value) (hx : a.eval x = v0) (v : Value) (h : ∀ w', (Instr.field ty v0 f).run P w' = .ok v w') (hk : K (a.put op.dst v)) : op.quiet P a C K :=
  quiet_of v (fun w' _ => by
    unfold execOp
    simp only [ho, hx, Sem.run_bind, h, Result.andThen_ok, Sem.run_pure]) hk
theorem wrap_pow {n : Nat} (h : n ≤ 4) : wrap64 ((2 : Int) ^ n) = ((2 ^ n : Nat) : Int) := (by decide +kernel : ∀ i : Fin 5, wrap64 ((2 : Int) ^ i.val) = ((2 ^ i.val : Nat) : Int)) ⟨n, by omega⟩
theorem But.cell_other {b c o : Nat} {w w' : World} (h : But b w w') (hl : c < w.heap.size) (hne : c ≠ b) : w'.cell? ⟨c, o, none⟩ = w.cell? ⟨c, o, none⟩ := by
  unfold World.cell?
  rw [h.block c hl hne]
theorem store_skips_bld {P : Program} {o : Oper} {A : Act} {w : World} (b r : Nat) (hbr : ¬ b = r) (ty : TypeId) (x y : Operand) (ho : o.op = .store ty x y) (cells : Array Value) (hx : A.eval x = .pointer (some ⟨r, 0, none⟩)) (hy : A.eval y = .agg cells)
    (cs : Array Value) (T : TypeId) (hk : Blk w r cs T) (n : Nat) (hi : (P.info? ty).map (·.size) = some n) (hs : cs.size = n) (hn : cells.size = n) (h1 : cells.all (·.oneCell') = true) {G : World → Prop} (hG : ∀ w2, But r w w2 → Blk w2 r cells T → G w2) :
    ∃ w2, (execOp A.eval o).run P w = .ok .skip w2 ∧ ButBld b r w w2 ∧ G w2 := by
  obtain ⟨w', e1, e2, e3⟩ := FlowB.exec_store_blk ty x y ho r cells hx hy cs T hk n hi hs hn h1
  exact ⟨w', e1, ⟨FlowB.ButIn.of_but e2 (by simp), fun hl => e2.cell_other hl hbr⟩, hG w' e2 e3⟩
theorem Dg.node (pub ad : List Int) {lf : Nat → List Int} (h : ∀ j, Dg (lf j)) : ∀ k j, Dg (nodeZ pub ad lf k j)
  | 0, j => h j
  | _ + 1, _ => Dg.join _ _ _ _
theorem size_bld : (Tryz.prog.info? 222).map (·.size) = some 43 := by kernel_rfl
theorem bldC_ones (v pv : Value) (pub ad : List Int) (leaf : Nat) (h1 : v.oneCell' = true) (h2 : pv.oneCell' = true) : (bldC v pub ad leaf pv).all (·.oneCell') = true := all_oneCell_toArray fun u hu => by
  simp only [List.mem_cons, List.mem_append, List.mem_map, List.not_mem_nil, or_false] at hu
  rcases hu with rfl | ⟨_, _, rfl⟩ | ⟨_, _, rfl⟩ | rfl | rfl
  · exact h1
  · rfl
  · rfl
  · rfl
  · exact h2
set_option maxHeartbeats 4000000 in
theorem build_good2 (seed prf pub : List Int) (la tr : Int) (n leaf : Nat) (w : World) (hseed : Dg seed) (hprf : Dg prf) (hpub : Dg pub) (hla : 0 ≤ la ∧ la < 4294967296) (htr : 0 ≤ tr ∧ tr < 18446744073709551616) (hr : rightZ n leaf = true) (tab : ShaTab w) :
    Calls Tryz.prog 74 #[(.agg ((secL seed prf pub).map (Value.int .u8)).toArray), .int .u32 la, .int .u64 tr, .int .i64 n, .int .i64 leaf] w fun e w' => ∃ g, w.heap.size ≤ g ∧ e = .returned (.tuple #[(.agg ((nodeZ pub (treeZ la tr) (fun j => leafZ seed pub la tr j) n 0).map (Value.int .u8)).toArray), .slice (some ⟨g, 0, none⟩) n n, .int .i64 0]) ∧ Below w.heap.size w w' ∧ Blk w' g (dcs (wayZ pub (treeZ la tr) (fun j => leafZ seed pub la tr j) leaf n)) 25 := by
  have hr2 := hr
  simp only [rightZ, decide_eq_true_eq] at hr2
  have hn4 : n ≤ 4 := by omega
  have hl16 : leaf < 16 := by
    rcases (show n = 1 ∨ n = 2 ∨ n = 3 ∨ n = 4 by omega) with rfl | rfl | rfl | rfl <;> simp at hr2 <;> omega
  have HAd := hid (Aw.tree hla htr)
  have Hr := hid hr
  have b1 := (Below.refl w.heap.size w).alloc (Nat.le_refl _) (.cells ((secL seed prf pub).map (Value.int .u8)).toArray 40 (0, 0))
  have b2 := b1.alloc b1.size (.cells (byteCells 32 []) 25 (0, 0))
  have Ks := hid ((Blk.new (w := w) (n := w.heap.size) rfl ((secL seed prf pub).map (Value.int .u8)).toArray 40).old (.cells (byteCells 32 []) 25 (0, 0)))
  have Kr := hid (Blk.new (w := w.alloc (.cells ((secL seed prf pub).map (Value.int .u8)).toArray 40 (0, 0))) (n := w.heap.size + 1) (by simp only [World.size_alloc]) (byteCells 32 []) 25)
  have Hb := hid b2
  have Hbs := hid (show w.heap.size + 1 + 1 = ((w.alloc (.cells ((secL seed prf pub).map (Value.int .u8)).toArray 40 (0, 0))).alloc (.cells (byteCells 32 []) 25 (0, 0))).heap.size by simp only [World.size_alloc])
  have HzA := hid zsize
  have Htab := hid tab
  have hss : ((secL seed prf pub).map (Value.int .u8)).toArray.size = 96 := by rw [List.size_toArray, List.length_map, secL_length hseed hprf hpub]
  have Hss := hid hss
  clear b1 b2 tab hss
  go_enter Tryz.func74, Tryz.ntmps74
  go_wp2_with fail
  refine (tright_b (n : Int) (leaf : Int) true hr _).mono ?_
  rintro e w1 ⟨rfl, b1⟩
  have HB1 := hid (Below.on Hb.out b1)
  have Ks1 := hid (Ks.out.below b1)
  have Kr1 := hid (Kr.out.below b1)
  have hs1 : w.heap.size + 1 + 1 ≤ w1.heap.size := by rw [Hbs.out]; exact b1.size
  clear b1
  go_wp2_with fail
  refine wp_region_flow 10 [0, 1, 2, 3, 4, 5, 6] [7, 9] [(.b 7, [8], []), (.b 9, [], [])] (by kernel_rfl) (by kernel_rfl) ?_
  apply Exists.intro
  refine ⟨fun w0 hb0 hF0 => ?_, ?_⟩
  · skip
    have xp : ∀ w', (∃ x : Ext w0, w' = x.at_) → w'.rangeAt (w.heap.size) 64 (pub.map (Value.int .u8)) := fun w' ⟨x, hx⟩ => hx ▸ secL_pub hseed hprf ((Ks1.out.below hb0).below x.same)
    have c0 := fun e : Ext w0 => tree_list la tr e.at_ htr.1 htr.2
    simp only [pick, List.getElem?_toArray, List.getElem?_cons_succ, List.getElem?_cons_zero, Option.toList_some, List.cons_append, List.nil_append]
    repeat (first | (go_big_quiet_want; refine quiet_load_mid 25 _ rfl (w.heap.size) 64 rfl _ xp _ Tryz.underlying25 rfl (by rw [List.length_map, hpub.len]; exact size_digest) ?_; go_big_quiet_on; simp only [Act.put, List.setIfInBounds_toArray, List.set_cons_zero, List.set_cons_succ]) | go_big_quiet_step (first | (go_at_call 121; with_reducible exact Calls.ext (c0 _))))
    exact wpQuiet_nil rfl
  refine AlChk.one rfl (fun b => .slice (some ⟨b, 0, none⟩) n n) (.cells (dcs (List.replicate n zD)) 25 (0, 0)) rfl (fun w3 hb3 hF3 => exec_make rfl rfl rfl (make_digs n n rfl (by omega) w3)) ?_
  refine AlChk.one rfl (fun b => .pointer (some ⟨b, 0, none⟩)) (.cells (bldC (.slice none 0 0) zD (List.replicate 8 0) 0 (.slice none 0 0)) 222 (0, 0)) rfl (fun w3 hb3 hF3 => by go_simp; rfl) ?_
  refine AlChk.nil ?_
  refine Walk.blk rfl (fun b => .slice (some ⟨b, 0, none⟩) n n) (.cells (dcs (List.replicate n zD)) 25 (0, 0)) (by simp) ?_
  intro b7 wz hbz_ hFz hge7 _
  apply Exists.intro
  refine ⟨fun w0 hb0 hF0 => ?_, ?_⟩
  · skip
    simp only [pick, List.getElem?_toArray, List.getElem?_cons_succ, List.getElem?_cons_zero, Option.toList_some, List.cons_append, List.nil_append, Act.put, List.setIfInBounds_toArray, List.set_cons_zero, List.set_cons_succ]
    repeat (go_big_quiet_want; refine quiet_build _ _ rfl [(1, (.agg (pub.map (Value.int .u8)).toArray)), (2, (.agg ((treeZ la tr).map (Value.int .u32)).toArray)), (3, .int .i64 (leaf : Int)), (4, .slice (some ⟨b7, 0, none⟩) n n)] rfl _ (build_bld pub (treeZ la tr) leaf n b7 hpub HAd.out) ?_; go_big_quiet_on; simp only [Act.put, List.setIfInBounds_toArray, List.set_cons_zero, List.set_cons_succ])
    exact wpQuiet_nil rfl
  refine AlChk.nil ?_
  refine Walk.blk rfl (fun b => .pointer (some ⟨b, 0, none⟩)) (.cells (bldC (.slice none 0 0) zD (List.replicate 8 0) 0 (.slice none 0 0)) 222 (0, 0)) (by simp) ?_
  intro b9 wz2 hbz2_ hFz2 hge9 _
  apply Exists.intro
  refine ⟨fun w4 hb4 hF4 => wpQuiet_nil rfl, ?_⟩
  refine AlChk.nil ?_
  refine Walk.fin fun w2 h2 hF2 _ => ?_
  simp only [List.drop_succ_cons, List.drop_zero]
  have k7 : Blk w2 b7 (dcs (List.replicate n zD)) 25 := hF2.1.2
  have k9 : Blk w2 b9 (bldC (.slice none 0 0) zD (List.replicate 8 0) 0 (.slice none 0 0)) 222 := hF2.2
  have hne79 : b9 ≠ b7 := k9.apart k7 (by decide)
  have hb7 : w.heap.size + 1 + 1 ≤ b7 := Nat.le_trans hs1 hge7
  have hb9 : w.heap.size + 1 + 1 ≤ b9 := Nat.le_trans hs1 hge9
  have K7 := hid k7
  have K9 := hid k9
  have HB2 := hid (Below.on HB1.out h2)
  have Ks2 := hid (Ks1.out.below h2)
  have Kr2 := hid (Kr1.out.below h2)
  have hs2 := Nat.le_trans hs1 h2.size
  clear h2 hF2 k7 k9 hbz_ hFz hbz2_ hFz2
  generalize hlf : (fun j : Nat => leafZ seed pub la tr (j : Int)) = lf at *
  go_wp2_with (
    refine wpList_store_blk rfl 222 _ _ rfl b9 (bldC (.slice none 0 0) pub (treeZ la tr) leaf (.slice (some ⟨b7, 0, none⟩) n n)) rfl rfl _ 222 K9.out 43 size_bld rfl (bldC_size hpub HAd.out) (bldC_ones _ _ _ _ _ rfl rfl) ?_
    intro w3 hb3 hk3
    have HBld3 := hid (show BldAt w3 (w.heap.size + 1 + 1) b9 b7 n leaf pub (treeZ la tr) (.slice none 0 0) [] (List.replicate n zD) from ⟨hk3, World.ownsRow_nil _ _ _ _, hb3.blk K7.out (Ne.symm hne79), by simp, zRow n, by simp, hne79, by simp [Value.ownBlock], by simp [Value.ownBlock]⟩)
    have HB3 := hid (hb3.below HB2.out HB2.out.size (by omega))
    have Ks3 := hid (hb3.blk Ks2.out (by omega))
    have Kr3 := hid (hb3.blk Kr2.out (by omega))
    have hs3 := Nat.le_trans hs2 hb3.size
    clear hb3 hk3)
  obtain ⟨m, hm⟩ : ∃ m, 2 ^ n = m := ⟨_, rfl⟩
  have hw64 : wrap64 ((2 : Int) ^ n) = (m : Int) := by rw [wrap_pow hn4, hm]
  have hm16 : m ≤ 16 := by
    rcases (show n = 1 ∨ n = 2 ∨ n = 3 ∨ n = 4 by omega) with rfl | rfl | rfl | rfl <;> simp at hm <;> omega
  have Hm := hid hm
  have Hlf := hid (show ∀ j, Dg (lf j) by intro j; rw [← hlf]; exact Dg.leaf _ _ _ _ _)
  have CL := hid (show ∀ (j : Nat) (W : World), j < 16 → ShaTab W → Calls Tryz.prog 123 #[(.agg ((secL seed prf pub).map (Value.int .u8)).toArray), .int .u32 la, .int .u64 tr, .int .i64 (j : Int)] W (fun e w' => e = .returned (.agg ((lf j).map (Value.int .u8)).toArray) ∧ Below W.heap.size W w') from fun j W hj t => by
    rw [← hlf]
    exact leaf_any seed prf pub la tr (j : Int) W hseed hprf hpub hla htr (by omega) t)
  have htl := Htab.out.lt
  have htl0 := Htab.out.lt0
  have Hlf0 := hid hlf
  clear hm hlf
  go_wp2_with fail
  simp only [hw64]
  go_loopw [31] (fun jv wr => ∃ (k : Nat) (v : Value), k ≤ m ∧ jv = .int .i64 k ∧ BldAt wr (w.heap.size + 1 + 1) b9 b7 n leaf pub (treeZ la tr) v (addAll pub (treeZ la tr) leaf n lf k).1 (addAll pub (treeZ la tr) leaf n lf k).2 ∧ Blk wr (w.heap.size) ((secL seed prf pub).map (Value.int .u8)).toArray 40 ∧ Blk wr (w.heap.size + 1) (byteCells 32 []) 25 ∧ Below w.heap.size w wr ∧ w.heap.size + 1 + 1 ≤ wr.heap.size) (fun jv _ => m - (intOf jv).toNat)
  case atStart => exact ⟨0, _, Nat.zero_le _, rfl, HBld3.out, Ks3.out, Kr3.out, HB3.out, hs3⟩
  case round =>
    clear HBld3 Ks3 Kr3 HB3 HB2 Ks2 Kr2 K7 K9 Ks1 Kr1 HB1 Ks Kr Hb
    obtain ⟨k, v, hk, rfl, hBl, ks, kr, bel, hsz⟩ := hrel
    have HBld := hid hBl
    have Ks := hid ks
    have Kr := hid kr
    have HB := hid bel
    clear hBl ks kr bel
    by_cases hlt : k < m
    · have hc0 : (k : Int) < m := by omega
      have hal := addAll_length pub (treeZ la tr) leaf n lf k
      go_wp2_with (refine wpList_load_blk rfl 40 _ rfl (w.heap.size) rfl _ 40 Ks.out _ Tryz.underlying40 rfl 96 size_secret Hss.out ?_)
      refine (CL.out k _ (by omega) (Htab.out.below HB.out)).mono ?_
      rintro e w4 ⟨rfl, b4⟩
      have HBld4 := hid (HBld.out.below b4)
      have Ks4 := hid (Ks.out.below b4)
      have Kr4 := hid (Kr.out.below b4)
      have HB4 := hid (Below.on HB.out b4)
      have hs4 := Nat.le_trans hsz b4.size
      clear b4
      go_wp2_with (refine wpList_buildv rfl 226 _ rfl [(0, (.agg ((lf k).map (Value.int .u8)).toArray)), (1, .int .i64 ((0 : Nat) : Int)), (2, .int .i64 (k : Int))] rfl _ (build_nod (lf k) 0 k (Hlf.out k)) ?_)
      refine (addn_any (w.heap.size + 1 + 1) b9 b7 n leaf pub (treeZ la tr) v _ _ ⟨lf k, 0, k⟩ _ HBld4.out hpub HAd.out (Hlf.out k) (by show 0 + _ ≤ 50; omega) (by show k < 100000; omega) hl16 (by omega) (by omega) (by omega) (Htab.out.below HB4.out)).mono ?_
      rintro e w5 ⟨rfl, v5, hI5, hB5, hv5⟩
      have hS5 : ∀ g ∈ b9 :: b7 :: v.ownBlock.toList, w.heap.size + 1 + 1 ≤ g := fun g hg => by
        simp only [List.mem_cons, Option.mem_toList] at hg
        rcases hg with rfl | rfl | hg
        · exact hb9
        · exact hb7
        · exact (HBld4.out.row.lt _ hg).1
      have H5 := hid (And.intro (show BldAt w5 (w.heap.size + 1 + 1) b9 b7 n leaf pub (treeZ la tr) v5 (addAll pub (treeZ la tr) leaf n lf (k + 1)).1 (addAll pub (treeZ la tr) leaf n lf (k + 1)).2 from hB5) (And.intro (hI5.blk Ks4.out (fun hm => by have := hS5 _ hm; omega)) (And.intro (hI5.blk Kr4.out (fun hm => by have := hS5 _ hm; omega)) (hI5.below HB4.out HB4.out.size (fun g hg => by have := hS5 g hg; omega)))))
      have hs5 := Nat.le_trans hs4 hI5.size
      clear hI5 hB5 hv5 hS5
      go_wp2_with fail
      go_roundw
      case rel => exact ⟨k + 1, v5, by omega, by go_num, H5.out.1, H5.out.2.1, H5.out.2.2.1, H5.out.2.2.2, hs5⟩
      case measure => simp [intOf]; omega
    · have hkm : k = m := by omega
      subst hkm
      have hc0 : ¬ ((k : Int) < k) := by omega
      have hdone := addAll_done pub (treeZ la tr) lf n leaf Hr.out
      rw [Hm.out] at hdone
      have hBl := HBld.out
      rw [hdone] at hBl
      have HBl := hid hBl
      have HN := hid (Dg.node pub (treeZ la tr) Hlf.out n 0)
      have HE := hid hBl.each
      clear HBld hBl hdone
      have HRe := hid (show nodeZ pub (treeZ la tr) (fun j : Nat => leafZ seed pub la tr (j : Int)) n 0 = nodeZ pub (treeZ la tr) lf n 0 by rw [Hlf0.out])
      have HWe := hid (show wayZ pub (treeZ la tr) (fun j : Nat => leafZ seed pub la tr (j : Int)) leaf n = wayZ pub (treeZ la tr) lf leaf n by rw [Hlf0.out])
      generalize nodeZ pub (treeZ la tr) lf n 0 = R at *
      generalize wayZ pub (treeZ la tr) lf leaf n = Wy at *
      have h9l := HBl.out.blk.lt
      have h9r : ¬ b9 = w.heap.size + 1 := by omega
      have h7r : ¬ b7 = w.heap.size + 1 := by omega
      go_wp2_with fail
      refine FlowB.wp_region_flow_in (rel_butBld b9 (w.heap.size + 1)) (fun wz => BldAt wz (w.heap.size + 1 + 1) b9 b7 n leaf pub (treeZ la tr) v [⟨R, n, 0⟩] Wy ∧ Blk wz (w.heap.size + 1) (byteCells 32 []) 25) 6 [0, 3, 4] [] [(.c 1, [2], []), (.c 5, [], [])] (by kernel_rfl) (by kernel_rfl) (fun _ h => h.inn.size) ⟨HBl.out, Kr.out⟩ (fun _ _ h hb => ⟨h.1.below hb, h.2.below hb⟩) ?_
      apply Exists.intro
      refine ⟨fun w0 hb0 hF0 => ?_, ?_⟩
      · skip
        have y0 : ∀ w', (∃ x : Ext w0, w' = x.at_) → w'.cell? ⟨b9, 42, none⟩ = some (.slice (some ⟨b7, 0, none⟩) n n) := fun w' ⟨x, hx⟩ => by
          rw [hx]
          exact (x.same.cell (Nat.lt_of_lt_of_le h9l hb0.inn.size)).trans ((hb0.cell h9l).trans (by rw [HBl.out.blk.cell]; exact bldC_path hpub HAd.out))
        simp only [pick, List.getElem?_toArray, List.getElem?_cons_succ, List.getElem?_cons_zero, Option.toList_some, List.cons_append, List.nil_append]
        repeat (first | (go_big_quiet_want; refine quiet_load_one 49 _ rfl ⟨b9, 42, none⟩ rfl _ y0 _ Tryz.underlying49 rfl ?_; go_big_quiet_on; simp only [Act.put, List.setIfInBounds_toArray, List.set_cons_zero, List.set_cons_succ]) | go_big_quiet_step (fail))
        exact wpQuiet_nil rfl
      refine FlowB.AlChk.nil ?_
      refine FlowB.Walk.call rfl 124 #[.pointer (some ⟨b9, 0, none⟩)] (fun v' _ => v' = .agg (nodC ⟨R, n, 0⟩).toArray) (fun _ wz => Blk wz b7 (dcs Wy) 25 ∧ Blk wz (w.heap.size + 1) (byteCells 32 []) 25) (fun v w' w'' _ h _ => h) (fun v w' w'' h hb => ⟨h.1.below hb, h.2.below hb⟩) rfl (fun w1 hb1 hF1 hG1 => ⟨by go_simp, ?_⟩) ?_
      · refine (pop_any b9 (w.heap.size + 1 + 1) 0 _ _ v [] ⟨R, n, 0⟩ w1 hG1.1.blk (bldC_top _ _ _ _ _) (by rw [bldC_size hpub HAd.out]; omega) (by have := hG1.1.row; simpa [nodsC] using this) rfl HN.out hG1.1.nb).mono ?_
        rintro e w2 ⟨rfl, v', hb2, hk2, ho2, hv2⟩
        rw [bldC_set] at hk2
        exact ⟨_, rfl, ⟨FlowB.ButIn.of_but hb2 (by simp), fun _ => by rw [hk2.cell, bldC_path hpub HAd.out, hG1.1.blk.cell, bldC_path hpub HAd.out]⟩, rfl, hb2.blk hG1.1.pth (Ne.symm hG1.1.ne), hb2.blk hG1.2 (Ne.symm h9r)⟩
      rintro v' w1 hb1 hF1 rfl
      apply Exists.intro
      refine ⟨fun w0 hb0 hF0 => ?_, ?_⟩
      · skip
        simp only [pick, List.getElem?_toArray, List.getElem?_cons_succ, List.getElem?_cons_zero, Option.toList_some, List.cons_append, List.nil_append, Act.put, List.setIfInBounds_toArray, List.set_cons_zero, List.set_cons_succ]
        repeat (go_big_quiet_want; refine quiet_field 226 _ 0 rfl _ rfl _ (fun w' => field_nod (x := ⟨R, n, 0⟩) HN.out w') ?_; go_big_quiet_on; simp only [Act.put, List.setIfInBounds_toArray, List.set_cons_zero, List.set_cons_succ])
        exact wpQuiet_nil rfl
      refine FlowB.AlChk.nil ?_
      refine FlowB.Walk.skips rfl (fun wz => Blk wz b7 (dcs Wy) 25 ∧ Blk wz (w.heap.size + 1) (R.map (Value.int .u8)).toArray 25) (fun _ _ h hb => ⟨h.1.below hb, h.2.below hb⟩) rfl (fun w1 hb1 hF1 hG1 => ?_) ?_
      · exact store_skips_bld b9 (w.heap.size + 1) h9r 25 _ _ rfl (R.map (Value.int .u8)).toArray rfl rfl _ 25 hG1.2 32 size_digest HzA.out HN.out.size (ints_one _ _) (fun w2 e2 e3 => ⟨e2.blk hG1.1 h7r, e3⟩)
      intro w1 hb1 hF1
      apply Exists.intro
      refine ⟨fun w2 hb2 hF2 => wpQuiet_nil rfl, ?_⟩
      refine FlowB.AlChk.nil ?_
      refine FlowB.Walk.fin fun w5 h5 _ hG5 => ?_
      simp only [List.drop_succ_cons, List.drop_zero]
      have HG5 := hid hG5
      have HB5 := hid (h5.inn.below HB.out HB.out.size (by simp only [List.mem_cons, List.not_mem_nil, or_false, forall_eq_or_imp, forall_eq]; omega))
      clear h5 hG5
      go_wp2_with fail
      exact bodyPost_ret (v := .tuple #[(.agg (R.map (Value.int .u8)).toArray), .slice (some ⟨b7, 0, none⟩) n n, .int .i64 0]) (results_blk_tmp2 Tryz.results74 _ (w.heap.size + 1) rfl _ _ rfl rfl _ 25 HG5.out.2 _ Tryz.underlying25 rfl 32 size_digest HN.out.size) rfl ⟨b7, by omega, by rw [HRe.out], HB5.out, by rw [HWe.out]; exact HG5.out.1⟩
theorem build_good (seed prf pub : List Int) (la tr : Int) (n leaf : Nat) (w : World) (hseed : Dg seed) (hprf : Dg prf) (hpub : Dg pub) (hla : 0 ≤ la ∧ la < 4294967296) (htr : 0 ≤ tr ∧ tr < 18446744073709551616) (hr : rightZ n leaf = true) (tab : ShaTab w) :
    Calls Tryz.prog 74 #[(.agg ((secL seed prf pub).map (Value.int .u8)).toArray), .int .u32 la, .int .u64 tr, .int .i64 n, .int .i64 leaf] w fun e w' => ∃ g, e = .returned (.tuple #[(.agg ((nodeZ pub (treeZ la tr) (fun j => leafZ seed pub la tr j) n 0).map (Value.int .u8)).toArray), .slice (some ⟨g, 0, none⟩) n n, .int .i64 0]) ∧ Below w.heap.size w w' ∧ Blk w' g (dcs (wayZ pub (treeZ la tr) (fun j => leafZ seed pub la tr j) leaf n)) 25 :=
  (build_good2 seed prf pub la tr n leaf w hseed hprf hpub hla htr hr tab).mono fun _ _ ⟨g, _, h⟩ => ⟨g, h⟩
end Go.Proofs.YtpinamdgbijjlaaGreatDoor
namespace Go.Proofs.YtpinamdgbijjlaaGreatDoor
set_option maxRecDepth 100000
open Go.ChangeShapes Go.WideShapes Go.ChangeAt Go.RowKit
def rowN (pub ad : List Int) (lf : Nat → List Int) (k m : Nat) : List (List Int) := (List.range m).map (nodeZ pub ad lf k)
theorem rowN_succ (pub ad : List Int) (lf : Nat → List Int) (k m : Nat) : rowN pub ad lf k (m + 1) = rowN pub ad lf k m ++ [nodeZ pub ad lf k m] := by
  unfold rowN
  rw [List.range_succ, List.map_append]
  rfl
theorem rowN_length (pub ad : List Int) (lf : Nat → List Int) (k m : Nat) : (rowN pub ad lf k m).length = m := by simp [rowN]
theorem rowN_get (pub ad : List Int) (lf : Nat → List Int) (k m j : Nat) (h : j < m) : (rowN pub ad lf k m).getD j [] = nodeZ pub ad lf k j := by simp [rowN, h]
/-- The rows, wherever they lie. -/
def RowsV (pub ad : List Int) (lf : Nat → List Int) (n : Nat) (v : Value) (w : World) : Prop := ∃ g cap, v = .slice (some ⟨g, 0, none⟩) (n + 1) cap ∧ n + 1 ≤ cap ∧ g < w.heap.size ∧ ∀ j, j ≤ n → ∃ u, w.cell? ⟨g, j, none⟩ = some u ∧ RowV (2 ^ (n - j)) (rowN pub ad lf j (2 ^ (n - j))) u w
theorem infoLD : (Tryz.prog.info? 49).map (fun i => (i.zero, i.size, i.bytes)) = some (some (.slice none 0 0), 1, 24) := by kernel_rfl
theorem wpList_build_rec {P : Program} {ops : Array Oper} {rest : List Oper} {o : Oper} {A : Act} {w : World} {Q : Exit → Act → World → Prop} {t e : TypeId} {x : Operand} {i : TypeInfo} {z v : Value} {n : Nat} (hgd : o.guard = none) (ho : o.op = .buildSlice t 1 #[(0, x)]) (he : A.eval x = v) (ht : P.underlying t = some (.slice e)) (hi : P.info? e = some i) (hz : i.zero = some z) (hs : i.size = n) (h0 : 0 < n) (hn : n ≤ 16777216) (hv : v.cells.size = n)
    (h : wpList P ops Q rest (A.put o.dst (.slice (some ⟨w.heap.size, 0, none⟩) 1 1)) (w.alloc (.cells v.cells e (0, 0)))) : wpList P ops Q (o :: rest) A w :=
  wpList_plain hgd fun K hK => by
    unfold Oper.wp execOp
    simp only [ho, List.map_toArray, List.map_cons, List.map_nil, he, Sem.run_bind, run_build_rec ht hi hz hs h0 hn hv, Result.andThen_ok, Sem.run_pure, Oper.upon_value]
    exact hK _ _ h
/-- A row of digests of the call's own stays where a row of slices is appended to. -/
theorem OwnD.other {w w' : World} {base base2 n : Nat} {v u : Value} {ds : List (List Int)} {xs : List Value} (h : OwnD w base 25 v ds) (ho : w.ownsRow base2 49 1 u n xs) (hg : w.grownBy w' u.ownBlock) : OwnD w' base 25 v ds := by
  refine ⟨?_, h.each⟩
  obtain ⟨h1, ⟨rfl, h2⟩ | ⟨g, cap, cur, rfl, hg1, hh, h3⟩⟩ := h.row
  · exact ⟨h1, .inl ⟨rfl, h2⟩⟩
  · refine ⟨h1, .inr ⟨g, cap, cur, rfl, hg1, ?_, h3⟩⟩
    rw [hg.block g (Array.getElem?_eq_some_iff.1 hh).1 (fun e => ?_)]
    · exact hh
    · obtain ⟨_, ⟨rfl, _⟩ | ⟨g', cap', cur', rfl, _, hh', _⟩⟩ := ho
      · cases e
      · injection e with e
        subst e
        rw [hh] at hh'
        injection hh' with hh'
        injection hh' with _ hh'
        exact absurd hh' (by decide)
set_option maxHeartbeats 4000000 in
theorem refrows_any (seed prf pub : List Int) (la tr : Int) (n : Nat) (w : World) (hseed : Dg seed) (hprf : Dg prf) (hpub : Dg pub) (hla : 0 ≤ la ∧ la < 4294967296) (htr : 0 ≤ tr ∧ tr < 18446744073709551616) (hn : n ≤ 4) :
    Calls Tryz.prog 75 #[(.agg ((secL seed prf pub).map (Value.int .u8)).toArray), .int .u32 la, .int .u64 tr, .int .i64 n] w fun e w' => ∃ v, e = .returned v ∧ Below w.heap.size w w' ∧ RowsV pub (treeZ la tr) (fun j => leafZ seed pub la tr j) n v w' := by
  have HAd := hid (Aw.tree hla htr)
  have b1 := (Below.refl w.heap.size w).alloc (Nat.le_refl _) (.cells ((secL seed prf pub).map (Value.int .u8)).toArray 40 (0, 0))
  have Ks := hid (Blk.new (w := w) (n := w.heap.size) rfl ((secL seed prf pub).map (Value.int .u8)).toArray 40)
  have Hb := hid b1
  have Hss := hid (show ((secL seed prf pub).map (Value.int .u8)).toArray.size = 96 by rw [List.size_toArray, List.length_map, secL_length hseed hprf hpub])
  have hpl := hpub.len
  generalize hlf : (fun j : Nat => leafZ seed pub la tr (j : Int)) = lf at *
  have Hlf := hid (show ∀ j, Dg (lf j) by intro j; rw [← hlf]; exact Dg.leaf _ _ _ _ _)
  have CL := hid (show ∀ (j : Nat) (W : World), j < 16 → Calls Tryz.prog 125 #[(.agg ((secL seed prf pub).map (Value.int .u8)).toArray), .int .u32 la, .int .u64 tr, .int .u32 (j : Int)] W (fun e w' => e = .returned (.agg ((lf j).map (Value.int .u8)).toArray) ∧ Below W.heap.size W w') from fun j W hj => by
    rw [← hlf]
    exact refleaf_any seed prf pub la tr (j : Int) W hseed hprf hpub hla htr (by omega))
  have HN := hid (fun k j => Dg.node pub (treeZ la tr) Hlf.out k j)
  clear b1 hlf
  have hsb : w.heap.size + 1 = (w.alloc (.cells ((secL seed prf pub).map (Value.int .u8)).toArray 40 (0, 0))).heap.size := by simp only [World.size_alloc]
  have Hsb := hid hsb
  clear hsb
  go_enter Tryz.func75, Tryz.ntmps75
  go_wp2_with fail
  -- how many leaves
  go_loopw [10, 11] (fun mv iv wr => ∃ k p : Nat, k ≤ n ∧ p = 2 ^ k ∧ mv = .int .i64 (p : Int) ∧ iv = .int .i64 k ∧ Below w.heap.size w wr ∧ Blk wr (w.heap.size) ((secL seed prf pub).map (Value.int .u8)).toArray 40 ∧ (w.heap.size + 1) ≤ wr.heap.size) (fun _ iv _ => n - (intOf iv).toNat)
  case atStart => exact ⟨0, 1, Nat.zero_le _, rfl, rfl, rfl, Hb.out, Ks.out, by rw [← Hsb.out]; exact Nat.le_refl _⟩
  case round =>
    obtain ⟨k, p, hk, hp, rfl, rfl, bel, ks, hsz⟩ := hrel
    have HB := hid bel
    have Ks := hid ks
    have hp16 : p ≤ 16 := by
      rcases (show k = 0 ∨ k = 1 ∨ k = 2 ∨ k = 3 ∨ k = 4 by omega) with rfl | rfl | rfl | rfl | rfl <;> simp at hp <;> omega
    have Hp := hid hp
    clear bel ks Hb hp
    by_cases hlt : k < n
    · have hc0 : (k : Int) < n := by omega
      go_wp2_with fail
      exact ⟨⟨k + 1, p * 2, by omega, by rw [Hp.out, Nat.pow_succ], by go_num, by go_num, HB.out, Ks.out, hsz⟩, by simp [intOf]; omega⟩
    · obtain rfl : k = n := by omega
      have hc0 : ¬ ((k : Int) < k) := by omega
      go_wp2_with fail
      -- the leaves
      have HO0 := hid (OwnD.nil wr (w.heap.size + 1) 25)
      go_loopw [9, 12] (fun v iv w2 => ∃ j : Nat, j ≤ p ∧ iv = .int .i64 j ∧ OwnD w2 (w.heap.size + 1) 25 v (rowN pub (treeZ la tr) lf 0 j) ∧ Below w.heap.size w w2 ∧ Blk w2 (w.heap.size) ((secL seed prf pub).map (Value.int .u8)).toArray 40 ∧ (w.heap.size + 1) ≤ w2.heap.size) (fun _ iv _ => p - (intOf iv).toNat)
      case atStart => exact ⟨0, Nat.zero_le _, rfl, HO0.out, HB.out, Ks.out, hsz⟩
      case round =>
        clear HO0 HB Ks
        obtain ⟨j, hj, rfl, ho, bel, ks, hsz2⟩ := hrel
        have HO := hid ho
        have HB := hid bel
        have Ks := hid ks
        clear ho bel ks
        by_cases hlt2 : j < p
        · have hc1 : (j : Int) < p := by omega
          obtain ⟨i0, hi, hz0, hz1, hz2⟩ := info_parts info_dig
          have HLj := hid (Hlf.out j)
          have HLl := hid (rowN_length pub (treeZ la tr) lf 0 j)
          have HRs := hid (rowN_succ pub (treeZ la tr) lf 0 j)
          have C0 := hid (CL.out j)
          have hlz : nodeZ pub (treeZ la tr) lf 0 j = lf j := rfl
          rw [hlz] at HRs
          clear hlz
          generalize lf j = X at *
          generalize rowN pub (treeZ la tr) lf 0 j = L at *
          go_wp2_with (refine wpList_load_blk rfl 40 _ rfl (w.heap.size) rfl _ 40 Ks.out _ Tryz.underlying40 rfl 96 size_secret Hss.out ?_)
          refine (C0.out _ (by omega)).mono ?_
          rintro e w4 ⟨rfl, b4⟩
          have HO4 := hid (HO.out.below b4)
          have HB4 := hid (Below.on HB.out b4)
          have Ks4 := hid (Ks.out.below b4)
          have hs4 := Nat.le_trans hsz2 b4.size
          clear b4
          have HOa := hid (HO4.out.below ((Below.refl w4.heap.size w4).alloc (Nat.le_refl _) (.cells (X.map (Value.int .u8)).toArray 25 (0, 0))))
          have HKa := hid (Blk.new (w := w4) rfl (X.map (Value.int .u8)).toArray 25)
          have HBa := hid (HB4.out.alloc HB4.out.size (.cells (X.map (Value.int .u8)).toArray 25 (0, 0)))
          have Ksa := hid (Ks4.out.old (.cells (X.map (Value.int .u8)).toArray 25 (0, 0)))
          go_wp2_with (first
           | (refine wpList_build_one rfl _ rfl rfl HLj.out ?_)
           | (
            at_builtin
            refine wpList_append_dig rfl _ _ rfl Tryz.underlying49 hi hz0 zD_cells32 hz1 hz2 rfl HOa.out rfl HKa.out HLj.out (by rw [HLl.out]; omega) (by rw [World.size_alloc]; omega) ?_
            intro v5 w5 own5 hg5 b5
            have Ho5 := hid own5
            have HB5 := hid (HBa.out.trans (b5.mono (by omega)))
            have Ks5 := hid (Ksa.out.belowB (by omega) b5)
            have hs5 := Nat.le_trans (Nat.le_trans hs4 (by simp only [World.size_alloc]; omega)) b5.size
            clear own5 hg5 b5))
          exact ⟨⟨j + 1, by omega, by go_num, by rw [HRs.out]; exact Ho5.out, HB5.out, Ks5.out, hs5⟩, by simp [intOf]; omega⟩
        · obtain rfl : j = p := by omega
          have hc1 : ¬ ((j : Int) < j) := by omega
          obtain ⟨i1, hi1, hz10, hz11, hz12⟩ := info_parts infoLD
          have hoc := own_cells HO.out.row
          have ho1 := own_cell HO.out.row
          have Al := (Below.refl wr.heap.size wr).alloc (Nat.le_refl _) (.cells u9.cells 49 (0, 0))
          have HRo := hid (HO.out.below Al)
          have HBo := hid (HB.out.alloc HB.out.size (.cells u9.cells 49 (0, 0)))
          have Kso := hid (Ks.out.old (.cells u9.cells 49 (0, 0)))
          have kvo : Blk (wr.alloc (.cells u9.cells 49 (0, 0))) wr.heap.size [u9].toArray 49 := by rw [hoc]; exact Blk.new (w := wr) rfl #[u9] 49
          have Kvo := hid kvo
          clear Al kvo
          have hvs : u9.cells.size = 1 := by rw [hoc]; rfl
          have Hoc := hid hoc
          clear hoc
          go_wp2_with (first
           | (refine wpList_build_rec (v := u9) rfl rfl rfl Tryz.underlying161 hi1 hz10 hz11 (by omega) (by omega) hvs ?_)
           | (
            at_builtin
            refine wpList_append_own _ rfl _ _ 161 rfl (w.heap.size + 1) 49 i1 (.slice none 0 0) 1 24 Tryz.underlying161 hi1 hz10 hz11 hz12 rfl (by omega) (.slice none 0 0) 0 [] rfl (World.ownsRow_nil _ _ _ _) ⟨wr.heap.size, 0, none⟩ 1 1 [u9] rfl rfl (news_blk Kvo.out) (by simpa using ho1) (by unfold maxLen; omega) (by omega) (by rw [World.size_alloc]; omega) ?_
            intro v13 w3 hov hgv _
            have Hov := hid hov
            have HR3 := hid (HRo.out.other (World.ownsRow_nil _ (w.heap.size + 1) 49 1) hgv)
            have HB3 := hid (HBo.out.grown hgv (by rw [World.size_alloc]; omega) (fun q hq => by cases hq))
            have Ks3 := hid (Kso.out.grown hgv (fun q hq => by cases hq))
            have hs3 := hgv.size
            rw [World.size_alloc] at hs3
            clear hov hgv))
          have hr0 : OwnD w3 (w.heap.size + 1) 25 u9 (rowN pub (treeZ la tr) lf 0 (2 ^ (k - 0))) := by
            rw [Nat.sub_zero, ← Hp.out]
            exact HR3.out
          have Hr0 := hid hr0
          clear hr0 HR3 HRo HBo Kso Kvo
          go_loopw [9, 13, 14] (fun rv ov kv wr => ∃ (q : Nat) (vals : List Value), q ≤ k ∧ kv = .int .i64 q ∧ vals.length = q + 1 ∧ wr.ownsRow (w.heap.size + 1) 49 1 ov (q + 1) vals ∧ (∀ j, j ≤ q → OwnD wr (w.heap.size + 1) 25 (vals.getD j undef) (rowN pub (treeZ la tr) lf j (2 ^ (k - j)))) ∧ vals.getD q undef = rv ∧ Below w.heap.size w wr ∧ Blk wr (w.heap.size) ((secL seed prf pub).map (Value.int .u8)).toArray 40 ∧ (w.heap.size + 1) ≤ wr.heap.size) (fun _ _ kv _ => k - (intOf kv).toNat)
          case atStart => exact ⟨0, [u9], Nat.zero_le _, rfl, rfl, Hov.out, (fun j hj => (by obtain rfl : j = 0 := (by omega); exact Hr0.out)), rfl, HB3.out, Ks3.out, by omega⟩
          case round =>
            clear Hr0 Hov HB3 Ks3
            obtain ⟨q, vals, hq, rfl, hvl, hov, hrs, hrv, bel, ks, hsz3⟩ := hrel
            obtain ⟨wo, rfl⟩ : ∃ x : World, x = wr := ⟨_, rfl⟩
            have Hov := hid hov
            have Hrs := hid hrs
            have Hrv := hid hrv
            have Hvl := hid hvl
            have HB := hid bel
            have Ks := hid ks
            clear hov hrs hrv hvl bel ks
            by_cases hlt3 : q < k
            · have hc2 : (q : Int) < k := by omega
              obtain ⟨M, hM⟩ : ∃ M, 2 ^ (k - (q + 1)) = M := ⟨_, rfl⟩
              have hMr : 2 ^ (k - q) = 2 * M := by rw [← hM, show k - q = (k - (q + 1)) + 1 by omega, Nat.pow_succ]; omega
              have hM8 : M ≤ 16 := by
                rw [← hM]
                exact Nat.le_trans (Nat.pow_le_pow_right (by omega) (show k - (q + 1) ≤ 4 by omega)) (by omega)
              have hM1 : 1 ≤ M := by rw [← hM]; exact Nat.one_le_two_pow
              have hrow := Hrs.out q (Nat.le_refl _)
              rw [Hrv.out, hMr] at hrow
              have HRow := hid hrow
              obtain ⟨ra, rc, hva, hD, _⟩ := hrow.digs
              rw [rowN_length] at hva hD
              subst hva
              have HD := hid hD
              have hle := hD.le
              have hmx := hD.max
              obtain ⟨xs, xo, rfl, hxs, hcell⟩ := hD.at_ (by omega)
              have Hcell := hid hcell
              have HMe := hid hM
              have HMr := hid hMr
              clear hD hcell hM hMr hrow
              go_wp2_with fail
              have HO0 := hid (OwnD.nil wo (wo.heap.size) 25)
              have HBl0 := hid (Below.refl wo.heap.size wo)
              go_loopw [15, 16] (fun v iv w5 => ∃ j : Nat, j ≤ M ∧ iv = .int .i64 j ∧ OwnD w5 (wo.heap.size) 25 v (rowN pub (treeZ la tr) lf (q + 1) j) ∧ Below wo.heap.size wo w5) (fun _ iv _ => M - (intOf iv).toNat)
              case atStart => exact ⟨0, Nat.zero_le _, rfl, HO0.out, HBl0.out⟩
              case round =>
                clear HO0 HBl0
                obtain ⟨j, hj, rfl, ho, bel⟩ := hrel
                have HO := hid ho
                have HBl := hid bel
                have hsl := bel.size
                clear ho bel
                by_cases hlt4 : j < M
                · have hc3 : 2 * (j : Int) + 1 < ((2 * M : Nat) : Int) := by omega
                  obtain ⟨i0, hi, hz0, hz1, hz2⟩ := info_parts info_dig
                  have HJ := hid (HN.out (q + 1) j)
                  have HX := hid (HN.out q (2 * j))
                  have HY := hid (HN.out q (2 * j + 1))
                  have HL := hid (rowN_succ pub (treeZ la tr) lf (q + 1) j)
                  have HLl := hid (rowN_length pub (treeZ la tr) lf (q + 1) j)
                  have hcx := Hcell.out (2 * j) (by omega)
                  have hcy := Hcell.out (2 * j + 1) (by omega)
                  rw [rowN_get _ _ _ _ _ _ (by omega)] at hcx hcy
                  have HCx := hid (rangeAt_below hcx hxs HBl.out)
                  have HCy := hid (rangeAt_below hcy hxs HBl.out)
                  have hxs' := Nat.lt_of_lt_of_le hxs hsl
                  have Ksl := hid (Ks.out.below HBl.out)
                  have hje : nodeZ pub (treeZ la tr) lf (q + 1) j = joinZ (nodeZ pub (treeZ la tr) lf q (2 * j)) (nodeZ pub (treeZ la tr) lf q (2 * j + 1)) pub (setAd (treeZ la tr) (q : Nat) (j : Nat) 0) := rfl
                  have hksz := Ks.out.lt
                  clear hcx hcy
                  generalize nodeZ pub (treeZ la tr) lf (q + 1) j = J at *
                  generalize nodeZ pub (treeZ la tr) lf q (2 * j) = X at *
                  generalize nodeZ pub (treeZ la tr) lf q (2 * j + 1) = Y at *
                  have HJe := hid hje
                  clear hje
                  generalize hL : rowN pub (treeZ la tr) lf (q + 1) j = L at *
                  go_wp2_with fail
                  refine FlowB.wp_region_butIn (u15.ownBlock.toList) (fun wz => OwnD wz (wo.heap.size) 25 u15 L) 21 (List.range 19) [19] [(.b 19, [], []), (.c 20, [], [])] (by kernel_rfl) (by kernel_rfl) HO.out (fun _ _ h hb => h.below hb) ?_
                  apply Exists.intro
                  refine ⟨fun w0 hb0 hF0 => ?_, ?_⟩
                  · skip
                    have xx : ∀ w', (∃ x : Ext w0, w' = x.at_) → w'.rangeAt xs (xo + 2 * j * 32) (X.map (Value.int .u8)) := fun w' ⟨x, hx⟩ => hx ▸ rangeAt_below (hb0.range hxs' (own_low HO.out (by omega)) HCx.out) (Nat.lt_of_lt_of_le hxs' hb0.size) x.same
                    have xy : ∀ w', (∃ x : Ext w0, w' = x.at_) → w'.rangeAt xs (xo + (2 * j + 1) * 32) (Y.map (Value.int .u8)) := fun w' ⟨x, hx⟩ => hx ▸ rangeAt_below (hb0.range hxs' (own_low HO.out (by omega)) HCy.out) (Nat.lt_of_lt_of_le hxs' hb0.size) x.same
                    have xp : ∀ w', (∃ x : Ext w0, w' = x.at_) → w'.rangeAt (w.heap.size) 64 (pub.map (Value.int .u8)) := fun w' ⟨x, hx⟩ => hx ▸ secL_pub hseed hprf ((hb0.blk Ksl.out (own_low HO.out (by omega))).below x.same)
                    have c0 := fun e : Ext w0 => two_any X Y pub la tr (q : Int) (j : Int) e.at_ HX.out HY.out hpub hla htr (by omega) (by omega)
                    rw [← HJe.out] at c0
                    simp only [pick, List.range, List.range.loop, List.getElem?_toArray, List.getElem?_cons_succ, List.getElem?_cons_zero, Option.toList_some, List.cons_append, List.nil_append]
                    repeat (first | (go_big_quiet_want; refine quiet_index_digs 49 _ _ rfl Tryz.underlying49 size_digest xs xo (2 * M) rc rfl _ _ rfl (2 * j) (by omega) (by omega) ?_; go_big_quiet_on; simp only [Act.put, List.setIfInBounds_toArray, List.set_cons_zero, List.set_cons_succ]) | (go_big_quiet_want; refine quiet_index_digs 49 _ _ rfl Tryz.underlying49 size_digest xs xo (2 * M) rc rfl _ _ rfl (2 * j + 1) (by omega) (by omega) ?_; go_big_quiet_on; simp only [Act.put, List.setIfInBounds_toArray, List.set_cons_zero, List.set_cons_succ]) | (go_big_quiet_want; refine quiet_load_mid 25 _ rfl xs (xo + 2 * j * 32) rfl _ xx _ Tryz.underlying25 rfl (by rw [List.length_map, HX.out.len]; exact size_digest) ?_; go_big_quiet_on; simp only [Act.put, List.setIfInBounds_toArray, List.set_cons_zero, List.set_cons_succ]) | (go_big_quiet_want; refine quiet_load_mid 25 _ rfl xs (xo + (2 * j + 1) * 32) rfl _ xy _ Tryz.underlying25 rfl (by rw [List.length_map, HY.out.len]; exact size_digest) ?_; go_big_quiet_on; simp only [Act.put, List.setIfInBounds_toArray, List.set_cons_zero, List.set_cons_succ]) | (go_big_quiet_want; refine quiet_load_mid 25 _ rfl (w.heap.size) 64 rfl _ xp _ Tryz.underlying25 rfl (by rw [List.length_map, hpub.len]; exact size_digest) ?_; go_big_quiet_on; simp only [Act.put, List.setIfInBounds_toArray, List.set_cons_zero, List.set_cons_succ]) | go_big_quiet_step (first | (go_at_call 126; with_reducible exact Calls.ext (c0 _))))
                    exact wpQuiet_nil rfl
                  refine FlowB.AlChk.one rfl (fun b => .slice (some ⟨b, 0, none⟩) 1 1) (.cells (J.map (Value.int .u8)).toArray 25 (0, 0)) rfl (FlowB.st_butIn _ (own_size HO.out)) (fun w2 hb2 hF2 => exec_build_one rfl rfl HJ.out) ?_
                  refine FlowB.AlChk.nil ?_
                  refine FlowB.Walk.blk rfl (fun b => .slice (some ⟨b, 0, none⟩) 1 1) (.cells (J.map (Value.int .u8)).toArray 25 (0, 0)) (by simp) ?_
                  intro b9 w2 hb2 hF2 hge9 _
                  apply Exists.intro
                  refine ⟨fun w2 hb2 hF2 => wpQuiet_nil rfl, ?_⟩
                  refine FlowB.AlChk.nil ?_
                  refine FlowB.Walk.does rfl (fun _ _ => True) (fun v w' => OwnD w' (wo.heap.size) 25 v (L ++ [J])) (fun v w' w'' _ h _ => h) (fun v w' w'' h k => h.below k) rfl (fun w2 hb2 hF2 hG2 => ?_) ?_
                  · have k9 : Blk w2 b9 (J.map (Value.int .u8)).toArray 25 := hF2.2
                    obtain ⟨v', w', hr, q2, q3, q4⟩ := run_append_dig (P := Tryz.prog) _ Tryz.underlying49 hi hz0 zD_cells32 hz1 hz2 hG2 k9 HJ.out (by rw [HLl.out]; omega) (Nat.le_trans hsl hb2.size)
                    exact ⟨v', w', FlowB.exec_append rfl rfl rfl hr, FlowB.ButIn.of_grown q3, trivial, q2⟩
                  rintro v3 w3 hb3 hF3 _
                  apply Exists.intro
                  refine ⟨fun w2 hb2 hF2 => wpQuiet_nil rfl, ?_⟩
                  refine FlowB.AlChk.nil ?_
                  refine FlowB.Walk.fin fun w4 h4 _ hG4 => ?_
                  simp only [List.drop_succ_cons, List.drop_zero]
                  have HG4 := hid hG4
                  rw [← HL.out] at HG4
                  have HB4 := hid (h4.below HBl.out hsl (fun b hb => own_from HO.out b hb))
                  clear h4 hG4
                  go_wp2_with fail
                  exact ⟨⟨j + 1, by omega, by go_num, HG4.out, HB4.out⟩, by simp [intOf]; omega⟩
                · obtain rfl : j = M := by omega
                  have hc3 : ¬ (2 * (j : Int) + 1 < ((2 * j : Nat) : Int)) := by omega
                  obtain ⟨i1, hi1, hz10, hz11, hz12⟩ := info_parts infoLD
                  have hn := HO.out.re (base' := (w.heap.size + 1)) hsz3
                  have hoc := own_cells hn.row
                  have ho1 := own_cell hn.row
                  have Al := (Below.refl wr.heap.size wr).alloc (Nat.le_refl _) (.cells u15.cells 49 (0, 0))
                  have HNo := hid (hn.below Al)
                  have HOo := hid (owns_below (owns_below Hov.out HBl.out) Al)
                  have HRo := hid (fun j hj => ((Hrs.out j hj).below HBl.out).below Al)
                  have hbb := Below.on HB.out HBl.out
                  have HBo := hid (hbb.alloc hbb.size (.cells u15.cells 49 (0, 0)))
                  have Kso := hid ((Ks.out.below HBl.out).below Al)
                  have kvo : Blk (wr.alloc (.cells u15.cells 49 (0, 0))) wr.heap.size [u15].toArray 49 := by rw [hoc]; exact Blk.new (w := wr) rfl #[u15] 49
                  have Kvo := hid kvo
                  have hvs : u15.cells.size = 1 := by rw [hoc]; rfl
                  have hol := HOo.out.lt
                  have hksz := Ks.out.lt
                  have hszr : (w.heap.size + 1) ≤ wr.heap.size := Nat.le_trans hsz3 hsl
                  clear Al kvo hn hbb hoc
                  go_wp2_with (first
                   | (refine wpList_build_rec (v := u15) rfl rfl rfl Tryz.underlying161 hi1 hz10 hz11 (by omega) (by omega) hvs ?_)
                   | (
                    at_builtin
                    refine wpList_append_own _ rfl _ _ 161 rfl (w.heap.size + 1) 49 i1 (.slice none 0 0) 1 24 Tryz.underlying161 hi1 hz10 hz11 hz12 rfl (by omega) u13 (q + 1) vals rfl HOo.out ⟨wr.heap.size, 0, none⟩ 1 1 [u15] rfl rfl (news_blk Kvo.out) (by simpa using ho1) (by unfold maxLen; omega) (by omega) (by rw [World.size_alloc]; omega) ?_
                    intro v14 w3 hov3 hgv _
                    have Hov3 := hid hov3
                    have HN3 := hid (HNo.out.other HOo.out hgv)
                    have HR3 := hid (fun j hj => (HRo.out j hj).other HOo.out hgv)
                    have HB3 := hid (HBo.out.grown hgv (by rw [World.size_alloc]; omega) (fun p hp => by have := (hol p hp).1; omega))
                    have Ks3 := hid (Kso.out.grown hgv (fun p hp => by have := (hol p hp).1; omega))
                    have hs3 := hgv.size
                    rw [World.size_alloc] at hs3
                    clear hov3 hgv))
                  refine ⟨⟨q + 1, vals ++ [u15], by omega, by go_num, by rw [List.length_append, Hvl.out]; rfl, Hov3.out, (fun p hp => ?_), ?_, HB3.out, Ks3.out, by omega⟩, by simp [intOf]; omega⟩
                  · by_cases hpq : p ≤ q
                    · rw [List.getD_eq_getElem?_getD, List.getElem?_append_left (by rw [Hvl.out]; omega), ← List.getD_eq_getElem?_getD]
                      exact HR3.out p hpq
                    · obtain rfl : p = q + 1 := by omega
                      rw [List.getD_eq_getElem?_getD, List.getElem?_append_right (by rw [Hvl.out]; omega), Hvl.out, Nat.sub_self, HMe.out]
                      exact HN3.out
                  · rw [List.getD_eq_getElem?_getD, List.getElem?_append_right (by rw [Hvl.out]; omega), Hvl.out, Nat.sub_self]
                    rfl
            · obtain rfl : q = k := by omega
              have hc2 : ¬ ((q : Int) < q) := by omega
              have HRV : Hid (RowsV pub (treeZ la tr) lf q u13 wo) := hid (by
                obtain ⟨hl1, ⟨_, h0⟩ | ⟨g, cap, cur, rfl, hg1, hh, hle, hmx, hcs, htk⟩⟩ := Hov.out
                · omega
                · refine ⟨g, cap, rfl, hle, (Array.getElem?_eq_some_iff.1 hh).1, fun p hp => ⟨vals.getD p undef, ?_, RowV.of_own (Hrs.out p hp) (rowN_length _ _ _ _ _)⟩⟩
                  have hb : Blk wo g cur 49 := hh
                  rw [hb.cell]
                  have h6 : (cur.toList.take ((q + 1) * 1))[p]? = some (vals.getD p undef) := by
                    rw [htk, List.getD_eq_getElem?_getD, List.getElem?_eq_getElem (by rw [Hvl.out]; omega)]
                    rfl
                  rw [List.getElem?_take_of_lt (by omega)] at h6
                  simpa using h6)
              go_wp2_with fail
              go_ret
              exact ⟨_, rfl, HB.out, HRV.out⟩
end Go.Proofs.YtpinamdgbijjlaaGreatDoor
namespace Go.Proofs.YtpinamdgbijjlaaGreatDoor
set_option maxRecDepth 100000
open Go.ChangeShapes Go.WideShapes Go.ChangeAt Go.RowKit
theorem sib_lt {n leaf k : Nat} (h : leaf < 2 ^ n) (hk : k < n) : sibN leaf k < 2 ^ (n - k) := by
  have h1 : leaf / 2 ^ k < 2 ^ (n - k) := Nat.div_lt_of_lt_mul (by rw [← Nat.pow_add, show k + (n - k) = n by omega]; exact h)
  have h2 : 2 ^ (n - k) = 2 * 2 ^ (n - (k + 1)) := by rw [show n - k = (n - (k + 1)) + 1 by omega, Nat.pow_succ]; omega
  unfold sibN
  rw [h2] at h1 ⊢
  generalize leaf / 2 ^ k = q at *
  generalize 2 ^ (n - (k + 1)) = m at *
  split <;> omega
theorem leaf_lt {n leaf : Nat} (h : rightZ n leaf = true) : leaf < 2 ^ n := by
  simp only [rightZ, decide_eq_true_eq] at h
  rcases (show n = 1 ∨ n = 2 ∨ n = 3 ∨ n = 4 by omega) with rfl | rfl | rfl | rfl <;> simp at h ⊢ <;> omega
theorem wayZ_succ (pub ad : List Int) (lf : Nat → List Int) (leaf k : Nat) : wayZ pub ad lf leaf (k + 1) = wayZ pub ad lf leaf k ++ [nodeZ pub ad lf k (sibN leaf k)] := by
  unfold wayZ
  rw [List.range_succ, List.map_append]
  rfl
theorem wayZ_length (pub ad : List Int) (lf : Nat → List Int) (leaf k : Nat) : (wayZ pub ad lf leaf k).length = k := by simp [wayZ]
theorem OwnD.but {w w' : World} {base b : Nat} {e : TypeId} {v : Value} {ds : List (List Int)} (h : OwnD w base e v ds) (hb : But b w w') (hl : b < base) : OwnD w' base e v ds := ⟨own_but h.row hb (fun e => by have := (h.lt _ e).1; omega), h.each⟩
set_option maxHeartbeats 4000000 in
theorem refway_any (pub ad : List Int) (lf : Nat → List Int) (n leaf g cap : Nat) (w : World) (hv : n + 1 ≤ cap ∧ g < w.heap.size ∧ ∀ j, j ≤ n → ∃ u, w.cell? ⟨g, j, none⟩ = some u ∧ RowV (2 ^ (n - j)) (rowN pub ad lf j (2 ^ (n - j))) u w) (hDg : ∀ k j, Dg (nodeZ pub ad lf k j)) (hr : rightZ n leaf = true) :
    Calls Tryz.prog 76 #[.slice (some ⟨g, 0, none⟩) (n + 1) cap, .int .i64 (leaf : Int)] w fun e w' => ∃ v, e = .returned v ∧ Below w.heap.size w w' ∧ OwnD w' w.heap.size 25 v (wayZ pub ad lf leaf n) := by
  obtain ⟨h41, h42, h43⟩ := hv
  have Hrows := hid h43
  have hlf := leaf_lt hr
  have hr2 := hr
  simp only [rightZ, decide_eq_true_eq] at hr2
  have hn4 : n ≤ 4 := by omega
  have hl16 : leaf < 16 := Nat.lt_of_lt_of_le hlf (Nat.le_trans (Nat.pow_le_pow_right (by omega) hn4) (by omega))
  have HD := hid hDg
  clear hr2 hr h43 hDg
  go_enter Tryz.func76, Tryz.ntmps76
  go_wp2_with fail
  have HO0 := hid (OwnD.nil w (w.heap.size) 25)
  go_loopw [1, 5, 6] (fun iv ov kv wr => ∃ k q : Nat, k ≤ n ∧ q = leaf / 2 ^ k ∧ iv = .int .i64 (q : Int) ∧ kv = .int .i64 k ∧ OwnD wr (w.heap.size) 25 ov (wayZ pub ad lf leaf k) ∧ Below w.heap.size w wr) (fun _ _ kv _ => n - (intOf kv).toNat)
  case atStart => exact ⟨0, leaf, Nat.zero_le _, by simp, rfl, rfl, HO0.out, Below.refl _ _⟩
  case round =>
    obtain ⟨k, q, hk, hq, rfl, rfl, ho, bel⟩ := hrel
    have HO := hid ho
    have HB := hid bel
    have hsw := bel.size
    have hq16 : q < 16 := by rw [hq]; exact Nat.lt_of_le_of_lt (Nat.div_le_self _ _) hl16
    have Hq := hid hq
    clear ho bel HO0 hq
    by_cases hlt : k < n
    · have hc0 : (k : Int) < n := by omega
      obtain ⟨i0, hi, hz0, hz1, hz2⟩ := info_parts info_dig
      obtain ⟨u, hu, ra, rc, rfl, hdg⟩ := Hrows.out k (by omega)
      have hcu : wr.cell? ⟨g, k, none⟩ = some (.slice ra (2 ^ (n - k)) rc) := (HB.out.cell h42).trans hu
      have hsl := sib_lt hlf hlt
      have hdw := hdg.below HB.out
      have hle := hdw.le
      have hmx := hdw.max
      obtain ⟨xs, xo, rfl, hxs, hcell⟩ := hdw.at_ (by omega)
      have HS := hid (wayZ_succ pub ad lf leaf k)
      have HX := hid (HD.out k (sibN leaf k))
      have HLl := hid (wayZ_length pub ad lf leaf k)
      generalize hm : 2 ^ (n - k) = m at *
      clear hdg hdw hu hm
      by_cases hodd : q % 2 = 1
      · skip
        have hq1 : (q : Int) % 2 = 1 := by omega
        have hsb : sibN leaf k = q - 1 := by
          unfold sibN
          rw [← Hq.out]
          rw [if_neg (by omega)]
        rw [hsb] at hsl HS HX
        have Hc := hid (hcell (q - 1) hsl)
        rw [rowN_get _ _ _ _ _ _ hsl] at Hc
        clear hcell hsb
        generalize nodeZ pub ad lf k (q - 1) = X at *
        have HOa := hid (HO.out.below ((Below.refl wr.heap.size wr).alloc (Nat.le_refl _) (.cells (X.map (Value.int .u8)).toArray 25 (0, 0))))
        have HKa := hid (Blk.new (w := wr) rfl (X.map (Value.int .u8)).toArray 25)
        have HBa := hid (HB.out.alloc HB.out.size (.cells (X.map (Value.int .u8)).toArray 25 (0, 0)))
        go_wp2_with (first
         | (refine wpList_index_digs rfl 49 _ _ rfl Tryz.underlying49 size_digest xs xo m rc rfl _ _ rfl (q - 1) (by omega) hsl ?_)
         | (refine wpList_load_mid rfl 25 _ rfl xs (xo + (q - 1) * 32) rfl _ _ Hc.out Tryz.underlying25 rfl (by rw [List.length_map, HX.out.len]; exact size_digest) ?_)
         | (refine wpList_build_one rfl _ rfl rfl HX.out ?_)
         | (
          at_builtin
          refine wpList_append_dig rfl _ _ rfl Tryz.underlying49 hi hz0 zD_cells32 hz1 hz2 rfl HOa.out rfl HKa.out HX.out (by rw [HLl.out]; omega) (by rw [World.size_alloc]; omega) ?_
          intro v5 w5 own5 hg5 b5
          have Ho5 := hid own5
          have HB5 := hid (HBa.out.trans (b5.mono (by omega)))
          clear own5 hg5 b5))
        exact ⟨⟨k + 1, q / 2, by omega, by rw [Hq.out, Nat.div_div_eq_div_mul, ← Nat.pow_succ], by go_num, by go_num, by rw [HS.out]; exact Ho5.out, HB5.out⟩, by simp [intOf]; omega⟩
      · skip
        have hq1 : ¬ ((q : Int) % 2 = 1) := by omega
        have hsb : sibN leaf k = q + 1 := by
          unfold sibN
          rw [← Hq.out]
          rw [if_pos (by omega)]
        rw [hsb] at hsl HS HX
        have Hc := hid (hcell (q + 1) hsl)
        rw [rowN_get _ _ _ _ _ _ hsl] at Hc
        clear hcell hsb
        generalize nodeZ pub ad lf k (q + 1) = X at *
        have HOa := hid (HO.out.below ((Below.refl wr.heap.size wr).alloc (Nat.le_refl _) (.cells (X.map (Value.int .u8)).toArray 25 (0, 0))))
        have HKa := hid (Blk.new (w := wr) rfl (X.map (Value.int .u8)).toArray 25)
        have HBa := hid (HB.out.alloc HB.out.size (.cells (X.map (Value.int .u8)).toArray 25 (0, 0)))
        go_wp2_with (first
         | (refine wpList_index_digs rfl 49 _ _ rfl Tryz.underlying49 size_digest xs xo m rc rfl _ _ rfl (q + 1) (by omega) hsl ?_)
         | (refine wpList_load_mid rfl 25 _ rfl xs (xo + (q + 1) * 32) rfl _ _ Hc.out Tryz.underlying25 rfl (by rw [List.length_map, HX.out.len]; exact size_digest) ?_)
         | (refine wpList_build_one rfl _ rfl rfl HX.out ?_)
         | (
          at_builtin
          refine wpList_append_dig rfl _ _ rfl Tryz.underlying49 hi hz0 zD_cells32 hz1 hz2 rfl HOa.out rfl HKa.out HX.out (by rw [HLl.out]; omega) (by rw [World.size_alloc]; omega) ?_
          intro v5 w5 own5 hg5 b5
          have Ho5 := hid own5
          have HB5 := hid (HBa.out.trans (b5.mono (by omega)))
          clear own5 hg5 b5))
        exact ⟨⟨k + 1, q / 2, by omega, by rw [Hq.out, Nat.div_div_eq_div_mul, ← Nat.pow_succ], by go_num, by go_num, by rw [HS.out]; exact Ho5.out, HB5.out⟩, by simp [intOf]; omega⟩
    · obtain rfl : k = n := by omega
      have hc0 : ¬ ((k : Int) < k) := by omega
      go_wp2_with fail
      go_ret
      exact ⟨_, rfl, HB.out, HO.out⟩
set_option maxHeartbeats 4000000 in
theorem refbuild_any (seed prf pub : List Int) (la tr : Int) (n leaf : Nat) (w : World) (hseed : Dg seed) (hprf : Dg prf) (hpub : Dg pub) (hla : 0 ≤ la ∧ la < 4294967296) (htr : 0 ≤ tr ∧ tr < 18446744073709551616) (hr : rightZ n leaf = true) :
    Calls Tryz.prog 29 #[(.agg ((secL seed prf pub).map (Value.int .u8)).toArray), .int .u32 la, .int .u64 tr, .int .i64 n, .int .i64 leaf] w fun e w' => ∃ v, e = .returned (.tuple #[(.agg ((nodeZ pub (treeZ la tr) (fun j => leafZ seed pub la tr j) n 0).map (Value.int .u8)).toArray), v]) ∧ Below w.heap.size w w' ∧ RowV n (wayZ pub (treeZ la tr) (fun j => leafZ seed pub la tr j) leaf n) v w' := by
  have HAd := hid (Aw.tree hla htr)
  have hr2 := hr
  simp only [rightZ, decide_eq_true_eq] at hr2
  have hn4 : n ≤ 4 := by omega
  have b1 := (Below.refl w.heap.size w).alloc (Nat.le_refl _) (.cells ((secL seed prf pub).map (Value.int .u8)).toArray 40 (0, 0))
  have b2 := b1.alloc b1.size (.cells (byteCells 32 []) 25 (0, 0))
  have Ks := hid ((Blk.new (w := w) (n := w.heap.size) rfl ((secL seed prf pub).map (Value.int .u8)).toArray 40).old (.cells (byteCells 32 []) 25 (0, 0)))
  have Kr := hid (Blk.new (w := w.alloc (.cells ((secL seed prf pub).map (Value.int .u8)).toArray 40 (0, 0))) (n := w.heap.size + 1) (by simp only [World.size_alloc]) (byteCells 32 []) 25)
  have Hb := hid b2
  have HzA := hid zsize
  have Hss := hid (show ((secL seed prf pub).map (Value.int .u8)).toArray.size = 96 by rw [List.size_toArray, List.length_map, secL_length hseed hprf hpub])
  have CR := hid (fun W : World => refrows_any seed prf pub la tr n W hseed hprf hpub hla htr hn4)
  generalize hlf : (fun j : Nat => leafZ seed pub la tr (j : Int)) = lf at *
  have Hlf := hid (show ∀ j, Dg (lf j) by intro j; rw [← hlf]; exact Dg.leaf _ _ _ _ _)
  have HN := hid (fun k j => Dg.node pub (treeZ la tr) Hlf.out k j)
  have Hr := hid hr
  have HX := hid (HN.out n 0)
  have hxe := rowN_get pub (treeZ la tr) lf n 1 0 (by omega)
  have Hxe := hid hxe
  clear b1 b2 hlf hr2 hr hxe
  go_enter Tryz.func29, Tryz.ntmps29
  go_wp2_with (refine wpList_load_blk rfl 40 _ rfl (w.heap.size) rfl _ 40 Ks.out _ Tryz.underlying40 rfl 96 size_secret Hss.out ?_)
  refine (CR.out _).mono ?_
  rintro e w1 ⟨_, rfl, b1, g, cap, rfl, hcap, hg, hrows⟩
  have Kr1 := hid (Kr.out.below b1)
  have HB1 := hid (Below.on Hb.out b1)
  have hs1 : w.heap.size + 1 + 1 ≤ w1.heap.size := Nat.le_trans (by simp only [World.size_alloc]; omega) b1.size
  obtain ⟨u, hu, ra, rc, rfl, hdg⟩ := hrows n (Nat.le_refl _)
  rw [Nat.sub_self, Nat.pow_zero] at hdg hu
  have hle := hdg.le
  have hmx := hdg.max
  obtain ⟨xs, xo, rfl, hxs, hcell⟩ := hdg.at_ (by omega)
  have hc0 := hcell 0 (by omega)
  rw [Hxe.out] at hc0
  have Hc := hid hc0
  have Hu := hid hu
  have Hrows := hid hrows
  clear b1 hcell hc0 hu hrows hdg CR
  generalize hX : nodeZ pub (treeZ la tr) lf n 0 = X at *
  have HXe := hid hX
  clear hX
  go_wp2_with fail
  have Krw1 := Kr1
  refine wp_region_flow 9 [0, 1, 2, 3, 4, 5, 6, 7] [] [(.c 8, [], [])] (by kernel_rfl) (by kernel_rfl) ?_
  apply Exists.intro
  refine ⟨fun w0 hb0 hF0 => ?_, ?_⟩
  · skip
    have y0 : ∀ w', (∃ x : Ext w0, w' = x.at_) → w'.cell? ⟨g, n, none⟩ = some (.slice (some ⟨xs, xo, none⟩) 1 rc) := fun w' ⟨x, hx⟩ => by rw [hx]; exact (x.same.cell (Nat.lt_of_lt_of_le hg hb0.size)).trans ((hb0.cell hg).trans Hu.out)
    have x0 : ∀ w', (∃ x : Ext w0, w' = x.at_) → w'.rangeAt xs (xo + 0 * 32) (X.map (Value.int .u8)) := fun w' ⟨x, hx⟩ => hx ▸ rangeAt_below (rangeAt_below Hc.out hxs hb0) (Nat.lt_of_lt_of_le hxs hb0.size) x.same
    simp only [pick, List.getElem?_toArray, List.getElem?_cons_succ, List.getElem?_cons_zero, Option.toList_some, List.cons_append, List.nil_append]
    repeat (first | (go_big_quiet_want; refine quiet_load_one 49 _ rfl ⟨g, n, none⟩ rfl _ y0 _ Tryz.underlying49 rfl ?_; go_big_quiet_on; simp only [Act.put, List.setIfInBounds_toArray, List.set_cons_zero, List.set_cons_succ]) | (go_big_quiet_want; refine quiet_index_digs 49 _ _ rfl Tryz.underlying49 size_digest xs xo 1 rc rfl _ _ rfl 0 rfl (by omega) ?_; go_big_quiet_on; simp only [Act.put, List.setIfInBounds_toArray, List.set_cons_zero, List.set_cons_succ]) | (go_big_quiet_want; refine quiet_load_mid 25 _ rfl xs (xo + 0 * 32) rfl _ x0 _ Tryz.underlying25 rfl (by rw [List.length_map, HX.out.len]; exact size_digest) ?_; go_big_quiet_on; simp only [Act.put, List.setIfInBounds_toArray, List.set_cons_zero, List.set_cons_succ]) | go_big_quiet_step (fail))
    exact wpQuiet_nil rfl
  refine AlChk.nil ?_
  refine Walk.call rfl 76 #[.slice (some ⟨g, 0, none⟩) (n + 1) cap, .int .i64 (leaf : Int)] (fun v w' => OwnD w' (w.heap.size + 1 + 1) 25 v (wayZ pub (treeZ la tr) lf leaf n)) (fun v w' w'' h k => h.below k) rfl (fun w1 hb1 hF1 => ⟨by go_simp, ?_⟩) ?_
  · skip
    refine (refway_any pub (treeZ la tr) lf n leaf g cap w1 ⟨hcap, Nat.lt_of_lt_of_le hg hb1.size, fun j hj => by
      obtain ⟨u, q1, q2⟩ := Hrows.out j hj
      exact ⟨u, (hb1.cell hg).trans q1, q2.below hb1⟩⟩ HN.out Hr.out).mono ?_
    rintro e w2 ⟨v, rfl, b2, o2⟩
    exact ⟨v, rfl, b2, o2.re (Nat.le_trans hs1 hb1.size)⟩
  rintro v0 w1 hb1 hF1 hfv
  apply Exists.intro
  refine ⟨fun w0 hb0 hF0 => ?_, ?_⟩
  · skip
    exact wpQuiet_nil rfl
  refine AlChk.nil ?_
  refine Walk.fin fun w2 hw2 hFw2 _ => ?_
  simp only [List.drop_succ_cons, List.drop_zero]
  have HFw2 := hid hFw2
  have HBw2 := hid (Below.on HB1.out hw2)
  have hsw2 := HBw2.out.size
  have Krw2 := hid (Krw1.out.below hw2)
  clear hw2 hFw2
  have HV := hid (show OwnD w2 (w.heap.size + 1 + 1) 25 v0 (wayZ pub (treeZ la tr) lf leaf n) from HFw2.out.2)
  go_wp2_with (
    refine wpList_store_blk rfl 25 _ _ rfl (w.heap.size + 1) (X.map (Value.int .u8)).toArray rfl rfl _ 25 Krw2.out 32 size_digest HzA.out HX.out.size (ints_one _ _) ?_
    intro w9 hb9 hk9
    have HB9 := hid (hb9.below HBw2.out HBw2.out.size (by omega))
    have HK9 := hid hk9
    have H9 := hid hb9
    clear hb9 hk9)
  exact bodyPost_ret (v := .tuple #[(.agg (X.map (Value.int .u8)).toArray), v0]) (results_blk_tmp Tryz.results29 _ (w.heap.size + 1) rfl _ rfl _ 25 HK9.out _ Tryz.underlying25 rfl 32 size_digest HX.out.size) rfl ⟨v0, by rw [HXe.out], HB9.out, RowV.of_own (HV.out.but H9.out (by omega)) (wayZ_length _ _ _ _ _)⟩
end Go.Proofs.YtpinamdgbijjlaaGreatDoor
namespace Go.Proofs.YtpinamdgbijjlaaGreatDoor
set_option maxRecDepth 100000
open Go.ChangeShapes Go.WideShapes Go.ChangeAt Go.RowKit
theorem build_v (seed prf pub : List Int) (la tr : Int) (n leaf : Nat) (W : World) (hseed : Dg seed) (hprf : Dg prf) (hpub : Dg pub) (hla : 0 ≤ la ∧ la < 4294967296) (htr : 0 ≤ tr ∧ tr < 18446744073709551616) (hr : rightZ n leaf = true) (tab : ShaTab W) :
    Calls Tryz.prog 74 #[.agg ((secL seed prf pub).map (Value.int .u8)).toArray, .int .u32 la, .int .u64 tr, .int .i64 n, .int .i64 leaf] W fun e w' => ∃ v, e = .returned (.tuple #[.agg ((nodeZ pub (treeZ la tr) (fun j => leafZ seed pub la tr j) n 0).map (Value.int .u8)).toArray, v, .int .i64 0]) ∧ Below W.heap.size W w' ∧ RowV n (wayZ pub (treeZ la tr) (fun j => leafZ seed pub la tr j) leaf n) v w' :=
  (build_good seed prf pub la tr n leaf W hseed hprf hpub hla htr hr tab).mono fun _ _ ⟨_, h1, h2, h3⟩ => ⟨_, h1, h2, RowV.of_blk h3 (fun d hd => by
    obtain ⟨_, _, rfl⟩ := List.mem_map.1 hd
    exact Dg.node pub _ (fun j => Dg.leaf _ _ _ _ _) _ _) n (wayZ_length _ _ _ _ _) (by
      simp only [rightZ, decide_eq_true_eq] at hr
      omega)⟩
end Go.Proofs.YtpinamdgbijjlaaGreatDoor
namespace Go.Proofs.YtpinamdgbijjlaaGreatDoor
set_option maxRecDepth 100000
open Go.ChangeShapes Go.WideShapes Go.ChangeAt Go.RowKit
/-- Is a shape right? -/
def rightS (L V : Int) : Bool := decide (1 ≤ L ∧ L ≤ 4 ∧ 1 ≤ V ∧ V ≤ 4)
def shC (L V : Int) : Array Value := #[.int .i64 L, .int .i64 V]
theorem size_shape : (Tryz.prog.info? 23).map (·.size) = some 2 := by kernel_rfl
set_option maxHeartbeats 4000000 in
theorem hright_any (L V : Int) (w : World) : Calls Tryz.prog 18 #[.agg (shC L V)] w fun e w' => e = .returned (.bool (rightS L V)) ∧ Below w.heap.size w w' := by
  unfold shC
  by_cases h1 : 1 ≤ L
  · by_cases h2 : L ≤ 4
    · by_cases h3 : 1 ≤ V
      · by_cases h4 : V ≤ 4
        · go_enter Tryz.func18, Tryz.ntmps18
          go_wp2
          go_returns
          exact ⟨by simp [rightS, *] <;> omega, by go_grown⟩
        · have h4b : 4 < V := by omega
          go_enter Tryz.func18, Tryz.ntmps18
          go_wp2
          go_returns
          exact ⟨by simp [rightS, *] <;> omega, by go_grown⟩
      · have h3b : V < 1 := by omega
        go_enter Tryz.func18, Tryz.ntmps18
        go_wp2
        go_returns
        exact ⟨by simp [rightS, *] <;> omega, by go_grown⟩
    · have h2b : 4 < L := by omega
      go_enter Tryz.func18, Tryz.ntmps18
      go_wp2
      go_returns
      exact ⟨by simp [rightS, *] <;> omega, by go_grown⟩
  · have h1b : L < 1 := by omega
    go_enter Tryz.func18, Tryz.ntmps18
    go_wp2
    go_returns
    exact ⟨by simp [rightS, *] <;> omega, by go_grown⟩
set_option maxHeartbeats 4000000 in
theorem refright_any (L V : Int) (w : World) : Calls Tryz.prog 13 #[.agg (shC L V)] w fun e w' => e = .returned (.bool (rightS L V)) ∧ Below w.heap.size w w' := by
  unfold shC
  by_cases h1 : 1 ≤ L
  · by_cases h2 : L ≤ 4
    · by_cases h3 : 1 ≤ V
      · by_cases h4 : V ≤ 4
        · go_enter Tryz.func13, Tryz.ntmps13
          go_wp2
          go_returns
          exact ⟨by simp [rightS, *] <;> omega, by go_grown⟩
        · have h4b : 4 < V := by omega
          go_enter Tryz.func13, Tryz.ntmps13
          go_wp2
          go_returns
          exact ⟨by simp [rightS, *] <;> omega, by go_grown⟩
      · have h3b : V < 1 := by omega
        go_enter Tryz.func13, Tryz.ntmps13
        go_wp2
        go_returns
        exact ⟨by simp [rightS, *] <;> omega, by go_grown⟩
    · have h2b : 4 < L := by omega
      go_enter Tryz.func13, Tryz.ntmps13
      go_wp2
      go_returns
      exact ⟨by simp [rightS, *] <;> omega, by go_grown⟩
  · have h1b : L < 1 := by omega
    go_enter Tryz.func13, Tryz.ntmps13
    go_wp2
    go_returns
    exact ⟨by simp [rightS, *] <;> omega, by go_grown⟩
set_option maxHeartbeats 4000000 in
theorem power_any (n : Nat) (hn : n ≤ 40) (w : World) : Calls Tryz.prog 30 #[.int .i64 (n : Int)] w fun e w' => e = .returned (.int .i64 ((2 ^ n : Nat) : Int)) ∧ Below w.heap.size w w' := by
  go_enter Tryz.func30, Tryz.ntmps30
  go_wp2_with fail
  go_loopw [3, 4] (fun mv iv wr => ∃ k p : Nat, k ≤ n ∧ p = 2 ^ k ∧ mv = .int .i64 (p : Int) ∧ iv = .int .i64 k ∧ Below w.heap.size w wr) (fun _ iv _ => n - (intOf iv).toNat)
  case atStart => exact ⟨0, 1, Nat.zero_le _, rfl, rfl, rfl, Below.refl _ _⟩
  case round =>
    obtain ⟨k, p, hk, hp, rfl, rfl, bel⟩ := hrel
    have hp40 : p ≤ 1099511627776 := by
      rw [hp]
      exact Nat.le_trans (Nat.pow_le_pow_right (by omega) (show k ≤ 40 by omega)) (by decide)
    have Hp := hid hp
    clear hp
    by_cases hlt : k < n
    · have hc0 : (k : Int) < n := by omega
      go_wp2_with fail
      exact ⟨⟨k + 1, p * 2, by omega, by rw [Hp.out, Nat.pow_succ], by go_num, by go_num, bel⟩, by simp [intOf]; omega⟩
    · obtain rfl : k = n := by omega
      have hc0 : ¬ ((k : Int) < k) := by omega
      go_wp2_with fail
      go_returns
      exact ⟨by simp [Hp.out], bel⟩
/-- How many indices a shape has. -/
def manyS (L V : Int) : Int := if rightS L V = true then ((2 ^ (L * V).toNat : Nat) : Int) else 0
theorem manyS_bad {L V : Int} (h : rightS L V = false) : manyS L V = 0 := by simp [manyS, h]
theorem hright_b (L V : Int) (b : Bool) (hb : rightS L V = b) (w : World) : Calls Tryz.prog 18 #[.agg (shC L V)] w fun e w' => e = .returned (.bool b) ∧ Below w.heap.size w w' := by
  rw [← hb]; exact hright_any L V w
theorem refright_b (L V : Int) (b : Bool) (hb : rightS L V = b) (w : World) : Calls Tryz.prog 13 #[.agg (shC L V)] w fun e w' => e = .returned (.bool b) ∧ Below w.heap.size w w' := by
  rw [← hb]; exact refright_any L V w
theorem wrap_pow16 {n : Nat} (h : n ≤ 16) : wrap64 ((2 : Int) ^ n) = ((2 ^ n : Nat) : Int) := (by decide +kernel : ∀ i : Fin 17, wrap64 ((2 : Int) ^ i.val) = ((2 ^ i.val : Nat) : Int)) ⟨n, by omega⟩
set_option maxHeartbeats 4000000 in
theorem many_bad (L V : Int) (w : World) (hr : rightS L V = false) : Calls Tryz.prog 20 #[.agg (shC L V)] w fun e w' => e = .returned (.int .i64 (manyS L V)) ∧ Below w.heap.size w w' := by
  have b1 := (Below.refl w.heap.size w).alloc (Nat.le_refl _) (.cells (shC L V) 23 (0, 0))
  have Ksh := hid (Blk.new (w := w) (n := w.heap.size) rfl (shC L V) 23)
  have Hb := hid b1
  have Hsz2 := hid (show (shC L V).size = 2 from rfl)
  have c0 : (w.alloc (.cells (shC L V) 23 (0, 0))).cell? ⟨w.heap.size, 0, none⟩ = some (.int .i64 L) := by rw [Ksh.out.cell]; rfl
  have c1 : (w.alloc (.cells (shC L V) 23 (0, 0))).cell? ⟨w.heap.size, 1, none⟩ = some (.int .i64 V) := by rw [Ksh.out.cell]; rfl
  clear b1
  go_enter Tryz.func20, Tryz.ntmps20
  go_wp2_with (refine wpList_load_blk rfl 23 _ rfl (w.heap.size) rfl _ 23 Ksh.out _ Tryz.underlying23 rfl 2 size_shape Hsz2.out ?_)
  refine (hright_b L V false hr _).mono ?_
  rintro e w1 ⟨rfl, bw1⟩
  have HBw1 := hid (Below.on Hb.out bw1)
  have hsw1 := HBw1.out.size
  have Kshw1 := hid (Ksh.out.below bw1)
  clear bw1
  go_wp2_with fail
  go_returns
  exact ⟨by rw [manyS_bad hr]; rfl, HBw1.out⟩
set_option maxHeartbeats 4000000 in
theorem many_good (L V : Int) (w : World) (hr : rightS L V = true) : Calls Tryz.prog 20 #[.agg (shC L V)] w fun e w' => e = .returned (.int .i64 (manyS L V)) ∧ Below w.heap.size w w' := by
  have hr2 := hr
  simp only [rightS, decide_eq_true_eq] at hr2
  obtain ⟨n, hn⟩ : ∃ n : Nat, L * V = (n : Int) := ⟨(L * V).toNat, by have := Int.mul_nonneg (show 0 ≤ L by omega) (show 0 ≤ V by omega); omega⟩
  have hm16 : n ≤ 16 := by
    have h1 : L * V ≤ 4 * 4 := Int.mul_le_mul (by omega) (by omega) (by omega) (by omega)
    omega
  have hmz : manyS L V = ((2 ^ n : Nat) : Int) := by rw [manyS, if_pos hr, hn]; rfl
  rw [hmz]
  have b1 := (Below.refl w.heap.size w).alloc (Nat.le_refl _) (.cells (shC L V) 23 (0, 0))
  have Ksh := hid (Blk.new (w := w) (n := w.heap.size) rfl (shC L V) 23)
  have Hb := hid b1
  have Hsz2 := hid (show (shC L V).size = 2 from rfl)
  have c0 : (w.alloc (.cells (shC L V) 23 (0, 0))).cell? ⟨w.heap.size, 0, none⟩ = some (.int .i64 L) := by rw [Ksh.out.cell]; rfl
  have c1 : (w.alloc (.cells (shC L V) 23 (0, 0))).cell? ⟨w.heap.size, 1, none⟩ = some (.int .i64 V) := by rw [Ksh.out.cell]; rfl
  clear b1
  go_enter Tryz.func20, Tryz.ntmps20
  go_wp2_with (refine wpList_load_blk rfl 23 _ rfl (w.heap.size) rfl _ 23 Ksh.out _ Tryz.underlying23 rfl 2 size_shape Hsz2.out ?_)
  refine (hright_b L V true hr _).mono ?_
  rintro e w1 ⟨rfl, bw1⟩
  have HBw1 := hid (Below.on Hb.out bw1)
  have hsw1 := HBw1.out.size
  have Kshw1 := hid (Ksh.out.below bw1)
  clear bw1
  have d0 : w1.cell? ⟨w.heap.size, 0, none⟩ = some (.int .i64 L) := by rw [Kshw1.out.cell]; rfl
  have d1 : w1.cell? ⟨w.heap.size, 1, none⟩ = some (.int .i64 V) := by rw [Kshw1.out.cell]; rfl
  have hw := wrap_pow16 hm16
  go_wp2_with fail
  go_returns
  exact ⟨by simp [hw], HBw1.out⟩
theorem many_any (L V : Int) (w : World) : Calls Tryz.prog 20 #[.agg (shC L V)] w fun e w' => e = .returned (.int .i64 (manyS L V)) ∧ Below w.heap.size w w' := by
  cases hr : rightS L V with
  | false => exact many_bad L V w hr
  | true => exact many_good L V w hr
end Go.Proofs.YtpinamdgbijjlaaGreatDoor
namespace Go.Proofs.YtpinamdgbijjlaaGreatDoor
set_option maxRecDepth 100000
open Go.ChangeShapes Go.WideShapes Go.ChangeAt Go.RowKit
/-- A key's cells. -/
def pubC (L V : Int) (root pub : List Int) : List Value := .int .i64 L :: .int .i64 V :: (root.map (Value.int .u8) ++ pub.map (Value.int .u8))
theorem pubC_length {L V : Int} {root pub : List Int} (h1 : Dg root) (h2 : Dg pub) : (pubC L V root pub).length = 66 := by simp [pubC, h1.len, h2.len]
theorem pubC_size {L V : Int} {root pub : List Int} (h1 : Dg root) (h2 : Dg pub) : (pubC L V root pub).toArray.size = 66 := by rw [List.size_toArray, pubC_length h1 h2]
theorem pubC_ones (L V : Int) (root pub : List Int) : (pubC L V root pub).toArray.all (·.oneCell') = true := all_oneCell_toArray fun u hu => by
  simp only [pubC, List.mem_cons, List.mem_append, List.mem_map] at hu
  rcases hu with rfl | rfl | ⟨_, _, rfl⟩ | ⟨_, _, rfl⟩ <;> rfl
/-- A signature's cells. -/
def sigC (i : Int) (r : List Int) (pv : Value) : List Value := .int .i64 i :: (r.map (Value.int .u8) ++ [pv])
theorem size_public : (Tryz.prog.info? 43).map (·.size) = some 66 := by kernel_rfl
theorem size_sig : (Tryz.prog.info? 61).map (·.size) = some 34 := by kernel_rfl
def zPub : List Value := pubC 0 0 zD zD
def zSig : List Value := sigC 0 zD (.slice none 0 0)
theorem build_pub (L V : Int) (root pub : List Int) (h1 : Dg root) (h2 : Dg pub) (w : World) : (Instr.build 43 #[(0, .agg (shC L V)), (1, .agg (root.map (Value.int .u8)).toArray), (2, .agg (pub.map (Value.int .u8)).toArray)]).run Tryz.prog w = .ok (.agg (pubC L V root pub).toArray) w := by
  refine run_build w _ _ _ ?_
  obtain ⟨i0, hi, hz0⟩ := Option.map_eq_some_iff.1 (show (Tryz.prog.info? 43).map (·.zero) = some (some (.agg zPub.toArray)) by kernel_rfl)
  obtain ⟨fields, hu, hq⟩ : ∃ fields, Tryz.prog.underlying 43 = some (.struct fields) ∧ fields.toList.mapM (fun f => (Tryz.prog.info? f.type).map fun i => (f.offset, i.size)) = some [(0, 2), (2, 32), (34, 32)] := ⟨_, Tryz.underlying43, by kernel_rfl⟩
  have hz : (Value.agg zPub.toArray).cells = zPub.toArray := rfl
  unfold Program.built
  simp only [hi, hu, hz0, hq, hz]
  have hs0 : (Value.agg (shC L V)).cells.size = 2 := rfl
  have hs1 : (Value.agg (root.map (Value.int .u8)).toArray).cells.size = 32 := h1.size
  have hs2 : (Value.agg (pub.map (Value.int .u8)).toArray).cells.size = 32 := h2.size
  have t0 : splice zPub.toArray.toList 0 (Value.agg (shC L V)).cells.toList = pubC L V zD zD := rfl
  have t1 : splice (pubC L V zD zD) 2 (Value.agg (root.map (Value.int .u8)).toArray).cells.toList = pubC L V root zD := by
    show splice (pubC L V zD zD) 2 (root.map (Value.int .u8)) = _
    unfold splice
    rw [List.length_map, h1.len]
    rfl
  have t2 : splice (pubC L V root zD) 34 (Value.agg (pub.map (Value.int .u8)).toArray).cells.toList = pubC L V root pub := by
    show splice (Value.int .i64 L :: Value.int .i64 V :: (root.map (Value.int .u8) ++ zD.map (Value.int .u8))) 34 (pub.map (Value.int .u8)) = _
    unfold splice
    rw [List.take_succ_cons, List.take_succ_cons, List.take_append_of_le_length (by rw [List.length_map, h1.len]; omega), List.take_of_length_le (by rw [List.length_map, h1.len]; omega), List.length_map, h2.len, List.drop_eq_nil_of_le (by simp [h1.len, zD])]
    simp [pubC]
  rw [fill_part _ _ 0 0 _ _ (by rw [hs0]; rfl) (by rw [hs0]; decide), t0]
  rw [fill_part _ _ 1 2 _ _ (by rw [hs1]; rfl) (by rw [hs1, pubC_size Dg.zero Dg.zero]; omega), List.toList_toArray, t1]
  rw [fill_part _ _ 2 34 _ _ (by rw [hs2]; rfl) (by rw [hs2, pubC_size h1 Dg.zero]; omega), List.toList_toArray, t2, Instr.fill]
theorem equalIn_dig (d : Nat) (xs : List Int) (h : Dg xs) (w : World) : (Op.equalIn (d + 2) 25 (.agg (xs.map (Value.int .u8)).toArray) (.agg (xs.map (Value.int .u8)).toArray)).run Tryz.prog w = .ok true w := by
  obtain ⟨i0, hi⟩ : ∃ i, Tryz.prog.info? 5 = some i := Option.isSome_iff_exists.1 (by kernel_rfl)
  rw [run_equalIn_array w (d + 1) _ _ Tryz.underlying25 hi, run_eqItems_ints d Tryz.underlying5 (by kernel_rfl) xs xs rfl w _ (by simp [h.len])]
  simp
theorem part_dig (cs : Array Value) (xs : List Int) (o : Nat) (w : World) (h : cs.extract o (o + 32) = (xs.map (Value.int .u8)).toArray) : (part 25 cs o).run Tryz.prog w = .ok (.agg (xs.map (Value.int .u8)).toArray) w := by
  obtain ⟨i0, hi, hs⟩ := Option.map_eq_some_iff.1 size_digest
  have hagg : (isAgg 25).run Tryz.prog w = .ok true w := by
    unfold isAgg
    simp only [Sem.run_bind, run_underlying Tryz.underlying25, Result.andThen_ok]
    rfl
  unfold part
  simp [Sem.run_bind, hagg, sizeOf, typeInfo, hi, hs, h]
theorem part_int (cs : Array Value) (o : Nat) (v : Value) (w : World) (h : cs[o]? = some v) : (part 3 cs o).run Tryz.prog w = .ok v w := by
  have hagg : (isAgg 3).run Tryz.prog w = .ok false w := by
    unfold isAgg
    simp only [Sem.run_bind, run_underlying Tryz.underlying3, Result.andThen_ok]
    rfl
  unfold part
  simp [Sem.run_bind, hagg, h]
theorem equalIn_shape (d : Nat) (L V : Int) (w : World) : (Op.equalIn (d + 2) 23 (.agg (shC L V)) (.agg (shC L V))).run Tryz.prog w = .ok true w := by
  obtain ⟨f0, f1, hu, t0, t1, o0, o1, n0, n1⟩ : ∃ f0 f1 : Field, Tryz.prog.underlying 23 = some (.struct #[f0, f1]) ∧ f0.type = 3 ∧ f1.type = 3 ∧ f0.offset = 0 ∧ f1.offset = 1 ∧ f0.name ≠ "_" ∧ f1.name ≠ "_" := ⟨_, _, Tryz.underlying23, rfl, rfl, rfl, rfl, by decide, by decide⟩
  have hf : Tryz.prog.fieldsOf 23 = #[f0, f1] := by unfold Program.fieldsOf; rw [hu]
  rw [run_equalIn_struct w (d + 1) 23 _ _ (by rw [hf]; exact hu) (by kernel_rfl), hf]
  simp only [Op.eqFields, n0, n1, t0, t1, o0, o1, ne_eq, not_false_eq_true, if_true, Sem.run_bind, part_int (shC L V) 0 (.int .i64 L) w rfl, part_int (shC L V) 1 (.int .i64 V) w rfl, Result.andThen_ok, run_equalIn_int w d 3 .i64 .i64 _ _ Tryz.underlying3, beq_self_eq_true, Bool.not_true, Bool.false_eq_true, if_false, Sem.run_pure]
theorem pubC_e1 {L V : Int} {root pub : List Int} (h1 : Dg root) : (pubC L V root pub).toArray.extract 2 (2 + 32) = (root.map (Value.int .u8)).toArray := by
  rw [List.extract_toArray, List.extract_eq_take_drop]
  unfold pubC
  rw [List.drop_succ_cons, List.drop_succ_cons, List.drop_zero, Nat.add_sub_cancel_left, List.take_append_of_le_length (by rw [List.length_map, h1.len]; omega), List.take_of_length_le (by rw [List.length_map, h1.len]; omega)]
theorem pubC_e2 {L V : Int} {root pub : List Int} (h1 : Dg root) (h2 : Dg pub) : (pubC L V root pub).toArray.extract 34 (34 + 32) = (pub.map (Value.int .u8)).toArray := by
  rw [List.extract_toArray, List.extract_eq_take_drop]
  unfold pubC
  rw [List.drop_succ_cons, List.drop_succ_cons, Nat.add_sub_cancel_left, List.drop_append, List.length_map, h1.len, List.drop_eq_nil_of_le (by rw [List.length_map, h1.len]; omega), List.nil_append, Nat.sub_self, List.drop_zero, List.take_of_length_le (by rw [List.length_map, h2.len]; omega)]
theorem pubC_e0 (L V : Int) (root pub : List Int) : (pubC L V root pub).toArray.extract 0 (0 + 2) = shC L V := by
  rw [List.extract_toArray, List.extract_eq_take_drop]
  unfold pubC
  rw [List.drop_zero, Nat.zero_add, Nat.sub_zero, List.take_succ_cons, List.take_succ_cons, List.take_zero]
  rfl
theorem part_shape (cs : Array Value) (L V : Int) (o : Nat) (w : World) (h : cs.extract o (o + 2) = shC L V) : (part 23 cs o).run Tryz.prog w = .ok (.agg (shC L V)) w := by
  obtain ⟨i0, hi, hs⟩ := Option.map_eq_some_iff.1 size_shape
  have hagg : (isAgg 23).run Tryz.prog w = .ok true w := by
    unfold isAgg
    simp only [Sem.run_bind, run_underlying Tryz.underlying23, Result.andThen_ok]
    rfl
  unfold part
  simp [Sem.run_bind, hagg, sizeOf, typeInfo, hi, hs, h]
theorem eqFields_step {P : Program} {d : Nat} {cs : Array Value} {f : Field} {fs : List Field} {w : World} {u : Value} {T : TypeId} {o : Nat} (hn : f.name ≠ "_") (ht : f.type = T) (ho : f.offset = o) (hp : (part T cs o).run P w = .ok u w) (he : (Op.equalIn d T u u).run P w = .ok true w) (h : (Op.eqFields d cs cs fs).run P w = .ok true w) :
    (Op.eqFields d cs cs (f :: fs)).run P w = .ok true w := by
  subst ht ho
  unfold Op.eqFields
  simp only [hn, ne_eq, not_false_eq_true, if_true, Sem.run_bind, hp, he, Result.andThen_ok, Bool.not_true, Bool.false_eq_true, if_false, h]
theorem eqFields_nil {P : Program} {d : Nat} {cs : Array Value} {w : World} : (Op.eqFields d cs cs []).run P w = .ok true w := rfl
theorem equalIn_pub (d : Nat) (L V : Int) (root pub : List Int) (h1 : Dg root) (h2 : Dg pub) (w : World) : (Op.equalIn (d + 3) 43 (.agg (pubC L V root pub).toArray) (.agg (pubC L V root pub).toArray)).run Tryz.prog w = .ok true w := by
  obtain ⟨f0, f1, f2, hu, t0, t1, t2, o0, o1, o2, n0, n1, n2⟩ : ∃ f0 f1 f2 : Field, Tryz.prog.underlying 43 = some (.struct #[f0, f1, f2]) ∧ f0.type = 23 ∧ f1.type = 25 ∧ f2.type = 25 ∧ f0.offset = 0 ∧ f1.offset = 2 ∧ f2.offset = 34 ∧ f0.name ≠ "_" ∧ f1.name ≠ "_" ∧ f2.name ≠ "_" := ⟨_, _, _, Tryz.underlying43, rfl, rfl, rfl, rfl, rfl, rfl, by decide, by decide, by decide⟩
  have hf : Tryz.prog.fieldsOf 43 = #[f0, f1, f2] := by unfold Program.fieldsOf; rw [hu]
  have q0 := pubC_e0 L V root pub
  have q1 := pubC_e1 (L := L) (V := V) (pub := pub) h1
  have q2 := pubC_e2 (L := L) (V := V) h1 h2
  generalize (pubC L V root pub).toArray = cs at *
  rw [run_equalIn_struct w (d + 2) 43 _ _ (by rw [hf]; exact hu) (by kernel_rfl), hf]
  exact eqFields_step n0 t0 o0 (part_shape cs L V 0 w q0) (equalIn_shape d L V w) (eqFields_step n1 t1 o1 (part_dig cs root 2 w q1) (equalIn_dig d root h1 w) (eqFields_step n2 t2 o2 (part_dig cs pub 34 w q2) (equalIn_dig d pub h2 w) eqFields_nil))
theorem eq_pub_self (L V : Int) (root pub : List Int) (h1 : Dg root) (h2 : Dg pub) (w : World) : (binOp .eql 43 (.agg (pubC L V root pub).toArray) (.agg (pubC L V root pub).toArray)).run Tryz.prog w = .ok (.bool true) w := by
  have h := equalIn_pub 9997 L V root pub h1 h2 w
  rw [run_eql_struct, h]
  rfl
end Go.Proofs.YtpinamdgbijjlaaGreatDoor
namespace Go.Proofs.YtpinamdgbijjlaaGreatDoor
set_option maxRecDepth 100000
open Go.ChangeShapes Go.WideShapes Go.ChangeAt Go.RowKit
theorem zPub_size : zPub.toArray.size = 66 := by decide
theorem right_zero {n : Nat} (h1 : 1 ≤ n) (h4 : n ≤ 4) : rightZ n 0 = true := by
  simp only [rightZ, decide_eq_true_eq]
  rcases (show n = 1 ∨ n = 2 ∨ n = 3 ∨ n = 4 by omega) with rfl | rfl | rfl | rfl <;> simp
set_option maxHeartbeats 4000000 in
theorem small_1 (n : Nat) (m : Int) (r : Bool) (w : World) (hr : rightS 1 n = true) (hn : 1 ≤ n ∧ n ≤ 4) (hb : decide (1 * ((2 ^ n : Nat) : Int) ≤ m) = r) : Calls Tryz.prog 14 #[.agg (shC 1 n), .int .i64 m] w fun e w' => e = .returned (.bool r) ∧ Below w.heap.size w w' := by
  have hp16 : 2 ^ n ≤ 16 := by
    rcases (show n = 1 ∨ n = 2 ∨ n = 3 ∨ n = 4 by omega) with rfl | rfl | rfl | rfl <;> decide
  have CP := hid (fun W : World => power_any n (by omega) W)
  generalize 2 ^ n = p at *
  have hb2 : decide (1 * (p : Int) ≤ m) = r := hb
  have b1 := (Below.refl w.heap.size w).alloc (Nat.le_refl _) (.cells (shC 1 (n : Int)) 23 (0, 0))
  have Ksh := hid (Blk.new (w := w) (n := w.heap.size) rfl (shC 1 (n : Int)) 23)
  have Hb := hid b1
  clear b1
  go_enter Tryz.func14, Tryz.ntmps14
  go_wp2_with fail
  refine wp_region_flow 13 (List.range 13) [] [] (by kernel_rfl) (by kernel_rfl) ?_
  apply Exists.intro
  refine ⟨fun w0 hb0 hF0 => ?_, ?_⟩
  · skip
    have c0 := fun e : Ext w0 => refright_b 1 (n : Int) true hr e.at_
    have c1 := fun e : Ext w0 => CP.out e.at_
    have xs : ∀ w', (∃ x : Ext w0, w' = x.at_) → ∃ T, Blk w' (w.heap.size) (shC 1 (n : Int)) T := fun w' ⟨x, hx⟩ => ⟨_, hx ▸ (Ksh.out.below hb0).below x.same⟩
    have y0 : ∀ w', (∃ x : Ext w0, w' = x.at_) → w'.cell? ⟨w.heap.size, 0, none⟩ = some (.int .i64 1) := fun w' ⟨x, hx⟩ => by rw [hx, (((Ksh.out).below hb0).below x.same).cell]; rfl
    have y1 : ∀ w', (∃ x : Ext w0, w' = x.at_) → w'.cell? ⟨w.heap.size, 1, none⟩ = some (.int .i64 (n : Int)) := fun w' ⟨x, hx⟩ => by rw [hx, (((Ksh.out).below hb0).below x.same).cell]; rfl
    simp only [pick, List.range, List.range.loop, List.getElem?_toArray, List.getElem?_cons_succ, List.getElem?_cons_zero, Option.toList_some, List.cons_append, List.nil_append]
    repeat (first | (go_big_quiet_want; refine quiet_load_blk 23 _ rfl (w.heap.size) rfl _ xs _ Tryz.underlying23 rfl 2 size_shape rfl ?_; go_big_quiet_on; simp only [Act.put, List.setIfInBounds_toArray, List.set_cons_zero, List.set_cons_succ]) | (go_big_quiet_want; refine quiet_load_one 3 _ rfl ⟨w.heap.size, 0, none⟩ rfl _ y0 _ Tryz.underlying3 rfl ?_; go_big_quiet_on; simp only [Act.put, List.setIfInBounds_toArray, List.set_cons_zero, List.set_cons_succ]) | (go_big_quiet_want; refine quiet_load_one 3 _ rfl ⟨w.heap.size, 1, none⟩ rfl _ y1 _ Tryz.underlying3 rfl ?_; go_big_quiet_on; simp only [Act.put, List.setIfInBounds_toArray, List.set_cons_zero, List.set_cons_succ]) | go_big_quiet_step (first | (go_at_call 13; with_reducible exact Calls.ext (c0 _)) | (go_at_call 30; with_reducible exact Calls.ext (c1 _))))
    exact wpQuiet_nil rfl
  refine AlChk.nil ?_
  refine Walk.fin fun w1 hw1 _ _ => ?_
  simp only [List.drop_succ_cons, List.drop_zero]
  have HBw1 := hid (Below.on Hb.out hw1)
  have hsw1 := HBw1.out.size
  have Kshw1 := hid (Ksh.out.below hw1)
  clear hw1
  go_wp2_with fail
  go_returns
  exact ⟨by rw [← hb2, Int.one_mul]; rfl, HBw1.out⟩
set_option maxHeartbeats 4000000 in
theorem small_2 (n : Nat) (m : Int) (r : Bool) (w : World) (hr : rightS 2 n = true) (hn : 1 ≤ n ∧ n ≤ 4) (hb : decide (2 * ((2 ^ n : Nat) : Int) ≤ m) = r) : Calls Tryz.prog 14 #[.agg (shC 2 n), .int .i64 m] w fun e w' => e = .returned (.bool r) ∧ Below w.heap.size w w' := by
  have hp16 : 2 ^ n ≤ 16 := by
    rcases (show n = 1 ∨ n = 2 ∨ n = 3 ∨ n = 4 by omega) with rfl | rfl | rfl | rfl <;> decide
  have CP := hid (fun W : World => power_any n (by omega) W)
  generalize 2 ^ n = p at *
  have hb2 : decide (2 * (p : Int) ≤ m) = r := hb
  have b1 := (Below.refl w.heap.size w).alloc (Nat.le_refl _) (.cells (shC 2 (n : Int)) 23 (0, 0))
  have Ksh := hid (Blk.new (w := w) (n := w.heap.size) rfl (shC 2 (n : Int)) 23)
  have Hb := hid b1
  clear b1
  go_enter Tryz.func14, Tryz.ntmps14
  go_wp2_with fail
  refine wp_region_flow 13 (List.range 13) [] [] (by kernel_rfl) (by kernel_rfl) ?_
  apply Exists.intro
  refine ⟨fun w0 hb0 hF0 => ?_, ?_⟩
  · skip
    have c0 := fun e : Ext w0 => refright_b 2 (n : Int) true hr e.at_
    have c1 := fun e : Ext w0 => CP.out e.at_
    have xs : ∀ w', (∃ x : Ext w0, w' = x.at_) → ∃ T, Blk w' (w.heap.size) (shC 2 (n : Int)) T := fun w' ⟨x, hx⟩ => ⟨_, hx ▸ (Ksh.out.below hb0).below x.same⟩
    have y0 : ∀ w', (∃ x : Ext w0, w' = x.at_) → w'.cell? ⟨w.heap.size, 0, none⟩ = some (.int .i64 2) := fun w' ⟨x, hx⟩ => by rw [hx, (((Ksh.out).below hb0).below x.same).cell]; rfl
    have y1 : ∀ w', (∃ x : Ext w0, w' = x.at_) → w'.cell? ⟨w.heap.size, 1, none⟩ = some (.int .i64 (n : Int)) := fun w' ⟨x, hx⟩ => by rw [hx, (((Ksh.out).below hb0).below x.same).cell]; rfl
    simp only [pick, List.range, List.range.loop, List.getElem?_toArray, List.getElem?_cons_succ, List.getElem?_cons_zero, Option.toList_some, List.cons_append, List.nil_append]
    repeat (first | (go_big_quiet_want; refine quiet_load_blk 23 _ rfl (w.heap.size) rfl _ xs _ Tryz.underlying23 rfl 2 size_shape rfl ?_; go_big_quiet_on; simp only [Act.put, List.setIfInBounds_toArray, List.set_cons_zero, List.set_cons_succ]) | (go_big_quiet_want; refine quiet_load_one 3 _ rfl ⟨w.heap.size, 0, none⟩ rfl _ y0 _ Tryz.underlying3 rfl ?_; go_big_quiet_on; simp only [Act.put, List.setIfInBounds_toArray, List.set_cons_zero, List.set_cons_succ]) | (go_big_quiet_want; refine quiet_load_one 3 _ rfl ⟨w.heap.size, 1, none⟩ rfl _ y1 _ Tryz.underlying3 rfl ?_; go_big_quiet_on; simp only [Act.put, List.setIfInBounds_toArray, List.set_cons_zero, List.set_cons_succ]) | go_big_quiet_step (first | (go_at_call 13; with_reducible exact Calls.ext (c0 _)) | (go_at_call 30; with_reducible exact Calls.ext (c1 _))))
    exact wpQuiet_nil rfl
  refine AlChk.nil ?_
  refine Walk.fin fun w1 hw1 _ _ => ?_
  simp only [List.drop_succ_cons, List.drop_zero]
  have HBw1 := hid (Below.on Hb.out hw1)
  have hsw1 := HBw1.out.size
  have Kshw1 := hid (Ksh.out.below hw1)
  clear hw1
  go_wp2_with fail
  go_returns
  exact ⟨rfl, HBw1.out⟩
set_option maxHeartbeats 4000000 in
theorem small_3 (n : Nat) (m : Int) (r : Bool) (w : World) (hr : rightS 3 n = true) (hn : 1 ≤ n ∧ n ≤ 4) (hb : decide (3 * ((2 ^ n : Nat) : Int) ≤ m) = r) : Calls Tryz.prog 14 #[.agg (shC 3 n), .int .i64 m] w fun e w' => e = .returned (.bool r) ∧ Below w.heap.size w w' := by
  have hp16 : 2 ^ n ≤ 16 := by
    rcases (show n = 1 ∨ n = 2 ∨ n = 3 ∨ n = 4 by omega) with rfl | rfl | rfl | rfl <;> decide
  have CP := hid (fun W : World => power_any n (by omega) W)
  generalize 2 ^ n = p at *
  have hb2 : decide (3 * (p : Int) ≤ m) = r := hb
  have b1 := (Below.refl w.heap.size w).alloc (Nat.le_refl _) (.cells (shC 3 (n : Int)) 23 (0, 0))
  have Ksh := hid (Blk.new (w := w) (n := w.heap.size) rfl (shC 3 (n : Int)) 23)
  have Hb := hid b1
  clear b1
  go_enter Tryz.func14, Tryz.ntmps14
  go_wp2_with fail
  refine wp_region_flow 13 (List.range 13) [] [] (by kernel_rfl) (by kernel_rfl) ?_
  apply Exists.intro
  refine ⟨fun w0 hb0 hF0 => ?_, ?_⟩
  · skip
    have c0 := fun e : Ext w0 => refright_b 3 (n : Int) true hr e.at_
    have c1 := fun e : Ext w0 => CP.out e.at_
    have xs : ∀ w', (∃ x : Ext w0, w' = x.at_) → ∃ T, Blk w' (w.heap.size) (shC 3 (n : Int)) T := fun w' ⟨x, hx⟩ => ⟨_, hx ▸ (Ksh.out.below hb0).below x.same⟩
    have y0 : ∀ w', (∃ x : Ext w0, w' = x.at_) → w'.cell? ⟨w.heap.size, 0, none⟩ = some (.int .i64 3) := fun w' ⟨x, hx⟩ => by rw [hx, (((Ksh.out).below hb0).below x.same).cell]; rfl
    have y1 : ∀ w', (∃ x : Ext w0, w' = x.at_) → w'.cell? ⟨w.heap.size, 1, none⟩ = some (.int .i64 (n : Int)) := fun w' ⟨x, hx⟩ => by rw [hx, (((Ksh.out).below hb0).below x.same).cell]; rfl
    simp only [pick, List.range, List.range.loop, List.getElem?_toArray, List.getElem?_cons_succ, List.getElem?_cons_zero, Option.toList_some, List.cons_append, List.nil_append]
    repeat (first | (go_big_quiet_want; refine quiet_load_blk 23 _ rfl (w.heap.size) rfl _ xs _ Tryz.underlying23 rfl 2 size_shape rfl ?_; go_big_quiet_on; simp only [Act.put, List.setIfInBounds_toArray, List.set_cons_zero, List.set_cons_succ]) | (go_big_quiet_want; refine quiet_load_one 3 _ rfl ⟨w.heap.size, 0, none⟩ rfl _ y0 _ Tryz.underlying3 rfl ?_; go_big_quiet_on; simp only [Act.put, List.setIfInBounds_toArray, List.set_cons_zero, List.set_cons_succ]) | (go_big_quiet_want; refine quiet_load_one 3 _ rfl ⟨w.heap.size, 1, none⟩ rfl _ y1 _ Tryz.underlying3 rfl ?_; go_big_quiet_on; simp only [Act.put, List.setIfInBounds_toArray, List.set_cons_zero, List.set_cons_succ]) | go_big_quiet_step (first | (go_at_call 13; with_reducible exact Calls.ext (c0 _)) | (go_at_call 30; with_reducible exact Calls.ext (c1 _))))
    exact wpQuiet_nil rfl
  refine AlChk.nil ?_
  refine Walk.fin fun w1 hw1 _ _ => ?_
  simp only [List.drop_succ_cons, List.drop_zero]
  have HBw1 := hid (Below.on Hb.out hw1)
  have hsw1 := HBw1.out.size
  have Kshw1 := hid (Ksh.out.below hw1)
  clear hw1
  go_wp2_with fail
  go_returns
  exact ⟨rfl, HBw1.out⟩
set_option maxHeartbeats 4000000 in
theorem small_4 (n : Nat) (m : Int) (r : Bool) (w : World) (hr : rightS 4 n = true) (hn : 1 ≤ n ∧ n ≤ 4) (hb : decide (4 * ((2 ^ n : Nat) : Int) ≤ m) = r) : Calls Tryz.prog 14 #[.agg (shC 4 n), .int .i64 m] w fun e w' => e = .returned (.bool r) ∧ Below w.heap.size w w' := by
  have hp16 : 2 ^ n ≤ 16 := by
    rcases (show n = 1 ∨ n = 2 ∨ n = 3 ∨ n = 4 by omega) with rfl | rfl | rfl | rfl <;> decide
  have CP := hid (fun W : World => power_any n (by omega) W)
  generalize 2 ^ n = p at *
  have hb2 : decide (4 * (p : Int) ≤ m) = r := hb
  have b1 := (Below.refl w.heap.size w).alloc (Nat.le_refl _) (.cells (shC 4 (n : Int)) 23 (0, 0))
  have Ksh := hid (Blk.new (w := w) (n := w.heap.size) rfl (shC 4 (n : Int)) 23)
  have Hb := hid b1
  clear b1
  go_enter Tryz.func14, Tryz.ntmps14
  go_wp2_with fail
  refine wp_region_flow 13 (List.range 13) [] [] (by kernel_rfl) (by kernel_rfl) ?_
  apply Exists.intro
  refine ⟨fun w0 hb0 hF0 => ?_, ?_⟩
  · skip
    have c0 := fun e : Ext w0 => refright_b 4 (n : Int) true hr e.at_
    have c1 := fun e : Ext w0 => CP.out e.at_
    have xs : ∀ w', (∃ x : Ext w0, w' = x.at_) → ∃ T, Blk w' (w.heap.size) (shC 4 (n : Int)) T := fun w' ⟨x, hx⟩ => ⟨_, hx ▸ (Ksh.out.below hb0).below x.same⟩
    have y0 : ∀ w', (∃ x : Ext w0, w' = x.at_) → w'.cell? ⟨w.heap.size, 0, none⟩ = some (.int .i64 4) := fun w' ⟨x, hx⟩ => by rw [hx, (((Ksh.out).below hb0).below x.same).cell]; rfl
    have y1 : ∀ w', (∃ x : Ext w0, w' = x.at_) → w'.cell? ⟨w.heap.size, 1, none⟩ = some (.int .i64 (n : Int)) := fun w' ⟨x, hx⟩ => by rw [hx, (((Ksh.out).below hb0).below x.same).cell]; rfl
    simp only [pick, List.range, List.range.loop, List.getElem?_toArray, List.getElem?_cons_succ, List.getElem?_cons_zero, Option.toList_some, List.cons_append, List.nil_append]
    repeat (first | (go_big_quiet_want; refine quiet_load_blk 23 _ rfl (w.heap.size) rfl _ xs _ Tryz.underlying23 rfl 2 size_shape rfl ?_; go_big_quiet_on; simp only [Act.put, List.setIfInBounds_toArray, List.set_cons_zero, List.set_cons_succ]) | (go_big_quiet_want; refine quiet_load_one 3 _ rfl ⟨w.heap.size, 0, none⟩ rfl _ y0 _ Tryz.underlying3 rfl ?_; go_big_quiet_on; simp only [Act.put, List.setIfInBounds_toArray, List.set_cons_zero, List.set_cons_succ]) | (go_big_quiet_want; refine quiet_load_one 3 _ rfl ⟨w.heap.size, 1, none⟩ rfl _ y1 _ Tryz.underlying3 rfl ?_; go_big_quiet_on; simp only [Act.put, List.setIfInBounds_toArray, List.set_cons_zero, List.set_cons_succ]) | go_big_quiet_step (first | (go_at_call 13; with_reducible exact Calls.ext (c0 _)) | (go_at_call 30; with_reducible exact Calls.ext (c1 _))))
    exact wpQuiet_nil rfl
  refine AlChk.nil ?_
  refine Walk.fin fun w1 hw1 _ _ => ?_
  simp only [List.drop_succ_cons, List.drop_zero]
  have HBw1 := hid (Below.on Hb.out hw1)
  have hsw1 := HBw1.out.size
  have Kshw1 := hid (Ksh.out.below hw1)
  clear hw1
  go_wp2_with fail
  go_returns
  exact ⟨rfl, HBw1.out⟩
theorem small_good (L : Int) (n : Nat) (m : Int) (r : Bool) (w : World) (hr : rightS L n = true) (hb : decide (L * ((2 ^ n : Nat) : Int) ≤ m) = r) : Calls Tryz.prog 14 #[.agg (shC L n), .int .i64 m] w fun e w' => e = .returned (.bool r) ∧ Below w.heap.size w w' := by
  have hr2 := hr
  simp only [rightS, decide_eq_true_eq] at hr2
  rcases (show L = 1 ∨ L = 2 ∨ L = 3 ∨ L = 4 by omega) with rfl | rfl | rfl | rfl
  · exact small_1 n m r w hr (by omega) hb
  · exact small_2 n m r w hr (by omega) hb
  · exact small_3 n m r w hr (by omega) hb
  · exact small_4 n m r w hr (by omega) hb
set_option maxHeartbeats 4000000 in
theorem key_good (seed prf pub : List Int) (L : Int) (n : Nat) (w : World) (hr : rightS L n = true) (hseed : Dg seed) (hprf : Dg prf) (hpub : Dg pub) (tab : ShaTab w) : Calls Tryz.prog 28 #[.agg (shC L n), (.agg ((secL seed prf pub).map (Value.int .u8)).toArray)] w fun e w' => e = .returned (.tuple #[.agg (pubC L n (nodeZ pub (treeZ (L - 1) 0) (fun j => leafZ seed pub (L - 1) 0 j) n 0) pub).toArray, .int .i64 0]) ∧ Below w.heap.size w w' := by
  have Htab := hid tab
  clear tab
  have hr2 := hr
  simp only [rightS, decide_eq_true_eq] at hr2
  have Hss := hid (show ((secL seed prf pub).map (Value.int .u8)).toArray.size = 96 by rw [List.size_toArray, List.length_map, secL_length hseed hprf hpub])
  have HR := hid (Dg.node pub (treeZ (L - 1) 0) (fun j => Dg.leaf seed pub (L - 1) 0 (j : Int)) n 0)
  have CB := hid (fun (W : World) (t : ShaTab W) => build_v seed prf pub (L - 1) 0 n 0 W hseed hprf hpub (by omega) (by omega) (right_zero (by omega) (by omega)) t)
  generalize (nodeZ pub (treeZ (L - 1) 0) (fun j => leafZ seed pub (L - 1) 0 j) n 0) = R at *
  have hbp : ∀ W : World, _ := build_pub L n R pub HR.out hpub
  have b1 := (Below.refl w.heap.size w).alloc (Nat.le_refl _) (.cells (shC L (n : Int)) 23 (0, 0))
  have b2 := b1.alloc b1.size (.cells ((secL seed prf pub).map (Value.int .u8)).toArray 40 (0, 0))
  have b3 := b2.alloc b2.size (.cells zPub.toArray 43 (0, 0))
  have Ksh := hid (((Blk.new (w := w) (n := w.heap.size) rfl (shC L (n : Int)) 23).old (.cells ((secL seed prf pub).map (Value.int .u8)).toArray 40 (0, 0))).old (.cells zPub.toArray 43 (0, 0)))
  have Kse := hid ((Blk.new (w := w.alloc (.cells (shC L (n : Int)) 23 (0, 0))) (n := w.heap.size + 1) (by simp only [World.size_alloc]) ((secL seed prf pub).map (Value.int .u8)).toArray 40).old (.cells zPub.toArray 43 (0, 0)))
  have Kr := hid (Blk.new (w := (w.alloc (.cells (shC L (n : Int)) 23 (0, 0))).alloc (.cells ((secL seed prf pub).map (Value.int .u8)).toArray 40 (0, 0))) (n := w.heap.size + 1 + 1) (by simp only [World.size_alloc]) zPub.toArray 43)
  have Hb := hid b3
  have hs3 := b3.size
  have HzA := hid zsize
  clear b1 b2 b3
  go_enter Tryz.func28, Tryz.ntmps28
  go_wp2_with (refine wpList_load_blk rfl 23 _ rfl (w.heap.size) rfl _ 23 Ksh.out _ Tryz.underlying23 rfl 2 size_shape rfl ?_)
  refine (hright_b L n true hr _).mono ?_
  rintro e w1 ⟨rfl, bw1⟩
  have HBw1 := hid (Below.on Hb.out bw1)
  have hsw1 := HBw1.out.size
  have Kshw1 := hid (Ksh.out.below bw1)
  have Ksew1 := hid (Kse.out.below bw1)
  have Krw1 := hid (Kr.out.below bw1)
  clear bw1
  have d0 : w1.cell? ⟨w.heap.size, 0, none⟩ = some (.int .i64 L) := by rw [Kshw1.out.cell]; rfl
  have d1 : w1.cell? ⟨w.heap.size, 1, none⟩ = some (.int .i64 n) := by rw [Kshw1.out.cell]; rfl
  go_wp2_with (refine wpList_load_blk rfl 40 _ rfl (w.heap.size + 1) rfl _ 40 Ksew1.out _ Tryz.underlying40 rfl 96 size_secret Hss.out ?_)
  refine (CB.out _ (Htab.out.below HBw1.out)).mono ?_
  rintro e w40 ⟨_, rfl, bw40, _⟩
  have HBw40 := hid (Below.on HBw1.out bw40)
  have hsw40 := HBw40.out.size
  have Kshw40 := hid (Kshw1.out.below bw40)
  have Ksew40 := hid (Ksew1.out.below bw40)
  have Krw40 := hid (Krw1.out.below bw40)
  clear bw40
  go_wp2_with (first
     | (
        refine wpList_store_blk rfl 25 _ _ rfl (w40.heap.size) (R.map (Value.int .u8)).toArray rfl rfl _ 25 (Blk.new rfl (byteCells 32 []) _) 32 size_digest HzA.out HR.out.size (ints_one _ _) ?_
        intro w41 hbw41 hkw41
        have hw41 := hbw41.below ((Below.refl w40.heap.size w40).alloc (Nat.le_refl _) _) (by simp only [World.size_alloc]; omega) (Nat.le_refl _)
        have HBw41 := hid (Below.on HBw40.out hw41)
        have Kshw41 := hid (Kshw40.out.below hw41)
        have Ksew41 := hid (Ksew40.out.below hw41)
        have Krw41 := hid (Krw40.out.below hw41)
        have Kyw41 := hid hkw41
        clear hbw41 hkw41 hw41)
     | (refine wpList_load_blk rfl 23 _ rfl (w.heap.size) rfl _ 23 Kshw41.out _ Tryz.underlying23 rfl 2 size_shape rfl ?_)
     | (refine wpList_load_blk rfl 25 _ rfl (w40.heap.size) rfl _ 25 Kyw41.out _ Tryz.underlying25 rfl 32 size_digest HR.out.size ?_)
     | (refine wpList_load_mid rfl 25 _ rfl (w.heap.size + 1) 64 rfl _ _ (secL_pub hseed hprf Ksew41.out) Tryz.underlying25 rfl (by rw [List.length_map, hpub.len]; exact size_digest) ?_)
     | (refine wpList_buildv rfl 43 _ rfl [(0, .agg (shC L n)), (1, (.agg (R.map (Value.int .u8)).toArray)), (2, (.agg (pub.map (Value.int .u8)).toArray))] rfl _ hbp ?_)
     | (
      refine wpList_store_blk rfl 43 _ _ rfl (w.heap.size + 1 + 1) (pubC L n R pub).toArray rfl rfl _ 43 Krw41.out 66 size_public zPub_size (pubC_size HR.out hpub) (pubC_ones _ _ _ _) ?_
      intro w9 hb9 hk9
      have HB9 := hid (hb9.below HBw41.out HBw41.out.size (by omega))
      have HK9 := hid hk9
      clear hb9 hk9))
  exact bodyPost_ret (v := .tuple #[.agg (pubC L n R pub).toArray, .int .i64 0]) (results_blk_tmp Tryz.results28 _ (w.heap.size + 1 + 1) rfl _ rfl _ 43 HK9.out _ Tryz.underlying43 rfl 66 size_public (pubC_size HR.out hpub)) rfl ⟨rfl, HB9.out⟩
set_option maxHeartbeats 4000000 in
theorem refkey_good (seed prf pub : List Int) (L : Int) (n : Nat) (w : World) (hr : rightS L n = true) (hseed : Dg seed) (hprf : Dg prf) (hpub : Dg pub) : Calls Tryz.prog 12 #[.agg (shC L n), (.agg ((secL seed prf pub).map (Value.int .u8)).toArray)] w fun e w' => e = .returned (.agg (pubC L n (nodeZ pub (treeZ (L - 1) 0) (fun j => leafZ seed pub (L - 1) 0 j) n 0) pub).toArray) ∧ Below w.heap.size w w' := by
  have hr2 := hr
  simp only [rightS, decide_eq_true_eq] at hr2
  have Hss := hid (show ((secL seed prf pub).map (Value.int .u8)).toArray.size = 96 by rw [List.size_toArray, List.length_map, secL_length hseed hprf hpub])
  have HR := hid (Dg.node pub (treeZ (L - 1) 0) (fun j => Dg.leaf seed pub (L - 1) 0 (j : Int)) n 0)
  have CB := hid (fun (W : World) => refbuild_any seed prf pub (L - 1) 0 n 0 W hseed hprf hpub (by omega) (by omega) (right_zero (by omega) (by omega)))
  generalize (nodeZ pub (treeZ (L - 1) 0) (fun j => leafZ seed pub (L - 1) 0 j) n 0) = R at *
  have hbp : ∀ W : World, _ := build_pub L n R pub HR.out hpub
  have b1 := (Below.refl w.heap.size w).alloc (Nat.le_refl _) (.cells (shC L (n : Int)) 23 (0, 0))
  have b2 := b1.alloc b1.size (.cells ((secL seed prf pub).map (Value.int .u8)).toArray 40 (0, 0))
  have b3 := b2.alloc b2.size (.cells zPub.toArray 43 (0, 0))
  have Ksh := hid (((Blk.new (w := w) (n := w.heap.size) rfl (shC L (n : Int)) 23).old (.cells ((secL seed prf pub).map (Value.int .u8)).toArray 40 (0, 0))).old (.cells zPub.toArray 43 (0, 0)))
  have Kse := hid ((Blk.new (w := w.alloc (.cells (shC L (n : Int)) 23 (0, 0))) (n := w.heap.size + 1) (by simp only [World.size_alloc]) ((secL seed prf pub).map (Value.int .u8)).toArray 40).old (.cells zPub.toArray 43 (0, 0)))
  have Kr := hid (Blk.new (w := (w.alloc (.cells (shC L (n : Int)) 23 (0, 0))).alloc (.cells ((secL seed prf pub).map (Value.int .u8)).toArray 40 (0, 0))) (n := w.heap.size + 1 + 1) (by simp only [World.size_alloc]) zPub.toArray 43)
  have Hb := hid b3
  have hs3 := b3.size
  have HzA := hid zsize
  clear b1 b2 b3
  go_enter Tryz.func12, Tryz.ntmps12
  have d0e : (((w.alloc (.cells (shC L (n : Int)) 23 (0, 0))).alloc (.cells ((secL seed prf pub).map (Value.int .u8)).toArray 40 (0, 0))).alloc (.cells zPub.toArray 43 (0, 0))).cell? ⟨w.heap.size, 0, none⟩ = some (.int .i64 L) := by rw [Ksh.out.cell]; rfl
  have d0 : (((w.alloc (.cells (shC L (n : Int)) 23 (0, 0))).alloc (.cells ((secL seed prf pub).map (Value.int .u8)).toArray 40 (0, 0))).alloc (.cells Tryz.zeroCells43 43)).cell? ⟨w.heap.size, 0, none⟩ = some (.int .i64 L) := d0e
  have d1e : (((w.alloc (.cells (shC L (n : Int)) 23 (0, 0))).alloc (.cells ((secL seed prf pub).map (Value.int .u8)).toArray 40 (0, 0))).alloc (.cells zPub.toArray 43 (0, 0))).cell? ⟨w.heap.size, 1, none⟩ = some (.int .i64 n) := by rw [Ksh.out.cell]; rfl
  have d1 : (((w.alloc (.cells (shC L (n : Int)) 23 (0, 0))).alloc (.cells ((secL seed prf pub).map (Value.int .u8)).toArray 40 (0, 0))).alloc (.cells Tryz.zeroCells43 43)).cell? ⟨w.heap.size, 1, none⟩ = some (.int .i64 n) := d1e
  go_wp2_with (refine wpList_load_blk rfl 40 _ rfl (w.heap.size + 1) rfl _ 40 Kse.out _ Tryz.underlying40 rfl 96 size_secret Hss.out ?_)
  refine (CB.out _).mono ?_
  rintro e w40 ⟨_, rfl, bw40, _⟩
  have HBw40 := hid (Below.on Hb.out bw40)
  have hsw40 := HBw40.out.size
  have Kshw40 := hid (Ksh.out.below bw40)
  have Ksew40 := hid (Kse.out.below bw40)
  have Krw40 := hid (Kr.out.below bw40)
  clear bw40
  go_wp2_with (first
     | (
        refine wpList_store_blk rfl 25 _ _ rfl (w40.heap.size) (R.map (Value.int .u8)).toArray rfl rfl _ 25 (Blk.new rfl (byteCells 32 []) _) 32 size_digest HzA.out HR.out.size (ints_one _ _) ?_
        intro w41 hbw41 hkw41
        have hw41 := hbw41.below ((Below.refl w40.heap.size w40).alloc (Nat.le_refl _) _) (by simp only [World.size_alloc]; omega) (Nat.le_refl _)
        have HBw41 := hid (Below.on HBw40.out hw41)
        have Kshw41 := hid (Kshw40.out.below hw41)
        have Ksew41 := hid (Ksew40.out.below hw41)
        have Krw41 := hid (Krw40.out.below hw41)
        have Kyw41 := hid hkw41
        clear hbw41 hkw41 hw41)
     | (refine wpList_load_blk rfl 23 _ rfl (w.heap.size) rfl _ 23 Kshw41.out _ Tryz.underlying23 rfl 2 size_shape rfl ?_)
     | (refine wpList_load_blk rfl 25 _ rfl (w40.heap.size) rfl _ 25 Kyw41.out _ Tryz.underlying25 rfl 32 size_digest HR.out.size ?_)
     | (refine wpList_load_mid rfl 25 _ rfl (w.heap.size + 1) 64 rfl _ _ (secL_pub hseed hprf Ksew41.out) Tryz.underlying25 rfl (by rw [List.length_map, hpub.len]; exact size_digest) ?_)
     | (refine wpList_buildv rfl 43 _ rfl [(0, .agg (shC L n)), (1, (.agg (R.map (Value.int .u8)).toArray)), (2, (.agg (pub.map (Value.int .u8)).toArray))] rfl _ hbp ?_)
     | (
      refine wpList_store_blk rfl 43 _ _ rfl (w.heap.size + 1 + 1) (pubC L n R pub).toArray rfl rfl _ 43 Krw41.out 66 size_public zPub_size (pubC_size HR.out hpub) (pubC_ones _ _ _ _) ?_
      intro w9 hb9 hk9
      have HB9 := hid (hb9.below HBw41.out HBw41.out.size (by omega))
      have HK9 := hid hk9
      clear hb9 hk9))
  exact bodyPost_ret (v := .agg (pubC L n R pub).toArray) (results_blk Tryz.results12 _ (w.heap.size + 1 + 1) rfl _ 43 HK9.out _ Tryz.underlying43 rfl 66 size_public (pubC_size HR.out hpub)) rfl ⟨rfl, HB9.out⟩
end Go.Proofs.YtpinamdgbijjlaaGreatDoor
namespace Go.Proofs.YtpinamdgbijjlaaGreatDoor
set_option maxRecDepth 100000
open Go.ChangeShapes Go.WideShapes Go.ChangeAt Go.RowKit
section
variable {P : Program} {ops : Array Oper} {rest : List Oper} {op : Oper} {a : Act} {w : World} {Q : Exit → Act → World → Prop}
theorem quiet_load_one_s {C : World → Prop} {K : Act → Prop} (ty : TypeId) (x : Operand) (ho : op.op = .load ty x) (ad : Addr) (hx : a.eval x = .pointer (some ad)) (v : Value)
    (hk : ∀ w', C w' → w'.cell? ad = some v) (d : TypeDesc) (hu : P.underlying ty = some d) (hd : d.isRow = false)
    (h : K (a.put op.dst v)) : op.quiet P a C K :=
  ⟨v, fun w' hw' => by
    unfold Oper.quietAt execOp
    simp only [ho, hx, Instr.loadAt, Instr.sureAddr, Sem.run_bind, Sem.run_pure, Result.andThen_ok, run_load_one w' (hk w' hw') d hu hd]
    simp [Oper.quietUpon], h⟩
theorem wpList_store_cell_s (hgd : op.guard = none) (ty : TypeId) (x y : Operand) (ho : op.op = .store ty x y) (b o : Nat) (v : Value) (hx : a.eval x = .pointer (some ⟨b, o, none⟩)) (hy : a.eval y = v) (h1 : v.oneCell' = true) (hc : v.cells = #[v])
    (cs : Array Value) (T : TypeId) (hk : Blk w b cs T) (hlt : o < cs.size) (hi : (P.info? ty).map (·.size) = some 1)
    (h : ∀ w', But b w w' → Blk w' b (cs.setIfInBounds o v) T → wpList P ops Q rest (a.put op.dst undef) w') : wpList P ops Q (op :: rest) a w :=
  wpList_plain hgd fun K hK => by
    unfold Oper.wp execOp
    simp only [ho, hx, hy, Instr.storeAt, Instr.sureAddr, Sem.run_bind, Sem.run_pure, Result.andThen_ok, run_store_one w hk hlt hi h1 hc, Oper.upon_skip]
    exact hK _ _ (h _ (But.setCells [v] o w (But.of (Below.refl _ _))) (hk.set o v))
end
section
variable {P : Program}
end
/-- What is handed back is nil just where what came in is. -/
theorem clone_any {w : World} {a : Option Addr} {len cap : Nat} {bs : List Int} (hT : TextAt w a len cap bs) (hl : len ≤ 140737488355328) :
    Calls Tryz.prog 64 #[.slice a len cap] w fun e w' => ∃ a' c', e = .returned (.slice a' len c') ∧ Below w.heap.size w w' ∧ TextAt w' a' len c' bs ∧ ∀ p : Addr, a' = some p → w.heap.size ≤ p.block ∧ ∃ cs, w'.heap[p.block]? = some (.cells cs 5 (0, 0)) := by
  obtain ⟨i0, hi, hz0, hz1, hz2⟩ := info_parts info_byte
  have hlen := hT.length
  have kE : OwnB (w.alloc (Obj.cells #[] 5)) w.heap.size 5 (.slice (some ⟨w.heap.size, 0, none⟩) 0 0) [] := OwnB.of_blk (Blk.new rfl _ _) (Nat.le_refl _) rfl (by omega) (by simp)
  have belE : Below w.heap.size w (w.alloc (Obj.cells #[] 5)) := (Below.refl _ _).alloc (Nat.le_refl _) _
  have hq := fun (w : World) (a : Option Addr) (n c : Nat) => Lib.run_eql_slice_nil (P := Tryz.prog) w 56 5 a n c 0 0 Tryz.underlying56
  cases a with
  | none =>
    rcases hT.mem with ⟨_, rfl, rfl⟩ | ⟨x, o, s, h, _⟩
    · go_enter Tryz.func64, Tryz.ntmps64
      go_wp2
      go_ret
      exact ⟨none, 0, rfl, Below.refl _ _, hT, fun p hp => by cases hp⟩
    · cases h
  | some p =>
    have hT' := hT.below belE
    clear hT
    go_enter Tryz.func64, Tryz.ntmps64
    go_wp2_with (at_builtin; refine wpList_append_text rfl _ _ rfl Tryz.underlying56 hi hz0 hz1 hz2 rfl kE rfl hT' ?c1 ?c2 ?_)
    case c1 => simp; omega
    case c2 => exact belE.size
    intro v' w3 hown _ hb
    have bel := belE.trans hb
    clear hb belE kE hT'
    obtain ⟨a', c', rfl, q1, q2⟩ := hown.text2
    rw [hlen] at q1
    rw [hlen]
    clear hown
    go_wp2_with fail
    go_ret
    exact ⟨a', c', rfl, bel, q1, q2⟩
theorem size_u8 : (Tryz.prog.info? 5).map (·.size) = some 1 := by kernel_rfl
theorem size_dint : (Tryz.prog.info? 3).map (·.size) = some 1 := by kernel_rfl
theorem size_waits : (Tryz.prog.info? 65).map (·.size) = some 1 := by kernel_rfl
theorem size_dtext : (Tryz.prog.info? 56).map (·.size) = some 1 := by kernel_rfl
theorem size_write : (Tryz.prog.info? 202).map (·.size) = some 2 := by kernel_rfl
/-- The cells of a disk. -/
def dkC (z L bb : Nat) (wv : Value) (on set : Bool) (af : Int) (kv : Value) : Array Value := #[.int .i64 z, .slice (some ⟨bb, 0, none⟩) L L, wv, .bool on, .bool set, .int .i64 af, kv]
/-- A disk: its cells, and the bytes of its sectors. -/
structure DkAt (w : World) (p bb z n : Nat) (B : List Int) (wv : Value) (on set : Bool) (af : Int) (kv : Value) : Prop where
  kp : Blk w p (dkC z B.length bb wv on set af kv) 68
  kb : Blk w bb (B.map (Value.int .u8)).toArray 5
  ne : p ≠ bb
  len : B.length = n * z
  z1 : 1 ≤ z
  z2 : z ≤ 512
  n1 : 1 ≤ n
  n2 : n ≤ 64
  small : ∀ x ∈ B, 0 ≤ x ∧ x < 256
theorem DkAt.below {w w' : World} {p bb z n : Nat} {B : List Int} {wv : Value} {on set : Bool} {af : Int} {kv : Value} (h : DkAt w p bb z n B wv on set af kv) (hb : Below w.heap.size w w') : DkAt w' p bb z n B wv on set af kv :=
  ⟨h.kp.below hb, h.kb.below hb, h.ne, h.len, h.z1, h.z2, h.n1, h.n2, h.small⟩
/-- The bytes of a sector, once the first ones of a text are there. -/
def putS (z i : Nat) (t : List Int) (m : Nat) (B : List Int) : List Int := B.take (i * z) ++ (t.take m ++ B.drop (i * z + m))
theorem putS_length {z i : Nat} {t : List Int} {m : Nat} {B : List Int} (hm : m ≤ t.length) (h : i * z + m ≤ B.length) : (putS z i t m B).length = B.length := by
  unfold putS
  simp only [List.length_append, List.length_take, List.length_drop]
  omega
theorem putS_small {z i : Nat} {t : List Int} {m : Nat} {B : List Int} (ht : ∀ x ∈ t, 0 ≤ x ∧ x < 256) (hB : ∀ x ∈ B, 0 ≤ x ∧ x < 256) : ∀ x ∈ putS z i t m B, 0 ≤ x ∧ x < 256 := fun x hx => by
  unfold putS at hx
  simp only [List.mem_append] at hx
  rcases hx with h | h | h
  · exact hB x (List.mem_of_mem_take h)
  · exact ht x (List.mem_of_mem_take h)
  · exact hB x (List.mem_of_mem_drop h)
theorem putS_blk {w : World} {b z i : Nat} {t : List Int} {m : Nat} {B : List Int} {T : TypeId} (h : Blk w b (B.map (Value.int .u8)).toArray T) (hm : m ≤ t.length) (hf : i * z + m ≤ B.length) :
    Blk (w.setCells b (i * z) ((t.take m).map (Value.int .u8))) b ((putS z i t m B).map (Value.int .u8)).toArray T := by
  have hl : ((B.take (i * z)).map (Value.int .u8)).length = i * z := by rw [List.length_map, List.length_take]; omega
  have h2 := Blk.setCells ((B.take (i * z)).map (Value.int .u8)) ((B.drop (i * z)).map (Value.int .u8)) [] 0 ((t.take m).map (Value.int .u8)) (by
    rw [List.append_nil, ← List.map_append, List.take_append_drop]; exact h) (by simp only [List.length_map, List.length_take, List.length_drop]; omega)
  rw [hl, Nat.add_zero, List.append_nil] at h2
  unfold putS
  have he : splice ((B.drop (i * z)).map (Value.int .u8)) 0 ((t.take m).map (Value.int .u8)) = (t.take m ++ B.drop (i * z + m)).map (Value.int .u8) := by
    unfold splice
    simp only [List.take_zero, List.nil_append, List.length_map, List.length_take, List.map_append, Nat.zero_add, ← List.map_drop, List.drop_drop]
    rw [show min m t.length = m by omega]
  rw [he] at h2
  rw [List.map_append]
  exact h2
/-- A text outside some blocks. -/
structure TextO (w : World) (S : List Nat) (a : Option Addr) (len cap : Nat) (t : List Int) : Prop where
  text : TextAt w a len cap t
  out : ∀ p : Addr, a = some p → p.block ∉ S
theorem TextAt.butIn {w w' : World} {S : List Nat} {a : Option Addr} {len cap : Nat} {t : List Int} (h : TextAt w a len cap t) (ho : ∀ p : Addr, a = some p → p.block ∉ S) (hb : FlowB.ButIn S w w') : TextAt w' a len cap t := by
  obtain ⟨h1, h2, h3, h4, h5 | ⟨x, o, s, rfl, hc⟩⟩ := h
  · exact ⟨h1, h2, h3, h4, .inl h5⟩
  · refine ⟨h1, h2, h3, h4, .inr ⟨x, o, s, rfl, fun j hj => ?_⟩⟩
    obtain ⟨q1, q2, q3⟩ := hc j hj
    refine ⟨q1, Nat.lt_of_lt_of_le q2 hb.size, ?_⟩
    rw [← q3]
    unfold World.cell?
    rw [hb.block x q2 (ho _ rfl)]
theorem TextO.butIn {w w' : World} {S : List Nat} {a : Option Addr} {len cap : Nat} {t : List Int} (h : TextO w S a len cap t) (hb : FlowB.ButIn S w w') : TextO w' S a len cap t := ⟨h.text.butIn h.out hb, h.out⟩
theorem ButIn.of_below {S : List Nat} {w w' : World} (h : Below w.heap.size w w') : FlowB.ButIn S w w' := ⟨h.os, h.tape, h.output, h.size, fun k hk _ => h.block k hk⟩
theorem ButIn.on {S : List Nat} {w w' w'' : World} (h : FlowB.ButIn S w w') (h2 : FlowB.ButIn S w' w'') : FlowB.ButIn S w w'' :=
  ⟨h2.os.trans h.os, h2.tape.trans h.tape, h2.output.trans h.output, Nat.le_trans h.size h2.size, fun k hk hn => (h2.block k (Nat.lt_of_lt_of_le hk h.size) hn).trans (h.block k hk hn)⟩
theorem ButIn.of_but {S : List Nat} {b : Nat} {w w' : World} (h : But b w w') (hb : b ∈ S) : FlowB.ButIn S w w' := ⟨h.os, h.tape, h.output, h.size, fun k hk hn => h.block k hk (fun e => hn (e ▸ hb))⟩
/-- The writes that wait. -/
structure WaitAt (w : World) (S : List Nat) (z : Nat) (wa : Option Addr) (wc : Nat) (ws : List (Nat × List Int)) : Prop where
  le : ws.length ≤ wc
  mem : ws.length = 0 ∨ ∃ x o, wa = some ⟨x, o, none⟩ ∧ x ∉ S ∧ x < w.heap.size ∧ ∀ j, j < ws.length → w.cell? ⟨x, o + j * 2, none⟩ = some (.int .i64 ((ws.getD j (0, [])).1 : Int)) ∧ ∃ a c, w.cell? ⟨x, o + j * 2 + 1, none⟩ = some (.slice a z c) ∧ TextO w S a z c (ws.getD j (0, [])).2
theorem WaitAt.butIn {w w' : World} {S : List Nat} {z : Nat} {wa : Option Addr} {wc : Nat} {ws : List (Nat × List Int)} (h : WaitAt w S z wa wc ws) (hb : FlowB.ButIn S w w') : WaitAt w' S z wa wc ws := by
  obtain ⟨h1, h2 | ⟨x, o, rfl, hx, hlt, hc⟩⟩ := h
  · exact ⟨h1, .inl h2⟩
  · have cell : ∀ k, w'.cell? ⟨x, k, none⟩ = w.cell? ⟨x, k, none⟩ := fun k => by
      unfold World.cell?
      rw [hb.block x hlt hx]
    refine ⟨h1, .inr ⟨x, o, rfl, hx, Nat.lt_of_lt_of_le hlt hb.size, fun j hj => ?_⟩⟩
    obtain ⟨q1, a, c, q2, q3⟩ := hc j hj
    exact ⟨by rw [cell]; exact q1, a, c, by rw [cell]; exact q2, q3.butIn hb⟩
theorem WaitAt.nil (w : World) (S : List Nat) (z : Nat) : WaitAt w S z none 0 [] := ⟨Nat.le_refl _, .inl rfl⟩
set_option maxHeartbeats 4000000 in
theorem sectors_any (w : World) (p bb z n : Nat) (B : List Int) (wv : Value) (on set : Bool) (af : Int) (kv : Value) (hd : DkAt w p bb z n B wv on set af kv) :
    Calls Tryz.prog 61 #[.pointer (some ⟨p, 0, none⟩)] w fun e w' => e = .returned (.int .i64 n) ∧ Below w.heap.size w w' := by
  have hz := hd.z1
  have hz0 : ¬ ((z : Int) = 0) := by omega
  have hz1 : ((z : Int) == 0) = false := by simp; omega
  have hdv : Int.tdiv (B.length : Int) (z : Int) = (n : Int) := by rw [hd.len, Int.natCast_mul]; exact Int.mul_tdiv_cancel _ (by omega)
  have hq : wrap64 (n : Int) = (n : Int) := by have := hd.n2; unfold wrap64; omega
  have Kd := hid hd.kp
  have Hb := hid (Below.refl w.heap.size w)
  have cd0 : w.cell? ⟨p, 0, none⟩ = some (.int .i64 z) := by rw [Kd.out.cell]; rfl
  go_enter Tryz.func61, Tryz.ntmps61
  go_wp2_with fail
  refine wp_region_flow 10 (List.range 10) [] [] (by kernel_rfl) (by kernel_rfl) ?_
  apply Exists.intro
  refine ⟨fun w0 hb0 hF0 => ?_, ?_⟩
  · skip
    have y0 : ∀ w', (∃ x : Ext w0, w' = x.at_) → w'.cell? ⟨p, 0, none⟩ = some (.int .i64 z) := fun w' ⟨x, hx⟩ => by rw [hx, ((Kd.out.below hb0).below x.same).cell]; rfl
    have y1 : ∀ w', (∃ x : Ext w0, w' = x.at_) → w'.cell? ⟨p, 1, none⟩ = some (.slice (some ⟨bb, 0, none⟩) B.length B.length) := fun w' ⟨x, hx⟩ => by rw [hx, ((Kd.out.below hb0).below x.same).cell]; rfl
    simp only [pick, List.range, List.range.loop, List.getElem?_toArray, List.getElem?_cons_succ, List.getElem?_cons_zero, Option.toList_some, List.cons_append, List.nil_append]
    repeat (first | (go_big_quiet_want; refine quiet_load_one_s 3 _ rfl ⟨p, 0, none⟩ rfl _ y0 _ Tryz.underlying3 rfl ?_; go_big_quiet_on; simp only [Act.put, List.setIfInBounds_toArray, List.set_cons_zero, List.set_cons_succ]) | (go_big_quiet_want; refine quiet_load_one_s 56 _ rfl ⟨p, 1, none⟩ rfl _ y1 _ Tryz.underlying56 rfl ?_; go_big_quiet_on; simp only [Act.put, List.setIfInBounds_toArray, List.set_cons_zero, List.set_cons_succ]) | go_big_quiet_step (fail))
    exact wpQuiet_nil rfl
  refine AlChk.nil ?_
  refine Walk.fin fun w1 hw1 _ _ => ?_
  simp only [List.drop_succ_cons, List.drop_zero]
  have HBw1 := hid (Below.on Hb.out hw1)
  have hsw1 := HBw1.out.size
  have Kdw1 := hid (Kd.out.below hw1)
  clear hw1
  go_wp2_with fail
  go_returns
  refine ⟨?_, HBw1.out⟩
  show Ending.returned (.int .i64 (wrap64 (n : Int))) = _
  rw [hq]
set_option maxHeartbeats 4000000 in
theorem has_in (w : World) (p bb z n : Nat) (B : List Int) (wv : Value) (on set : Bool) (af : Int) (kv : Value) (hd : DkAt w p bb z n B wv on set af kv) (i : Int) (h0 : 0 ≤ i) (h1 : i < n) :
    Calls Tryz.prog 110 #[.pointer (some ⟨p, 0, none⟩), .int .i64 i] w fun e w' => e = .returned (.bool true) ∧ Below w.heap.size w w' := by
  have hI0 : ¬ i < 0 := by omega
  have Hb := hid (Below.refl w.heap.size w)
  go_enter Tryz.func110, Tryz.ntmps110
  go_wp2_with fail
  refine (sectors_any w p bb z n B wv on set af kv hd).mono ?_
  rintro e w1 ⟨rfl, bw1⟩
  have HBw1 := hid (Below.on Hb.out bw1)
  have hsw1 := HBw1.out.size
  clear bw1
  go_wp2_with fail
  go_returns
  exact ⟨rfl, HBw1.out⟩
set_option maxHeartbeats 4000000 in
theorem fails_unset (w : World) (p bb z n : Nat) (B : List Int) (wv : Value) (on : Bool) (af : Int) (kv : Value) (hd : DkAt w p bb z n B wv on false af kv) :
    Calls Tryz.prog 143 #[.pointer (some ⟨p, 0, none⟩)] w fun e w' => e = .returned (.bool false) ∧ Below w.heap.size w w' := by
  have Kd := hid hd.kp
  have Hb := hid (Below.refl w.heap.size w)
  have cd4 : w.cell? ⟨p, 4, none⟩ = some (.bool false) := by rw [Kd.out.cell]; rfl
  go_enter Tryz.func143, Tryz.ntmps143
  go_wp2_with fail
  go_returns
  exact ⟨rfl, Hb.out⟩
set_option maxHeartbeats 4000000 in
theorem sector_any (w : World) (p bb z n : Nat) (B : List Int) (wv : Value) (on set : Bool) (af : Int) (kv : Value) (hd : DkAt w p bb z n B wv on set af kv) (i : Nat) (hi : i < n) :
    Calls Tryz.prog 111 #[.pointer (some ⟨p, 0, none⟩), .int .i64 i] w fun e w' => e = .returned (.slice (some ⟨bb, i * z, none⟩) z (B.length - i * z)) ∧ Below w.heap.size w w' := by
  have hz2 := hd.z2
  have hn2 := hd.n2
  have hz1 := hd.z1
  have hm1 : i * z + z ≤ B.length := by
    rw [hd.len, ← Nat.succ_mul]
    exact Nat.mul_le_mul_right z hi
  have hm2 : B.length ≤ 32768 := by
    rw [hd.len]
    exact Nat.le_trans (Nat.mul_le_mul hn2 hz2) (by omega)
  have hw1 : wrap64 ((i : Int) + 1) = (i : Int) + 1 := by unfold wrap64; omega
  have hw2 : wrap64 ((i : Int) * (z : Int)) = ((i * z : Nat) : Int) := by rw [← Int.natCast_mul]; unfold wrap64; omega
  have hw3 : wrap64 (((i : Int) + 1) * (z : Int)) = ((i * z + z : Nat) : Int) := by rw [Int.add_mul, Int.one_mul, ← Int.natCast_mul, ← Int.natCast_add]; unfold wrap64; omega
  have hc : (Value.slice (cutA (some ⟨bb, 0, none⟩) (i * z) B.length) (i * z + z - i * z) (B.length - i * z)) = .slice (some ⟨bb, i * z, none⟩) z (B.length - i * z) := by
    rw [show i * z + z - i * z = z by omega]
    unfold cutA
    rw [if_neg (by omega)]
    simp [Addr.add]
    intro h
    exact h.symm
  have Kd := hid hd.kp
  have Hb := hid (Below.refl w.heap.size w)
  go_enter Tryz.func111, Tryz.ntmps111
  go_wp2_with fail
  refine wp_region_flow 18 (List.range 18) [] [] (by kernel_rfl) (by kernel_rfl) ?_
  apply Exists.intro
  refine ⟨fun w0 hb0 hF0 => ?_, ?_⟩
  · skip
    have y0 : ∀ w', (∃ x : Ext w0, w' = x.at_) → w'.cell? ⟨p, 0, none⟩ = some (.int .i64 z) := fun w' ⟨x, hx⟩ => by rw [hx, ((Kd.out.below hb0).below x.same).cell]; rfl
    have y1 : ∀ w', (∃ x : Ext w0, w' = x.at_) → w'.cell? ⟨p, 1, none⟩ = some (.slice (some ⟨bb, 0, none⟩) B.length B.length) := fun w' ⟨x, hx⟩ => by rw [hx, ((Kd.out.below hb0).below x.same).cell]; rfl
    simp only [pick, List.range, List.range.loop, List.getElem?_toArray, List.getElem?_cons_succ, List.getElem?_cons_zero, Option.toList_some, List.cons_append, List.nil_append]
    repeat (first | (go_big_quiet_want; refine quiet_load_one_s 3 _ rfl ⟨p, 0, none⟩ rfl _ y0 _ Tryz.underlying3 rfl ?_; go_big_quiet_on; simp only [Act.put, List.setIfInBounds_toArray, List.set_cons_zero, List.set_cons_succ]) | (go_big_quiet_want; refine quiet_load_one_s 56 _ rfl ⟨p, 1, none⟩ rfl _ y1 _ Tryz.underlying56 rfl ?_; go_big_quiet_on; simp only [Act.put, List.setIfInBounds_toArray, List.set_cons_zero, List.set_cons_succ]) | (go_big_quiet_want; refine quiet_cut_lhn _ _ _ rfl (some ⟨bb, 0, none⟩) B.length B.length (i * z) (i * z + z) _ rfl _ rfl _ rfl hs1 hs2 (by omega) (by omega) ?_; go_big_quiet_on; simp only [Act.put, List.setIfInBounds_toArray, List.set_cons_zero, List.set_cons_succ]) | go_big_quiet_step (fail))
    exact wpQuiet_nil rfl
  refine AlChk.nil ?_
  refine Walk.fin fun w1 hw1 _ _ => ?_
  simp only [List.drop_succ_cons, List.drop_zero]
  have HBw1 := hid (Below.on Hb.out hw1)
  have hsw1 := HBw1.out.size
  have Kdw1 := hid (Kd.out.below hw1)
  clear hw1
  go_wp2_with fail
  go_returns
  refine ⟨?_, HBw1.out⟩
  show Ending.returned (.slice (some ⟨bb, i * z, none⟩) (i * z + z - i * z) (B.length - i * z)) = _
  rw [show i * z + z - i * z = z by omega]
end Go.Proofs.YtpinamdgbijjlaaGreatDoor
