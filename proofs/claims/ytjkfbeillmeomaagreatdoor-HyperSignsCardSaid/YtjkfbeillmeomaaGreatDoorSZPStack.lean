/-
  Recs, Tree, Stack, Stack2, Stack3, Add: one text.
-/
import Derived.Test.YtjkfbeillmeomaaGreatDoorSZPWots
import Derived.Test.YtjkfbeillmeomaaGreatDoorSZPLt
import Derived.Maps.AppendAt
import Derived.Test.YtjkfbeillmeomaaGreatDoorSZPWotsK
import Derived.Test.YtjkfbeillmeomaaGreatDoorSZPClimb
namespace Go.Proofs.YtjkfbeillmeomaaGreatDoor
set_option maxRecDepth 100000
open Go.ChangeShapes Go.WideShapes Go.ChangeAt Go.RowKit
theorem fill_part (place : Nat → Option (Nat × Nat)) (cells : Array Value) (i off : Nat) (v : Value) (rest : List (Nat × Value)) (hp : place i = some (off, v.cells.size)) (hs : off + v.cells.size ≤ cells.size) :
    Instr.fill place cells ((i, v) :: rest) = Instr.fill place (splice cells.toList off v.cells.toList).toArray rest := by
  rw [Instr.fill]
  simp only [hp]
  rw [if_neg (by simp only [ne_eq, not_true_eq_false, decide_false, Bool.false_or, decide_eq_true_eq]; omega)]
  congr 1
  have hf := fold_set v.cells.toList 0 off cells (by simpa using hs)
  apply Array.ext'
  rw [Nat.add_zero] at hf
  rw [← hf]
  have : v.cells.zipIdx = ((v.cells.toList.zipIdx 0)).toArray := by
    apply Array.ext'
    simp
  rw [this, List.foldl_toArray']
  all_goals first | rfl | simp
section
variable {P : Program} {ops : Array Oper} {rest : List Oper} {op : Oper} {a : Act} {w : World} {Q : Exit → Act → World → Prop} {t e : TypeId}
/-- A slice of one element, written out. -/
theorem run_build_rec {i : TypeInfo} {z v : Value} {n : Nat} (ht : P.underlying t = some (.slice e)) (hi : P.info? e = some i) (hz : i.zero = some z) (hs : i.size = n) (h0 : 0 < n) (hn : n ≤ 16777216) (hv : v.cells.size = n) (w : World) :
    (Instr.buildSlice t 1 #[(0, v)]).run P w = .ok (.slice (some ⟨w.heap.size, 0, none⟩) 1 1) (w.alloc (.cells v.cells e (0, 0))) := by
  unfold Instr.buildSlice
  have hne : ¬ (1 * n = 0) := by omega
  have hle : ¬ (16777216 < n) := by omega
  have hne2 : ¬ (n = 0) := by omega
  have hf : Instr.fill (fun i => some (i * n, n)) ((Array.range n).map fun i => z.cells[i % z.cells.size]!) [(0, v)] = some v.cells := by
    rw [fill_part (fun i => some (i * n, n)) _ 0 0 v [] (by simp [hv]) (by simp [hv]), Instr.fill]
    simp [splice, hv, List.drop_eq_nil_of_le]
  simp [run_underlying ht, sizeOf, typeInfo, hi, hs, hne2, hz, zeroValue]
  rw [if_neg hle, hf]
  simp [newRow]
theorem exec_build_rec {o : Oper} {A : Act} {w : World} {x : Operand} {i : TypeInfo} {z v : Value} {n : Nat} (ho : o.op = .buildSlice t 1 #[(0, x)]) (he : A.eval x = v) (ht : P.underlying t = some (.slice e)) (hi : P.info? e = some i) (hz : i.zero = some z) (hs : i.size = n) (h0 : 0 < n) (hn : n ≤ 16777216) (hv : v.cells.size = n) :
    (execOp A.eval o).run P w = .ok (.value (.slice (some ⟨w.heap.size, 0, none⟩) 1 1)) (w.alloc (.cells v.cells e (0, 0))) := by
  unfold execOp
  simp only [ho, List.map_toArray, List.map_cons, List.map_nil, he, Sem.run_bind, run_build_rec ht hi hz hs h0 hn hv, Result.andThen_ok, Sem.run_pure]
/-- An element of a row, whatever its size. -/
theorem run_index_sz {sz : Nat} (ht : P.underlying t = some (.slice e)) (hs : (P.info? e).map (·.size) = some sz) (b o len cap : Nat) (k : IntKind) (i : Int) (j : Nat) (hi : i = j) (hj : j < len) (w : World) :
    (Instr.indexAt t (.slice (some ⟨b, o, none⟩) len cap) (.int k i)).run P w = .ok (.pointer (some ⟨b, o + j * sz, none⟩)) w := by
  subst hi
  obtain ⟨i0, hi0, h32⟩ := Option.map_eq_some_iff.1 hs
  have hlt : (0 : Int) ≤ j ∧ (j : Int) < len := by omega
  unfold Instr.indexAt
  simp [asIntOf, Sem.run_bind, run_underlying ht, hlt, sizeOf, typeInfo, hi0, h32, hj, Addr.add_mid]
theorem quiet_index_sz {sz : Nat} {C : World → Prop} {K : Act → Prop} (ty : TypeId) (x ix : Operand) (ho : op.op = .indexAddr ty x ix) (ht : P.underlying ty = some (.slice e)) (hs : (P.info? e).map (·.size) = some sz) (b o len cap : Nat) (hx : a.eval x = .slice (some ⟨b, o, none⟩) len cap)
    (k : IntKind) (i : Int) (hix : a.eval ix = .int k i) (j : Nat) (hi : i = j) (hj : j < len) (h : K (a.put op.dst (.pointer (some ⟨b, o + j * sz, none⟩)))) : op.quiet P a C K :=
  ⟨.pointer (some ⟨b, o + j * sz, none⟩), fun w' hw' => by
    unfold Oper.quietAt execOp
    simp only [ho, hx, hix, Sem.run_bind, Sem.run_pure, Result.andThen_ok, run_index_sz ht hs b o len cap k i j hi hj]
    simp [Oper.quietUpon], h⟩
/-- The first elements of a row, whatever their size. -/
theorem run_cutr_h (ht : P.underlying t = some (.slice e)) (hs : (P.info? e).isSome = true) (a : Option Addr) (len cap : Nat) (hi : Int) (w : World) (h0 : 0 ≤ hi) (h2 : hi ≤ cap) :
    (Instr.slice t (.slice a len cap) none (some (.int .i64 hi)) none).run P w = .ok (.slice a hi.toNat cap) w := by
  have he : P.elem t = e := by simp [Program.elem, ht]
  rw [run_slice_h (w := w) t a len cap (by rw [he]; exact ht) _ hi h0 h2]
  obtain ⟨i, hi1⟩ := Option.isSome_iff_exists.1 hs
  have := cutD_zero a cap
  unfold cutD at this
  simp only [Nat.zero_mul] at this
  simp [sizeOf, typeInfo, he, hi1, sliced, this]
theorem quiet_of {C : World → Prop} {K : Act → Prop} (v : Value) (h : ∀ w', C w' → (execOp a.eval op).run P w' = .ok (.value v) w') (hk : K (a.put op.dst v)) : op.quiet P a C K :=
  ⟨v, fun w' hw' => by unfold Oper.quietAt; rw [h w' hw']; simp [Oper.quietUpon], hk⟩
/-- One cell is stored. -/
theorem run_store_one {ty : TypeId} {b o : Nat} {v : Value} {cs : Array Value} {T : TypeId} (w : World) (hk : Blk w b cs T) (ho : o < cs.size) (hi : (P.info? ty).map (·.size) = some 1) (h1 : v.oneCell' = true) (hc : v.cells = #[v]) :
    (storeVar ty ⟨b, o, none⟩ v).run P w = .ok () (w.setCells b o [v]) := by
  have h := run_storeVar_mid (P := P) w b o ty #[v] (fun j hj => ⟨by
    simp only [List.size_toArray, List.length_cons, List.length_nil] at hj
    rw [hk.cell, Array.getElem?_eq_getElem (by omega)]; rfl, hk.free _⟩) (by rw [hi]; rfl) (by simp [h1])
  unfold storeVar at *
  rw [hc]
  exact h
theorem wpList_store_cell (hgd : op.guard = none) (ty : TypeId) (x y : Operand) (ho : op.op = .store ty x y) (b o : Nat) (v : Value) (hx : a.eval x = .pointer (some ⟨b, o, none⟩)) (hy : a.eval y = v) (h1 : v.oneCell' = true) (hc : v.cells = #[v])
    (cs : Array Value) (T : TypeId) (hk : Blk w b cs T) (hlt : o < cs.size) (hi : (P.info? ty).map (·.size) = some 1)
    (h : ∀ w', But b w w' → Blk w' b (cs.setIfInBounds o v) T → wpList P ops Q rest (a.put op.dst undef) w') : wpList P ops Q (op :: rest) a w :=
  wpList_plain hgd fun K hK => by
    unfold Oper.wp execOp
    simp only [ho, hx, hy, Instr.storeAt, Instr.sureAddr, Sem.run_bind, Sem.run_pure, Result.andThen_ok, run_store_one w hk hlt hi h1 hc, Oper.upon_skip]
    exact hK _ _ (h _ (But.setCells [v] o w (But.of (Below.refl _ _))) (hk.set o v))
end
/-! Rows of structs. -/
theorem own_pop {w : World} {base n sz : Nat} {e : TypeId} {v : Value} {xs ys zs : List Value} (h : w.ownsRow base e sz v (n + 1) xs) (hx : xs = ys ++ zs) (hy : ys.length = n * sz) :
    ∃ g cap, v = .slice (some ⟨g, 0, none⟩) (n + 1) cap ∧ base ≤ g ∧ n + 1 ≤ cap ∧ cap ≤ maxLen ∧ g < w.heap.size ∧ w.rangeAt g (0 + n * sz) zs ∧
      ∀ w' : World, w'.heap[g]? = w.heap[g]? → w'.ownsRow base e sz (.slice (some ⟨g, 0, none⟩) n cap) n ys := by
  subst hx
  obtain ⟨hl, ⟨_, h0⟩ | ⟨g, cap, cur, rfl, hg, hh, hle, hmx, hsz, htk⟩⟩ := h
  · omega
  · refine ⟨g, cap, rfl, hg, hle, hmx, (Array.getElem?_eq_some_iff.1 hh).1, fun j u hj => ?_, fun w' hw => ⟨hy, .inr ⟨g, cap, cur, rfl, hg, by rw [hw]; exact hh, by omega, hmx, hsz, ?_⟩⟩⟩
    · have hb : Blk w g cur e := hh
      have hjl := (List.getElem?_eq_some_iff.1 hj).1
      rw [Nat.zero_add, hb.cell]
      rw [List.length_append, hy] at hl
      have h2 : (cur.toList.take ((n + 1) * sz))[n * sz + j]? = some u := by
        rw [htk, List.getElem?_append_right (by omega), hy, Nat.add_sub_cancel_left]
        exact hj
      rw [List.getElem?_take_of_lt (by omega)] at h2
      simpa using h2
    · have h3 := congrArg (List.take (n * sz)) htk
      rw [List.take_take, Nat.min_eq_left (by rw [Nat.add_mul]; omega), List.take_append_of_le_length (by omega), List.take_of_length_le (l := ys) (by omega)] at h3
      exact h3
end Go.Proofs.YtjkfbeillmeomaaGreatDoor
namespace Go.Proofs.YtjkfbeillmeomaaGreatDoor
set_option maxRecDepth 100000
open Go.ChangeShapes Go.WideShapes Go.ChangeAt Go.RowKit
/-- A secret's cells. -/
def secL (seed prf pub : List Int) : List Int := seed ++ (prf ++ pub)
theorem secL_seed {seed prf pub : List Int} {w : World} {b : Nat} {T : TypeId} (k : Blk w b ((secL seed prf pub).map (Value.int .u8)).toArray T) : w.rangeAt b 0 (seed.map (Value.int .u8)) := fun j v hv => by
  have hj : j < seed.length := by have := (List.getElem?_eq_some_iff.1 hv).1; simpa using this
  rw [Nat.zero_add, k.cell, List.getElem?_toArray, ← hv, List.getElem?_map, List.getElem?_map]
  unfold secL
  rw [List.getElem?_append_left hj]
theorem secL_pub {seed prf pub : List Int} (h : Dg seed) (hp : Dg prf) {w : World} {b : Nat} {T : TypeId} (k : Blk w b ((secL seed prf pub).map (Value.int .u8)).toArray T) : w.rangeAt b 64 (pub.map (Value.int .u8)) := fun j v hv => by
  rw [k.cell, List.getElem?_toArray, ← hv, List.getElem?_map, List.getElem?_map]
  unfold secL
  rw [List.getElem?_append_right (by rw [h.len]; omega), h.len, List.getElem?_append_right (by rw [hp.len]; omega), hp.len, show 64 + j - 32 - 32 = j by omega]
theorem secL_length {seed prf pub : List Int} (h : Dg seed) (hp : Dg prf) (hq : Dg pub) : (secL seed prf pub).length = 96 := by simp [secL, h.len, hp.len, hq.len]
def otsZ (la tr i : Int) : List Int := [la, tr / 4294967296, tr % 4294967296, 0, i, 0, 0, 0]
def ltrZ (la tr i : Int) : List Int := [la, tr / 4294967296, tr % 4294967296, 1, i, 0, 0, 0]
theorem Aw.ots {la tr i : Int} (hl : 0 ≤ la ∧ la < 4294967296) (ht : 0 ≤ tr ∧ tr < 18446744073709551616) (hi : 0 ≤ i ∧ i < 4294967296) : Aw (otsZ la tr i) := ⟨rfl, fun x hx => by
  simp only [otsZ, List.mem_cons, List.not_mem_nil, or_false] at hx
  omega⟩
theorem Aw.ltr {la tr i : Int} (hl : 0 ≤ la ∧ la < 4294967296) (ht : 0 ≤ tr ∧ tr < 18446744073709551616) (hi : 0 ≤ i ∧ i < 4294967296) : Aw (ltrZ la tr i) := ⟨rfl, fun x hx => by
  simp only [ltrZ, List.mem_cons, List.not_mem_nil, or_false] at hx
  omega⟩
@[irreducible] def leafZ (seed pub : List Int) (la tr i : Int) : List Int := compZ pub (ltrZ la tr i) 67 0 (rowW (pubP seed pub (otsZ la tr i)))
theorem leafZ_eq (seed pub : List Int) (la tr i : Int) : compZ pub (ltrZ la tr i) 67 0 (rowW (pubP seed pub (otsZ la tr i))) = leafZ seed pub la tr i := by unfold leafZ; rfl
theorem Dg.leaf (seed pub : List Int) (la tr i : Int) : Dg (leafZ seed pub la tr i) := by
  rw [← leafZ_eq]
  exact compZ_dg _ _ 67 0 _ (rowW_each (Dg.pubP _ _ _)) (by rw [rowW_length]; omega) (by rw [rowW_length]; omega)
theorem ots_list (la tr i : Int) (w : World) (h0 : 0 ≤ tr) (h1 : tr < 18446744073709551616) :
    Calls Tryz.prog 64 #[.int .u32 la, .int .u64 tr, .int .u32 i] w fun e w' => e = .returned (.agg ((otsZ la tr i).map (Value.int .u32)).toArray) ∧ Below w.heap.size w w' := ots_any la tr i w h0 h1
theorem ltr_list (la tr i : Int) (w : World) (h0 : 0 ≤ tr) (h1 : tr < 18446744073709551616) :
    Calls Tryz.prog 54 #[.int .u32 la, .int .u64 tr, .int .u32 i] w fun e w' => e = .returned (.agg ((ltrZ la tr i).map (Value.int .u32)).toArray) ∧ Below w.heap.size w w' := ltree_any la tr i w h0 h1
set_option maxHeartbeats 4000000 in
theorem refbase_ots (la tr i : Int) (w : World) (h0 : 0 ≤ tr) (h1 : tr < 18446744073709551616) :
    Calls Tryz.prog 30 #[.int .u32 la, .int .u64 tr, .int .u32 0, .int .u32 i] w fun e w' => e = .returned (.agg ((otsZ la tr i).map (Value.int .u32)).toArray) ∧ Below w.heap.size w w' := by
  go_enter Tryz.func30, Tryz.ntmps30
  go_wp2
  go_returns
  exact ⟨rfl, by go_grown⟩
set_option maxHeartbeats 4000000 in
theorem refbase_ltr (la tr i : Int) (w : World) (h0 : 0 ≤ tr) (h1 : tr < 18446744073709551616) :
    Calls Tryz.prog 30 #[.int .u32 la, .int .u64 tr, .int .u32 1, .int .u32 i] w fun e w' => e = .returned (.agg ((ltrZ la tr i).map (Value.int .u32)).toArray) ∧ Below w.heap.size w w' := by
  go_enter Tryz.func30, Tryz.ntmps30
  go_wp2
  go_returns
  exact ⟨rfl, by go_grown⟩
set_option maxHeartbeats 4000000 in
theorem leaf_any (seed prf pub : List Int) (la tr i : Int) (w : World) (hseed : Dg seed) (hprf : Dg prf) (hpub : Dg pub) (hla : 0 ≤ la ∧ la < 4294967296) (htr : 0 ≤ tr ∧ tr < 18446744073709551616) (hi : 0 ≤ i ∧ i < 4294967296) (tab : ShaTab w) :
    Calls Tryz.prog 50 #[(.agg ((secL seed prf pub).map (Value.int .u8)).toArray), .int .u32 la, .int .u64 tr, .int .i64 i] w fun e w' => e = .returned (.agg ((leafZ seed pub la tr i).map (Value.int .u8)).toArray) ∧ Below w.heap.size w w' := by
  have HO := hid (Aw.ots hla htr hi)
  have HT := hid (Aw.ltr hla htr hi)
  have HL := hid (Dg.leaf seed pub la tr i)
  have C2 := hid (show ∀ (pa : Option Addr) (pc : Nat) (W : World) (h : DigsAt W pa 67 pc (rowW (pubP seed pub (otsZ la tr i)))) (t : ShaTab W), Calls Tryz.prog 53 #[.slice pa 67 pc, (.agg (pub.map (Value.int .u8)).toArray), (.agg ((ltrZ la tr i).map (Value.int .u32)).toArray)] W (fun e w' => e = .returned (.tuple #[(.agg ((leafZ seed pub la tr i).map (Value.int .u8)).toArray), .int .i64 0]) ∧ Below W.heap.size W w') from fun pa pc W h t => by
    have := compress_good pa 67 pc (rowW (pubP seed pub (otsZ la tr i))) pub (ltrZ la tr i) W h (by omega) hpub HT.out t
    rw [leafZ_eq] at this
    exact this)
  generalize leafZ seed pub la tr i = R at *
  have b1 := (Below.refl w.heap.size w).alloc (Nat.le_refl _) (.cells ((secL seed prf pub).map (Value.int .u8)).toArray 29 (0, 0))
  have b2 := b1.alloc b1.size (.cells (byteCells 32 []) 25 (0, 0))
  have Ks := hid ((Blk.new (w := w) (n := w.heap.size) rfl ((secL seed prf pub).map (Value.int .u8)).toArray 29).old (.cells (byteCells 32 []) 25 (0, 0)))
  have Kr0 := hid (Blk.new (w := w.alloc (.cells ((secL seed prf pub).map (Value.int .u8)).toArray 29 (0, 0))) (n := w.heap.size + 1) (by simp only [World.size_alloc]) (byteCells 32 []) 25)
  have Hb := hid b2
  have Hbs := hid (show w.heap.size + 1 + 1 = ((w.alloc (.cells ((secL seed prf pub).map (Value.int .u8)).toArray 29 (0, 0))).alloc (.cells (byteCells 32 []) 25 (0, 0))).heap.size by simp only [World.size_alloc])
  have HzA := hid zsize
  have Htab := hid tab
  clear b1 b2 tab
  go_enter Tryz.func50, Tryz.ntmps50
  go_wp2_with fail
  refine wp_region_flow 10 [0, 1, 2, 3, 4, 5, 6, 7, 8] [] [(.c 9, [], [])] (by kernel_rfl) (by kernel_rfl) ?_
  apply Exists.intro
  refine ⟨fun w0 hb0 hF0 => ?_, ?_⟩
  · skip
    have c0 := fun e : Ext w0 => ots_list la tr i e.at_ htr.1 htr.2
    have xs : ∀ w', (∃ x : Ext w0, w' = x.at_) → w'.rangeAt (w.heap.size) 0 (seed.map (Value.int .u8)) := fun w' ⟨x, hx⟩ => hx ▸ secL_seed ((Ks.out.below hb0).below x.same)
    have xp : ∀ w', (∃ x : Ext w0, w' = x.at_) → w'.rangeAt (w.heap.size) 64 (pub.map (Value.int .u8)) := fun w' ⟨x, hx⟩ => hx ▸ secL_pub hseed hprf ((Ks.out.below hb0).below x.same)
    simp only [pick, List.getElem?_toArray, List.getElem?_cons_succ, List.getElem?_cons_zero, Option.toList_some, List.cons_append, List.nil_append]
    repeat (first | (go_big_quiet_want; refine quiet_load_mid 25 _ rfl (w.heap.size) 0 rfl _ xs _ Tryz.underlying25 rfl (by rw [List.length_map, hseed.len]; exact size_digest) ?_; go_big_quiet_on; simp only [Act.put, List.setIfInBounds_toArray, List.set_cons_zero, List.set_cons_succ]) | (go_big_quiet_want; refine quiet_load_mid 25 _ rfl (w.heap.size) 64 rfl _ xp _ Tryz.underlying25 rfl (by rw [List.length_map, hpub.len]; exact size_digest) ?_; go_big_quiet_on; simp only [Act.put, List.setIfInBounds_toArray, List.set_cons_zero, List.set_cons_succ]) | go_big_quiet_step (first | (go_at_call 64; with_reducible exact Calls.ext (c0 _))))
    exact wpQuiet_nil rfl
  refine AlChk.nil ?_
  refine Walk.call rfl 76 #[(.agg (seed.map (Value.int .u8)).toArray), (.agg (pub.map (Value.int .u8)).toArray), (.agg ((otsZ la tr i).map (Value.int .u32)).toArray)] (RowV 67 (rowW (pubP seed pub (otsZ la tr i)))) (fun v w' w'' h k => h.below k) rfl (fun w1 hb1 hF1 => ⟨by go_simp, ?_⟩) ?_
  · skip
    exact public_v seed pub (otsZ la tr i) hseed hpub HO.out w1 ((Htab.out.below Hb.out).below hb1)
  rintro v0 w1 hb1 hF1 ⟨pa, pc, rfl, _⟩
  apply Exists.intro
  refine ⟨fun w0 hb0 hF0 => ?_, ?_⟩
  · skip
    exact wpQuiet_nil rfl
  refine AlChk.nil ?_
  refine Walk.fin fun w1 hw1 hFw1 _ => ?_
  simp only [List.drop_succ_cons, List.drop_zero]
  have HFw1 := hid hFw1
  have HBw1 := hid (Below.on Hb.out hw1)
  have hsw1 := HBw1.out.size
  have Ksw1 := hid (Ks.out.below hw1)
  have Kr0w1 := hid (Kr0.out.below hw1)
  clear hw1 hFw1
  have Hp := hid ((show RowV 67 (rowW (pubP seed pub (otsZ la tr i))) (.slice pa 67 pc) w1 from HFw1.out.2).digs.2)
  clear HFw1
  go_wp2_with fail
  refine wp_region_late 13 11 13 [0, 1, 2, 3, 4, 5, 6, 7, 8, 9, 10, 11] [12] [(.b 12, [], [])] (by kernel_rfl) (by kernel_rfl) rfl (by kernel_rfl) (fun _ _ d _ _ h => by cases d <;> exact h) ?_
  simp only [late]
  apply Exists.intro
  refine ⟨fun w0 hb0 hF0 => ?_, ?_⟩
  · skip
    have c0 := fun e : Ext w0 => ltr_list la tr i e.at_ htr.1 htr.2
    have c1 := fun e : Ext w0 => C2.out pa pc e.at_ ((Hp.out.below hb0).below e.same) ((Htab.out.below (Below.on HBw1.out hb0)).below e.same)
    have xp : ∀ w', (∃ x : Ext w0, w' = x.at_) → w'.rangeAt (w.heap.size) 64 (pub.map (Value.int .u8)) := fun w' ⟨x, hx⟩ => hx ▸ secL_pub hseed hprf ((Ksw1.out.below hb0).below x.same)
    simp only [pick, List.getElem?_toArray, List.getElem?_cons_succ, List.getElem?_cons_zero, Option.toList_some, List.cons_append, List.nil_append]
    repeat (first | (go_big_quiet_want; refine quiet_load_mid 25 _ rfl (w.heap.size) 64 rfl _ xp _ Tryz.underlying25 rfl (by rw [List.length_map, hpub.len]; exact size_digest) ?_; go_big_quiet_on; simp only [Act.put, List.setIfInBounds_toArray, List.set_cons_zero, List.set_cons_succ]) | go_big_quiet_step (first | (go_at_call 54; with_reducible exact Calls.ext (c0 _)) | (go_at_call 53; with_reducible exact Calls.ext (c1 _))))
    exact wpQuiet_nil rfl
  refine AlChk.one rfl (fun b => .pointer (some ⟨b, 0, none⟩)) (.cells (byteCells 32 []) 25 (0, 0)) rfl (fun w3 hb3 hF3 => by go_simp; rfl) ?_
  refine AlChk.nil ?_
  refine Walk.blk rfl (fun b => .pointer (some ⟨b, 0, none⟩)) (.cells (byteCells 32 []) 25 (0, 0)) (by simp) ?_
  intro bw2 wz hbz_ hFz hgew2 _
  apply Exists.intro
  refine ⟨fun w4 hb4 hF4 => wpQuiet_nil rfl, ?_⟩
  refine AlChk.nil ?_
  refine Walk.fin fun w2 hw2 hFw2 _ => ?_
  simp only [List.drop_succ_cons, List.drop_zero]
  have kbw2 : Blk w2 bw2 (byteCells 32 []) 25 := hFw2.2
  have Kzw2 := hid kbw2
  have hgww2 : w.heap.size ≤ bw2 := Nat.le_trans HBw1.out.size hgew2
  clear hbz_ hFz hFw2 kbw2
  have hnsw2 : w.heap.size ≠ bw2 := by have := Ksw1.out.lt; omega
  have hnr0w2 : w.heap.size + 1 ≠ bw2 := by have := Kr0w1.out.lt; omega
  have HBw2 := hid (Below.on HBw1.out hw2)
  have hsw2 := HBw2.out.size
  have Ksw2 := hid (Ksw1.out.below hw2)
  have Kr0w2 := hid (Kr0w1.out.below hw2)
  clear hw2
  go_wp2_with (first
     | (
        refine wpList_store_blk rfl 25 _ _ rfl bw2 (R.map (Value.int .u8)).toArray rfl rfl _ 25 Kzw2.out 32 size_digest HzA.out HL.out.size (ints_one _ _) ?_
        intro w3 hbw3 hkw3
        have HBw3 := hid (hbw3.below HBw2.out HBw2.out.size hgww2)
        have hsw3 := HBw3.out.size
        have Kyw3 := hid hkw3
        have Ksw3 := hid (hbw3.blk Ksw2.out hnsw2)
        have Kr0w3 := hid (hbw3.blk Kr0w2.out hnr0w2)
        clear hbw3 hkw3)
     | (refine wpList_load_blk rfl 25 _ rfl (bw2) rfl _ 25 Kyw3.out _ Tryz.underlying25 rfl 32 size_digest HL.out.size ?_)
     | (
      refine wpList_store_blk rfl 25 _ _ rfl (w.heap.size + 1) (R.map (Value.int .u8)).toArray rfl rfl _ 25 Kr0w3.out 32 size_digest HzA.out HL.out.size (ints_one _ _) ?_
      intro w9 hb9 hk9
      have HB9 := hid (hb9.below HBw3.out HBw3.out.size (by omega))
      have HK9 := hid hk9
      clear hb9 hk9))
  exact bodyPost_ret (v := (.agg (R.map (Value.int .u8)).toArray)) (results_blk Tryz.results50 _ (w.heap.size + 1) rfl _ 25 HK9.out _ Tryz.underlying25 rfl 32 size_digest HL.out.size) rfl ⟨rfl, HB9.out⟩
set_option maxHeartbeats 4000000 in
theorem refleaf_any (seed prf pub : List Int) (la tr i : Int) (w : World) (hseed : Dg seed) (hprf : Dg prf) (hpub : Dg pub) (hla : 0 ≤ la ∧ la < 4294967296) (htr : 0 ≤ tr ∧ tr < 18446744073709551616) (hi : 0 ≤ i ∧ i < 4294967296) :
    Calls Tryz.prog 66 #[(.agg ((secL seed prf pub).map (Value.int .u8)).toArray), .int .u32 la, .int .u64 tr, .int .u32 i] w fun e w' => e = .returned (.agg ((leafZ seed pub la tr i).map (Value.int .u8)).toArray) ∧ Below w.heap.size w w' := by
  have HO := hid (Aw.ots hla htr hi)
  have HT := hid (Aw.ltr hla htr hi)
  have HL := hid (Dg.leaf seed pub la tr i)
  have C2 := hid (show ∀ (pa : Option Addr) (pc : Nat) (W : World) (h : DigsAt W pa 67 pc (rowW (pubP seed pub (otsZ la tr i)))), Calls Tryz.prog 88 #[.slice pa 67 pc, (.agg (pub.map (Value.int .u8)).toArray), (.agg ((ltrZ la tr i).map (Value.int .u32)).toArray)] W (fun e w' => e = .returned (.agg ((leafZ seed pub la tr i).map (Value.int .u8)).toArray) ∧ Below W.heap.size W w') from fun pa pc W h => by
    have := refcompress_any pa 67 pc (rowW (pubP seed pub (otsZ la tr i))) pub (ltrZ la tr i) W h (by omega) hpub HT.out
    rw [leafZ_eq] at this
    exact this)
  generalize leafZ seed pub la tr i = R at *
  have b1 := (Below.refl w.heap.size w).alloc (Nat.le_refl _) (.cells ((secL seed prf pub).map (Value.int .u8)).toArray 29 (0, 0))
  have b2 := b1.alloc b1.size (.cells (byteCells 32 []) 25 (0, 0))
  have Ks := hid ((Blk.new (w := w) (n := w.heap.size) rfl ((secL seed prf pub).map (Value.int .u8)).toArray 29).old (.cells (byteCells 32 []) 25 (0, 0)))
  have Kr0 := hid (Blk.new (w := w.alloc (.cells ((secL seed prf pub).map (Value.int .u8)).toArray 29 (0, 0))) (n := w.heap.size + 1) (by simp only [World.size_alloc]) (byteCells 32 []) 25)
  have Hb := hid b2
  have Hbs := hid (show w.heap.size + 1 + 1 = ((w.alloc (.cells ((secL seed prf pub).map (Value.int .u8)).toArray 29 (0, 0))).alloc (.cells (byteCells 32 []) 25 (0, 0))).heap.size by simp only [World.size_alloc])
  have HzA := hid zsize
  clear b1 b2
  go_enter Tryz.func66, Tryz.ntmps66
  go_wp2_with fail
  refine wp_region_flow 9 [0, 1, 2, 3, 4, 5, 6, 7] [] [(.c 8, [], [])] (by kernel_rfl) (by kernel_rfl) ?_
  apply Exists.intro
  refine ⟨fun w0 hb0 hF0 => ?_, ?_⟩
  · skip
    have c0 := fun e : Ext w0 => refbase_ots la tr i e.at_ htr.1 htr.2
    have xs : ∀ w', (∃ x : Ext w0, w' = x.at_) → w'.rangeAt (w.heap.size) 0 (seed.map (Value.int .u8)) := fun w' ⟨x, hx⟩ => hx ▸ secL_seed ((Ks.out.below hb0).below x.same)
    have xp : ∀ w', (∃ x : Ext w0, w' = x.at_) → w'.rangeAt (w.heap.size) 64 (pub.map (Value.int .u8)) := fun w' ⟨x, hx⟩ => hx ▸ secL_pub hseed hprf ((Ks.out.below hb0).below x.same)
    simp only [pick, List.getElem?_toArray, List.getElem?_cons_succ, List.getElem?_cons_zero, Option.toList_some, List.cons_append, List.nil_append]
    repeat (first | (go_big_quiet_want; refine quiet_load_mid 25 _ rfl (w.heap.size) 0 rfl _ xs _ Tryz.underlying25 rfl (by rw [List.length_map, hseed.len]; exact size_digest) ?_; go_big_quiet_on; simp only [Act.put, List.setIfInBounds_toArray, List.set_cons_zero, List.set_cons_succ]) | (go_big_quiet_want; refine quiet_load_mid 25 _ rfl (w.heap.size) 64 rfl _ xp _ Tryz.underlying25 rfl (by rw [List.length_map, hpub.len]; exact size_digest) ?_; go_big_quiet_on; simp only [Act.put, List.setIfInBounds_toArray, List.set_cons_zero, List.set_cons_succ]) | go_big_quiet_step (first | (go_at_call 30; with_reducible exact Calls.ext (c0 _))))
    exact wpQuiet_nil rfl
  refine AlChk.nil ?_
  refine Walk.call rfl 87 #[(.agg (seed.map (Value.int .u8)).toArray), (.agg (pub.map (Value.int .u8)).toArray), (.agg ((otsZ la tr i).map (Value.int .u32)).toArray)] (RowV 67 (rowW (pubP seed pub (otsZ la tr i)))) (fun v w' w'' h k => h.below k) rfl (fun w1 hb1 hF1 => ⟨by go_simp, ?_⟩) ?_
  · skip
    exact refpublic_any seed pub (otsZ la tr i) w1 hseed hpub HO.out
  rintro v0 w1 hb1 hF1 ⟨pa, pc, rfl, _⟩
  apply Exists.intro
  refine ⟨fun w0 hb0 hF0 => ?_, ?_⟩
  · skip
    exact wpQuiet_nil rfl
  refine AlChk.nil ?_
  refine Walk.fin fun w1 hw1 hFw1 _ => ?_
  simp only [List.drop_succ_cons, List.drop_zero]
  have HFw1 := hid hFw1
  have HBw1 := hid (Below.on Hb.out hw1)
  have hsw1 := HBw1.out.size
  have Ksw1 := hid (Ks.out.below hw1)
  have Kr0w1 := hid (Kr0.out.below hw1)
  clear hw1 hFw1
  have Hp := hid ((show RowV 67 (rowW (pubP seed pub (otsZ la tr i))) (.slice pa 67 pc) w1 from HFw1.out.2).digs.2)
  clear HFw1
  go_wp2_with fail
  refine wp_region_flow 8 (List.range 8) [] [] (by kernel_rfl) (by kernel_rfl) ?_
  apply Exists.intro
  refine ⟨fun w0 hb0 hF0 => ?_, ?_⟩
  · skip
    have c0 := fun e : Ext w0 => refbase_ltr la tr i e.at_ htr.1 htr.2
    have c1 := fun e : Ext w0 => C2.out pa pc e.at_ ((Hp.out.below hb0).below e.same)
    have xp : ∀ w', (∃ x : Ext w0, w' = x.at_) → w'.rangeAt (w.heap.size) 64 (pub.map (Value.int .u8)) := fun w' ⟨x, hx⟩ => hx ▸ secL_pub hseed hprf ((Ksw1.out.below hb0).below x.same)
    simp only [pick, List.range, List.range.loop, List.getElem?_toArray, List.getElem?_cons_succ, List.getElem?_cons_zero, Option.toList_some, List.cons_append, List.nil_append]
    repeat (first | (go_big_quiet_want; refine quiet_load_mid 25 _ rfl (w.heap.size) 64 rfl _ xp _ Tryz.underlying25 rfl (by rw [List.length_map, hpub.len]; exact size_digest) ?_; go_big_quiet_on; simp only [Act.put, List.setIfInBounds_toArray, List.set_cons_zero, List.set_cons_succ]) | go_big_quiet_step (first | (go_at_call 30; with_reducible exact Calls.ext (c0 _)) | (go_at_call 88; with_reducible exact Calls.ext (c1 _))))
    exact wpQuiet_nil rfl
  refine AlChk.nil ?_
  refine Walk.fin fun w2 hw2 _ _ => ?_
  simp only [List.drop_succ_cons, List.drop_zero]
  have HBw2 := hid (Below.on HBw1.out hw2)
  have hsw2 := HBw2.out.size
  have Ksw2 := hid (Ksw1.out.below hw2)
  have Kr0w2 := hid (Kr0w1.out.below hw2)
  clear hw2
  go_wp2_with (
      refine wpList_store_blk rfl 25 _ _ rfl (w.heap.size + 1) (R.map (Value.int .u8)).toArray rfl rfl _ 25 Kr0w2.out 32 size_digest HzA.out HL.out.size (ints_one _ _) ?_
      intro w9 hb9 hk9
      have HB9 := hid (hb9.below HBw2.out HBw2.out.size (by omega))
      have HK9 := hid hk9
      clear hb9 hk9)
  exact bodyPost_ret (v := (.agg (R.map (Value.int .u8)).toArray)) (results_blk Tryz.results66 _ (w.heap.size + 1) rfl _ 25 HK9.out _ Tryz.underlying25 rfl 32 size_digest HL.out.size) rfl ⟨rfl, HB9.out⟩
end Go.Proofs.YtjkfbeillmeomaaGreatDoor
namespace Go.Proofs.YtjkfbeillmeomaaGreatDoor
set_option maxRecDepth 100000
open Go.ChangeShapes Go.WideShapes Go.ChangeAt Go.RowKit
structure Nod where
  d : List Int
  l : Nat
  q : Nat
def nodC (x : Nod) : List Value := x.d.map (Value.int .u8) ++ [.int .i64 x.l, .int .i64 x.q]
theorem nodC_length {x : Nod} (h : Dg x.d) : (nodC x).length = 34 := by simp [nodC, h.len]
theorem nodC_size {x : Nod} (h : Dg x.d) : (nodC x).toArray.size = 34 := by rw [List.size_toArray, nodC_length h]
theorem nodC_dig {x : Nod} {w : World} {b : Nat} {T : TypeId} (k : Blk w b (nodC x).toArray T) : w.rangeAt b 0 (x.d.map (Value.int .u8)) := fun j v hv => by
  have hj : j < x.d.length := by have := (List.getElem?_eq_some_iff.1 hv).1; simpa using this
  rw [Nat.zero_add, k.cell, List.getElem?_toArray, ← hv]
  unfold nodC
  rw [List.getElem?_append_left (by rw [List.length_map]; exact hj)]
theorem nodC_lev {x : Nod} (h : Dg x.d) {w : World} {b : Nat} {T : TypeId} (k : Blk w b (nodC x).toArray T) : w.cell? ⟨b, 32, none⟩ = some (.int .i64 x.l) := by
  rw [k.cell, List.getElem?_toArray]
  unfold nodC
  rw [List.getElem?_append_right (by rw [List.length_map, h.len]; omega), List.length_map, h.len]
  rfl
theorem nodC_num {x : Nod} (h : Dg x.d) {w : World} {b : Nat} {T : TypeId} (k : Blk w b (nodC x).toArray T) : w.cell? ⟨b, 33, none⟩ = some (.int .i64 x.q) := by
  rw [k.cell, List.getElem?_toArray]
  unfold nodC
  rw [List.getElem?_append_right (by rw [List.length_map, h.len]; omega), List.length_map, h.len]
  rfl
theorem nodC_one (x : Nod) : ∀ v ∈ nodC x, v.oneCell' = true := fun v hv => by
  unfold nodC at hv
  rcases List.mem_append.1 hv with hv | hv
  · obtain ⟨_, _, rfl⟩ := List.mem_map.1 hv
    rfl
  · simp only [List.mem_cons, List.not_mem_nil, or_false] at hv
    rcases hv with rfl | rfl <;> rfl
theorem nodC_ones (x : Nod) : (nodC x).toArray.all (·.oneCell') = true := all_oneCell_toArray (nodC_one x)
def nodZ : Array Value := (nodC ⟨zD, 0, 0⟩).toArray
theorem nodZ_size : nodZ.size = 34 := by decide
theorem info_nod : (Tryz.prog.info? 106).map (fun i => (i.zero, i.size, i.bytes)) = some (some (.agg nodZ), 34, 48) := by kernel_rfl
theorem size_nod : (Tryz.prog.info? 106).map (·.size) = some 34 := by kernel_rfl
def nodsC (l : List Nod) : List Value := (l.map nodC).flatten
theorem nodsC_append (a b : List Nod) : nodsC (a ++ b) = nodsC a ++ nodsC b := by simp [nodsC]
theorem nodsC_one (x : Nod) : nodsC [x] = nodC x := by simp [nodsC]
theorem nodsC_length : ∀ {l : List Nod}, (∀ x ∈ l, Dg x.d) → (nodsC l).length = l.length * 34
  | [], _ => rfl
  | x :: l, h => by
    have h1 := nodsC_length (l := l) (fun y hy => h y (by simp [hy]))
    have h2 := nodC_length (h x (by simp))
    unfold nodsC at h1 ⊢
    rw [List.map_cons, List.flatten_cons, List.length_append, h1, h2, List.length_cons]
    omega
theorem build_nod (d : List Int) (l q : Nat) (hd : Dg d) (w : World) : (Instr.build 106 #[(0, .agg (d.map (Value.int .u8)).toArray), (1, .int .i64 l), (2, .int .i64 q)]).run Tryz.prog w = .ok (.agg (nodC ⟨d, l, q⟩).toArray) w := by
  refine run_build w _ _ _ ?_
  obtain ⟨i0, hi, hz0, hz1, hz2⟩ := info_parts info_nod
  obtain ⟨fields, hu, hp⟩ : ∃ fields, Tryz.prog.underlying 106 = some (.struct fields) ∧ fields.toList.mapM (fun f => (Tryz.prog.info? f.type).map fun i => (f.offset, i.size)) = some [(0, 32), (32, 1), (33, 1)] := ⟨_, Tryz.underlying106, by kernel_rfl⟩
  unfold Program.built
  simp only [hi, hu, hz0, hp]
  have hc : (Value.agg (d.map (Value.int .u8)).toArray).cells = (d.map (Value.int .u8)).toArray := rfl
  have hs : (Value.agg (d.map (Value.int .u8)).toArray).cells.size = 32 := by rw [hc]; exact hd.size
  rw [fill_part _ _ 0 0 _ _ (by rw [hs]; rfl) (by rw [hs, show (Value.agg nodZ).cells = nodZ from rfl, nodZ_size]; omega), hc]
  have h1 : splice (Value.agg nodZ).cells.toList 0 (d.map (Value.int .u8)).toArray.toList = nodC ⟨d, 0, 0⟩ := by
    unfold splice
    rw [show (Value.agg nodZ).cells.toList = nodC ⟨zD, 0, 0⟩ from rfl]
    simp only [List.length_map, List.take_zero, List.nil_append, Nat.zero_add, hd.len]
    rfl
  rw [h1, fill_part _ _ 1 32 _ _ (by rfl) (by rw [nodC_size hd]; show 32 + 1 ≤ 34; omega)]
  have h2 : splice (nodC ⟨d, 0, 0⟩) 32 (Value.int IntKind.i64 (l : Int)).cells.toList = nodC ⟨d, l, 0⟩ := by
    show splice (nodC ⟨d, 0, 0⟩) 32 [Value.int IntKind.i64 (l : Int)] = _
    unfold splice nodC
    rw [List.take_append, List.drop_append, List.length_map, hd.len, List.take_of_length_le (by rw [List.length_map, hd.len]; omega), List.drop_eq_nil_of_le (by rw [List.length_map, hd.len]; simp)]
    simp
  have h3 : splice (nodC ⟨d, l, 0⟩) 33 (Value.int IntKind.i64 (q : Int)).cells.toList = nodC ⟨d, l, q⟩ := by
    show splice (nodC ⟨d, l, 0⟩) 33 [Value.int IntKind.i64 (q : Int)] = _
    unfold splice nodC
    rw [List.take_append, List.drop_append, List.length_map, hd.len, List.take_of_length_le (by rw [List.length_map, hd.len]; omega), List.drop_eq_nil_of_le (by rw [List.length_map, hd.len]; simp)]
    simp
  rw [List.toList_toArray, h2, fill_part _ _ 2 33 _ _ (by rfl) (by rw [nodC_size hd]; show 33 + 1 ≤ 34; omega), List.toList_toArray, h3, Instr.fill]
theorem But.of_two {b : Nat} {w w1 w2 w3 : World} (h1 : Below w.heap.size w w1) (h2 : But b w1 w2) (h3 : But w.heap.size w2 w3) : But b w w3 :=
  ⟨by rw [h3.os, h2.os, h1.os], by rw [h3.tape, h2.tape, h1.tape], by rw [h3.output, h2.output, h1.output], Nat.le_trans h1.size (Nat.le_trans h2.size h3.size), fun k hk hne => by
    have a1 := h1.size
    have a2 := h2.size
    rw [h3.block k (by omega) (by omega), h2.block k (by omega) hne, h1.block k hk]⟩
set_option maxHeartbeats 4000000 in
theorem pop_any (b base n : Nat) (cs : Array Value) (T : TypeId) (v : Value) (ys : List Value) (x : Nod) (w : World) (hk : Blk w b cs T) (hc : cs[0]? = some v) (hcs : 0 < cs.size) (hown : w.ownsRow base 106 34 v (n + 1) (ys ++ nodC x)) (hy : ys.length = n * 34) (hx : Dg x.d) (hne : ¬ v.ownBlock = some b) :
    Calls Tryz.prog 51 #[.pointer (some ⟨b, 0, none⟩)] w fun e w' => e = .returned (.agg (nodC x).toArray) ∧ ∃ v', But b w w' ∧ Blk w' b (cs.setIfInBounds 0 v') T ∧ w'.ownsRow base 106 34 v' n ys ∧ v'.ownBlock = v.ownBlock := by
  obtain ⟨g, cap, rfl, hg, hle, hmx, hgl, hr, hpop⟩ := own_pop hown rfl hy
  have hbg : g ≠ b := fun h => hne (by rw [h]; rfl)
  have hbl := hk.lt
  unfold maxLen at hmx
  have Hr := hid hr
  have Hpop := hid hpop
  have Hc := hid hc
  have Hk := hid hk
  clear hown hr hpop hne hc hk
  have bA := (Below.refl w.heap.size w).alloc (Nat.le_refl _) (.cells nodZ 106 (0, 0))
  have Kr0 := hid (Blk.new (w := w) (n := w.heap.size) rfl nodZ 106)
  have Hb := hid bA
  have hn1 : (n : Int) + 1 - 1 = n := by omega
  have hcut : ∀ W : World, (Instr.slice 98 (.slice (some ⟨g, 0, none⟩) (n + 1) cap) none (some (.int .i64 n)) none).run Tryz.prog W = .ok (.slice (some ⟨g, 0, none⟩) n cap) W := fun W => by
    have := run_cutr_h (P := Tryz.prog) Tryz.underlying98 (by kernel_rfl) (some ⟨g, 0, none⟩) (n + 1) cap (n : Int) W (by omega) (by omega)
    rw [Int.toNat_natCast] at this
    exact this
  clear bA
  go_enter Tryz.func51, Tryz.ntmps51
  go_wp2_with fail
  refine wp_region_flow 13 (List.range 12) [12] [(.b 12, [], [])] (by kernel_rfl) (by kernel_rfl) ?_
  apply Exists.intro
  refine ⟨fun w0 hb0 hF0 => ?_, ?_⟩
  · skip
    have y0 : ∀ w', (∃ x : Ext w0, w' = x.at_) → w'.cell? ⟨b, 0, none⟩ = some (.slice (some ⟨g, 0, none⟩) (n + 1) cap) := fun w' ⟨x, hx⟩ => by rw [hx, ((Hk.out.below (Below.on Hb.out hb0)).below x.same).cell]; exact Hc.out
    have x0 : ∀ w', (∃ x : Ext w0, w' = x.at_) → w'.rangeAt g (0 + n * 34) (nodC x) := fun w' ⟨z, hz⟩ => hz ▸ rangeAt_below (rangeAt_below Hr.out hgl (Below.on Hb.out hb0)) (Nat.lt_of_lt_of_le hgl (Below.on Hb.out hb0).size) z.same
    simp only [pick, List.range, List.range.loop, List.getElem?_toArray, List.getElem?_cons_succ, List.getElem?_cons_zero, Option.toList_some, List.cons_append, List.nil_append]
    repeat (first | (go_big_quiet_want; refine quiet_load_one 98 _ rfl ⟨b, 0, none⟩ rfl _ y0 _ Tryz.underlying98 rfl ?_; go_big_quiet_on; simp only [Act.put, List.setIfInBounds_toArray, List.set_cons_zero, List.set_cons_succ]) | (go_big_quiet_want; refine quiet_index_sz 98 _ _ rfl Tryz.underlying98 size_nod g 0 (n + 1) cap rfl _ _ rfl n (by omega) (by omega) ?_; go_big_quiet_on; simp only [Act.put, List.setIfInBounds_toArray, List.set_cons_zero, List.set_cons_succ]) | (go_big_quiet_want; refine quiet_load_mid 106 _ rfl g (0 + n * 34) rfl _ x0 _ Tryz.underlying106 rfl (by rw [nodC_length hx]; exact size_nod) ?_; go_big_quiet_on; simp only [Act.put, List.setIfInBounds_toArray, List.set_cons_zero, List.set_cons_succ]) | go_big_quiet_step (fail))
    exact wpQuiet_nil rfl
  refine AlChk.one rfl (fun b => .pointer (some ⟨b, 0, none⟩)) (.cells nodZ 106 (0, 0)) rfl (fun w3 hb3 hF3 => by go_simp; rfl) ?_
  refine AlChk.nil ?_
  refine Walk.blk rfl (fun b => .pointer (some ⟨b, 0, none⟩)) (.cells nodZ 106 (0, 0)) (by simp) ?_
  intro c wz hbz_ hFz hgec _
  apply Exists.intro
  refine ⟨fun w4 hb4 hF4 => wpQuiet_nil rfl, ?_⟩
  refine AlChk.nil ?_
  refine Walk.fin fun w5 h5 hF5 _ => ?_
  simp only [List.drop_succ_cons, List.drop_zero]
  have kc : Blk w5 c nodZ 106 := hF5.2
  have Kc := hid kc
  have HB5 := hid (Below.on Hb.out h5)
  have Kr5 := hid (Kr0.out.below h5)
  have hwc : w.heap.size < c := by
    have h1 : (w.alloc (.cells nodZ 106 (0, 0))).heap.size ≤ c := hgec
    rw [World.size_alloc] at h1
    omega
  clear h5 hF5 kc hbz_ hFz
  go_wp2_with (
    refine wpList_store_blk rfl 106 _ _ rfl c (nodC x).toArray rfl rfl _ 106 Kc.out 34 size_nod nodZ_size (nodC_size hx) (nodC_ones x) ?_
    intro w6 hb6 hk6
    have HB6 := hid (hb6.below HB5.out HB5.out.size (by omega))
    have Kc6 := hid hk6
    have Kr6 := hid (hb6.blk Kr5.out (by omega))
    clear hb6 hk6)
  simp only [Act.put, List.setIfInBounds_toArray, List.set_cons_zero, List.set_cons_succ]
  refine wp_region_flow 14 (List.range 14) [] [] (by kernel_rfl) (by kernel_rfl) ?_
  apply Exists.intro
  refine ⟨fun w0 hb0 hF0 => ?_, ?_⟩
  · skip
    have y0 : ∀ w', (∃ x : Ext w0, w' = x.at_) → w'.cell? ⟨b, 0, none⟩ = some (.slice (some ⟨g, 0, none⟩) (n + 1) cap) := fun w' ⟨x, hx⟩ => by rw [hx, ((Hk.out.below (Below.on HB6.out hb0)).below x.same).cell]; exact Hc.out
    simp only [pick, List.range, List.range.loop, List.getElem?_toArray, List.getElem?_cons_succ, List.getElem?_cons_zero, Option.toList_some, List.cons_append, List.nil_append]
    repeat (first | (go_big_quiet_want; refine quiet_load_one 98 _ rfl ⟨b, 0, none⟩ rfl _ y0 _ Tryz.underlying98 rfl ?_; go_big_quiet_on; simp only [Act.put, List.setIfInBounds_toArray, List.set_cons_zero, List.set_cons_succ]) | go_big_quiet_step (fail))
    exact wpQuiet_nil rfl
  refine AlChk.nil ?_
  refine Walk.fin fun w7 h7 _ _ => ?_
  simp only [List.drop_succ_cons, List.drop_zero]
  have HB7 := hid (Below.on HB6.out h7)
  have Kc7 := hid (Kc6.out.below h7)
  have Kr7 := hid (Kr6.out.below h7)
  clear h7
  have Kb7 := hid (Hk.out.below HB7.out)
  go_wp2_with (first
   | (
    refine wpList_store_cell rfl 98 _ _ rfl b 0 (.slice (some ⟨g, 0, none⟩) n cap) rfl rfl rfl rfl cs T Kb7.out hcs (by kernel_rfl) ?_
    intro w8 hb8 hk8
    have H8 := hid hb8
    have Kb8 := hid hk8
    have Kc8 := hid (hb8.blk Kc7.out (by omega))
    have Kr8 := hid (hb8.blk Kr7.out (by omega))
    clear hb8 hk8)
   | (refine wpList_load_blk rfl 106 _ rfl c rfl _ 106 Kc8.out _ Tryz.underlying106 rfl 34 size_nod (nodC_size hx) ?_)
   | (
    refine wpList_store_blk rfl 106 _ _ rfl (w.heap.size) (nodC x).toArray rfl rfl _ 106 Kr8.out 34 size_nod nodZ_size (nodC_size hx) (nodC_ones x) ?_
    intro w9 hb9 hk9
    have H9 := hid hb9
    have Kr9 := hid hk9
    have Kb9 := hid (hb9.blk Kb8.out (by omega))
    clear hb9 hk9))
  exact bodyPost_ret (v := .agg (nodC x).toArray) (results_blk Tryz.results51 _ (w.heap.size) rfl _ 106 Kr9.out _ Tryz.underlying106 rfl 34 size_nod (nodC_size hx)) rfl ⟨rfl, _, But.of_two HB7.out H8.out H9.out, Kb9.out, Hpop.out _ (by rw [H9.out.block g (by have := HB7.out.size; have := H8.out.size; omega) (by omega), H8.out.block g (by have := HB7.out.size; omega) hbg, HB7.out.block g hgl]), rfl⟩
end Go.Proofs.YtjkfbeillmeomaaGreatDoor
namespace Go.Proofs.YtjkfbeillmeomaaGreatDoor
set_option maxRecDepth 100000
open Go.ChangeShapes Go.WideShapes Go.ChangeAt Go.RowKit
theorem FlowB.ButIn.of_store {S : List Nat} {b : Nat} {w w1 w2 : World} (h1 : FlowB.ButIn S w w1) (h2 : But b w1 w2) : FlowB.ButIn (b :: S) w w2 :=
  ⟨by rw [h2.os, h1.os], by rw [h2.tape, h1.tape], by rw [h2.output, h1.output], Nat.le_trans h1.size h2.size, fun k hk hne => by
    have a1 := h1.size
    rw [h2.block k (by omega) (fun e => hne (by rw [e]; simp)), h1.block k hk (fun e => hne (by simp [e]))]⟩
theorem FlowB.ButIn.after {S : List Nat} {w w1 w2 : World} (h0 : Below w.heap.size w w1) (h1 : FlowB.ButIn S w1 w2) : FlowB.ButIn S w w2 :=
  ⟨by rw [h1.os, h0.os], by rw [h1.tape, h0.tape], by rw [h1.output, h0.output], Nat.le_trans h0.size h1.size, fun k hk hne => by
    have a1 := h0.size
    rw [h1.block k (by omega) hne, h0.block k hk]⟩
theorem own_cell {w : World} {base n sz : Nat} {e : TypeId} {v : Value} {xs : List Value} (h : w.ownsRow base e sz v n xs) : v.oneCell' = true := by
  obtain ⟨_, ⟨rfl, _⟩ | ⟨g, cap, cur, rfl, _⟩⟩ := h <;> rfl
theorem own_cells {w : World} {base n sz : Nat} {e : TypeId} {v : Value} {xs : List Value} (h : w.ownsRow base e sz v n xs) : v.cells = #[v] := by
  obtain ⟨_, ⟨rfl, _⟩ | ⟨g, cap, cur, rfl, _⟩⟩ := h <;> rfl
theorem own_but {w w' : World} {base n sz b : Nat} {e : TypeId} {v : Value} {xs : List Value} (h : w.ownsRow base e sz v n xs) (hb : But b w w') (hne : ¬ v.ownBlock = some b) : w'.ownsRow base e sz v n xs := by
  obtain ⟨h1, ⟨rfl, h2⟩ | ⟨g, cap, cur, rfl, hg, hh, h3⟩⟩ := h
  · exact ⟨h1, .inl ⟨rfl, h2⟩⟩
  · refine ⟨h1, .inr ⟨g, cap, cur, rfl, hg, ?_, h3⟩⟩
    rw [hb.block g (Array.getElem?_eq_some_iff.1 hh).1 (fun e => hne (by rw [e]; rfl))]
    exact hh
set_option maxHeartbeats 4000000 in
theorem push_any (b base n : Nat) (cs : Array Value) (T : TypeId) (v : Value) (xs : List Value) (x : Nod) (w : World) (hk : Blk w b cs T) (hc : cs[0]? = some v) (hcs : 0 < cs.size) (hown : w.ownsRow base 106 34 v n xs) (hx : Dg x.d) (hne : ¬ v.ownBlock = some b) (hbase : base ≤ w.heap.size) (hn : n ≤ 1000) :
    Calls Tryz.prog 75 #[.pointer (some ⟨b, 0, none⟩), .agg (nodC x).toArray] w fun e w' => e = .returned (.tuple #[]) ∧ ∃ v', FlowB.ButIn (b :: v.ownBlock.toList) w w' ∧ Blk w' b (cs.setIfInBounds 0 v') T ∧ w'.ownsRow base 106 34 v' (n + 1) (xs ++ nodC x) ∧ (v'.ownBlock = v.ownBlock ∨ ∃ g, v'.ownBlock = some g ∧ w.heap.size ≤ g) := by
  have hlo := hown.lt
  have hbl := hk.lt
  have HO0 := hid hown
  have Hc := hid hc
  have Hk := hid hk
  clear hown hc hk
  obtain ⟨i0, hi, hz0, hz1, hz2⟩ := info_parts info_nod
  have bA := (Below.refl w.heap.size w).alloc (Nat.le_refl _) (.cells (nodC x).toArray 106 (0, 0))
  have Kx := hid (Blk.new (w := w) (n := w.heap.size) rfl (nodC x).toArray 106)
  have Kb := hid (Hk.out.below bA)
  have HO := hid (owns_below HO0.out bA)
  have Hb := hid bA
  have hbS : b ∉ v.ownBlock.toList := fun hm => hne (by simpa using hm)
  have hxS : w.heap.size ∉ v.ownBlock.toList := fun hm => by have := hlo _ (by simpa using hm); omega
  have hS : ∀ g ∈ v.ownBlock.toList, g < (w.alloc (.cells (nodC x).toArray 106 (0, 0))).heap.size := fun g hm => by
    have := hlo _ (by simpa using hm)
    rw [World.size_alloc]
    omega
  clear bA
  go_enter Tryz.func75, Tryz.ntmps75
  go_wp2_with fail
  refine FlowB.wp_region_butIn (v.ownBlock.toList) (fun wz => wz.ownsRow base 106 34 v n xs) 10 [0, 1, 2, 3, 4, 5, 8, 9] [6] [(.b 6, [], []), (.c 7, [], [])] (by kernel_rfl) (by kernel_rfl) HO.out (fun _ _ h hb => owns_below h hb) ?_
  apply Exists.intro
  refine ⟨fun w0 hb0 hF0 => ?_, ?_⟩
  · skip
    have y0 : ∀ w', (∃ x : Ext w0, w' = x.at_) → w'.cell? ⟨b, 0, none⟩ = some v := fun w' ⟨z, hz⟩ => by rw [hz, ((hb0.blk Kb.out hbS).below z.same).cell]; exact Hc.out
    have x0 : ∀ w', (∃ x : Ext w0, w' = x.at_) → ∃ T, Blk w' (w.heap.size) (nodC x).toArray T := fun w' ⟨z, hz⟩ => ⟨_, hz ▸ (hb0.blk Kx.out hxS).below z.same⟩
    simp only [pick, List.getElem?_toArray, List.getElem?_cons_succ, List.getElem?_cons_zero, Option.toList_some, List.cons_append, List.nil_append]
    repeat (first | (go_big_quiet_want; refine quiet_load_one 98 _ rfl ⟨b, 0, none⟩ rfl _ y0 _ Tryz.underlying98 rfl ?_; go_big_quiet_on; simp only [Act.put, List.setIfInBounds_toArray, List.set_cons_zero, List.set_cons_succ]) | (go_big_quiet_want; refine quiet_load_blk 106 _ rfl (w.heap.size) rfl _ x0 _ Tryz.underlying106 rfl 34 size_nod (nodC_size hx) ?_; go_big_quiet_on; simp only [Act.put, List.setIfInBounds_toArray, List.set_cons_zero, List.set_cons_succ]) | go_big_quiet_step (fail))
    exact wpQuiet_nil rfl
  refine FlowB.AlChk.one rfl (fun b => .slice (some ⟨b, 0, none⟩) 1 1) (.cells (nodC x).toArray 106 (0, 0)) rfl (FlowB.st_butIn _ hS) (fun w2 hb2 hF2 => exec_build_rec (v := .agg (nodC x).toArray) rfl rfl Tryz.underlying98 hi hz0 hz1 (by omega) (by omega) (nodC_size hx)) ?_
  refine FlowB.AlChk.nil ?_
  refine FlowB.Walk.blk rfl (fun b => .slice (some ⟨b, 0, none⟩) 1 1) (.cells (nodC x).toArray 106 (0, 0)) (by simp) ?_
  intro b9 w2 hb2 hF2 hge9 _
  apply Exists.intro
  refine ⟨fun w2 hb2 hF2 => wpQuiet_nil rfl, ?_⟩
  refine FlowB.AlChk.nil ?_
  refine FlowB.Walk.does rfl (fun v' _ => v'.ownBlock = v.ownBlock ∨ ∃ g, v'.ownBlock = some g ∧ w.heap.size ≤ g) (fun v' w' => w'.ownsRow base 106 34 v' (n + 1) (xs ++ nodC x)) (fun v w' w'' _ h _ => h) (fun v w' w'' h k => owns_below h k) rfl (fun w2 hb2 hF2 hG2 => ?_) ?_
  · have k9 : Blk w2 b9 (nodC x).toArray 106 := hF2.2
    have hsz : w.heap.size ≤ w2.heap.size := Nat.le_trans Hb.out.size hb2.size
    obtain ⟨v', w', hr, q2, q3, q4, q5⟩ := run_append_own_at (P := Tryz.prog) (w := w2) base 98 _ 106 i0 _ 34 48 Tryz.underlying98 hi hz0 hz1 hz2 nodZ_size (by omega) v n xs hG2 ⟨b9, 0, none⟩ 1 1 (nodC x) (by rw [nodC_length hx]) (news_blk k9) (nodC_one x) (by unfold maxLen; omega) (by omega) (by omega)
    exact ⟨v', w', FlowB.exec_append rfl rfl rfl hr, FlowB.ButIn.of_grown q3, q5.imp id (fun h => ⟨_, h, hsz⟩), q2⟩
  rintro v3 w3 hb3 hF3 hv3
  apply Exists.intro
  refine ⟨fun w2 hb2 hF2 => wpQuiet_nil rfl, ?_⟩
  refine FlowB.AlChk.nil ?_
  refine FlowB.Walk.fin fun w4 h4 _ hG4 => ?_
  simp only [List.drop_succ_cons, List.drop_zero]
  have HG4 := hid hG4
  have Kb4 := hid (h4.blk Kb.out hbS)
  have H4 := hid (FlowB.ButIn.after Hb.out h4)
  have hne3 : ¬ v3.ownBlock = some b := fun h => by
    rcases hv3 with h1 | ⟨g, h1, h2⟩
    · exact hne (by rw [← h1]; exact h)
    · rw [h1] at h
      injection h with h
      omega
  clear h4 hG4
  have Hv3 := hid hv3
  have ho1 : v3.oneCell' = true := own_cell HG4.out
  have hc1 : v3.cells = #[v3] := own_cells HG4.out
  go_wp2_with (
    refine wpList_store_cell rfl 98 _ _ rfl b 0 v3 rfl rfl ho1 hc1 cs T Kb4.out hcs (by kernel_rfl) ?_
    intro w8 hb8 hk8
    have H8 := hid hb8
    have Kb8 := hid hk8
    clear hb8 hk8)
  go_end0
  exact ⟨rfl, FlowB.ButIn.of_store H4.out H8.out, v3, Kb8.out, own_but HG4.out H8.out hne3, Hv3.out⟩
end Go.Proofs.YtjkfbeillmeomaaGreatDoor
namespace Go.Proofs.YtjkfbeillmeomaaGreatDoor
set_option maxRecDepth 100000
open Go.ChangeShapes Go.WideShapes Go.ChangeAt Go.RowKit
set_option maxHeartbeats 4000000 in
theorem holds_none (b : Nat) (cs : Array Value) (T : TypeId) (a : Option Addr) (c : Nat) (lev : Int) (w : World) (hk : Blk w b cs T) (hc : cs[0]? = some (.slice a 0 c)) :
    Calls Tryz.prog 73 #[.pointer (some ⟨b, 0, none⟩), .int .i64 lev] w fun e w' => e = .returned (.bool false) ∧ Below w.heap.size w w' := by
  have Hc := hid hc
  have Hk := hid hk
  clear hc hk
  go_enter Tryz.func73, Tryz.ntmps73
  go_wp2_with fail
  refine wp_region_flow 23 (List.range 23) [] [] (by kernel_rfl) (by kernel_rfl) ?_
  apply Exists.intro
  refine ⟨fun w0 hb0 hF0 => ?_, ?_⟩
  · skip
    have y0 : ∀ w', (∃ x : Ext w0, w' = x.at_) → w'.cell? ⟨b, 0, none⟩ = some (.slice a 0 c) := fun w' ⟨z, hz⟩ => by rw [hz, ((Hk.out.below hb0).below z.same).cell]; exact Hc.out
    simp only [pick, List.range, List.range.loop, List.getElem?_toArray, List.getElem?_cons_succ, List.getElem?_cons_zero, Option.toList_some, List.cons_append, List.nil_append]
    repeat (first | (go_big_quiet_want; refine quiet_load_one 98 _ rfl ⟨b, 0, none⟩ rfl _ y0 _ Tryz.underlying98 rfl ?_; go_big_quiet_on; simp only [Act.put, List.setIfInBounds_toArray, List.set_cons_zero, List.set_cons_succ]) | go_big_quiet_step (fail))
    exact wpQuiet_nil rfl
  refine AlChk.nil ?_
  refine Walk.fin fun w1 h1 _ _ => ?_
  simp only [List.drop_succ_cons, List.drop_zero]
  have H1 := hid h1
  clear h1
  go_wp2_with fail
  go_returns
  exact ⟨rfl, H1.out⟩
set_option maxHeartbeats 4000000 in
theorem holds_top (b base n : Nat) (cs : Array Value) (T : TypeId) (v : Value) (ys : List Value) (x : Nod) (lev : Int) (r : Bool) (w : World) (hk : Blk w b cs T) (hc : cs[0]? = some v) (hown : w.ownsRow base 106 34 v (n + 1) (ys ++ nodC x)) (hy : ys.length = n * 34) (hx : Dg x.d) (hr : ((x.l : Int) == lev) = r) :
    Calls Tryz.prog 73 #[.pointer (some ⟨b, 0, none⟩), .int .i64 lev] w fun e w' => e = .returned (.bool r) ∧ Below w.heap.size w w' := by
  have hr2 : decide ((x.l : Int) = lev) = r := by rw [← hr]; rfl
  obtain ⟨g, cap, rfl, hg, hle, hmx, hgl, hrr, _⟩ := own_pop hown rfl hy
  unfold maxLen at hmx
  have Hr := hid hrr
  have Hc := hid hc
  have Hk := hid hk
  have hn1 : (0 : Int) < (n : Int) + 1 := by omega
  have hlv : w.cell? ⟨g, n * 34 + 32, none⟩ = some (.int .i64 x.l) := (congrArg (fun k => w.cell? ⟨g, k, none⟩) (show n * 34 + 32 = 0 + n * 34 + 32 by omega)).trans (hrr 32 _ <| by
    unfold nodC
    rw [List.getElem?_append_right (by rw [List.length_map, hx.len]; omega), List.length_map, hx.len]
    rfl)
  have Hlv := hid hlv
  clear hown hrr hc hk hlv
  go_enter Tryz.func73, Tryz.ntmps73
  go_wp2_with fail
  refine wp_region_flow 23 (List.range 23) [] [] (by kernel_rfl) (by kernel_rfl) ?_
  apply Exists.intro
  refine ⟨fun w0 hb0 hF0 => ?_, ?_⟩
  · skip
    have y0 : ∀ w', (∃ x : Ext w0, w' = x.at_) → w'.cell? ⟨b, 0, none⟩ = some (.slice (some ⟨g, 0, none⟩) (n + 1) cap) := fun w' ⟨z, hz⟩ => by rw [hz, ((Hk.out.below hb0).below z.same).cell]; exact Hc.out
    have y1 : ∀ w', (∃ x : Ext w0, w' = x.at_) → w'.cell? ⟨g, n * 34 + 32, none⟩ = some (.int .i64 x.l) := fun w' ⟨z, hz⟩ => by rw [hz]; exact (z.same.cell (Nat.lt_of_lt_of_le hgl hb0.size)).trans ((hb0.cell hgl).trans Hlv.out)
    simp only [pick, List.range, List.range.loop, List.getElem?_toArray, List.getElem?_cons_succ, List.getElem?_cons_zero, Option.toList_some, List.cons_append, List.nil_append]
    repeat (first | (go_big_quiet_want; refine quiet_load_one 98 _ rfl ⟨b, 0, none⟩ rfl _ y0 _ Tryz.underlying98 rfl ?_; go_big_quiet_on; simp only [Act.put, List.setIfInBounds_toArray, List.set_cons_zero, List.set_cons_succ]) | (go_big_quiet_want; refine quiet_index_sz 98 _ _ rfl Tryz.underlying98 size_nod g 0 (n + 1) cap rfl _ _ rfl n (by omega) (by omega) ?_; go_big_quiet_on; simp only [Act.put, List.setIfInBounds_toArray, List.set_cons_zero, List.set_cons_succ]) | (go_big_quiet_want; refine quiet_load_one 3 _ rfl ⟨g, n * 34 + 32, none⟩ rfl _ y1 _ Tryz.underlying3 rfl ?_; go_big_quiet_on; simp only [Act.put, List.setIfInBounds_toArray, List.set_cons_zero, List.set_cons_succ]) | go_big_quiet_step (fail))
    exact wpQuiet_nil rfl
  refine AlChk.nil ?_
  refine Walk.fin fun w1 h1 _ _ => ?_
  simp only [List.drop_succ_cons, List.drop_zero]
  have H1 := hid h1
  clear h1
  go_wp2_with fail
  go_returns
  exact ⟨rfl, H1.out⟩
theorem xor_one : ∀ n : Fin 16, bits .xor .i64 ((n.val : Nat) : Int) 1 = ((if n.val % 2 = 0 then n.val + 1 else n.val - 1 : Nat) : Int) := by decide +kernel
/-- The number of the node beside a leaf's way, at a level. -/
def sibN (leaf l : Nat) : Nat := if leaf / 2 ^ l % 2 = 0 then leaf / 2 ^ l + 1 else leaf / 2 ^ l - 1
theorem xor_sib (leaf l : Nat) (h : leaf < 16) : bits .xor .i64 ((leaf : Int) / 2 ^ l) 1 = (sibN leaf l : Int) := by
  have h1 : leaf / 2 ^ l < 16 := Nat.lt_of_le_of_lt (Nat.div_le_self _ _) h
  have h2 : ((leaf : Int) / 2 ^ l) = ((leaf / 2 ^ l : Nat) : Int) := by
    rw [Int.natCast_ediv, Int.natCast_pow]
    rfl
  rw [h2]
  exact xor_one ⟨leaf / 2 ^ l, h1⟩
def pickM (leaf : Nat) (path : List (List Int)) (x : Nod) : List (List Int) := if x.l < path.length ∧ x.q = sibN leaf x.l then path.set x.l x.d else path
theorem pickM_length (leaf : Nat) (path : List (List Int)) (x : Nod) : (pickM leaf path x).length = path.length := by
  unfold pickM
  split
  · rw [List.length_set]
  · rfl
theorem pickM_each {leaf : Nat} {path : List (List Int)} {x : Nod} (h : ∀ d ∈ path, Dg d) (hx : Dg x.d) : ∀ d ∈ pickM leaf path x, Dg d := fun d hd => by
  unfold pickM at hd
  split at hd
  · rcases List.mem_or_eq_of_mem_set hd with h1 | h1
    · exact h d h1
    · rw [h1]; exact hx
  · exact h d hd
/-- A builder's cells. -/
def bldC (v : Value) (pub ad : List Int) (leaf : Nat) (pv : Value) : Array Value := (v :: (pub.map (Value.int .u8) ++ (ad.map (Value.int .u32) ++ [.int .i64 (leaf : Int), pv]))).toArray
theorem bldC_size {v pv : Value} {pub ad : List Int} {leaf : Nat} (hp : Dg pub) (ha : Aw ad) : (bldC v pub ad leaf pv).size = 43 := by simp [bldC, hp.len, ha.len]
theorem bldC_set (v v' pv : Value) (pub ad : List Int) (leaf : Nat) : (bldC v pub ad leaf pv).setIfInBounds 0 v' = bldC v' pub ad leaf pv := by simp [bldC]
theorem bldC_top (v pv : Value) (pub ad : List Int) (leaf : Nat) : (bldC v pub ad leaf pv)[0]? = some v := by simp [bldC]
theorem bldC_leaf {v pv : Value} {pub ad : List Int} {leaf : Nat} (hp : Dg pub) (ha : Aw ad) : (bldC v pub ad leaf pv)[41]? = some (.int .i64 (leaf : Int)) := by
  unfold bldC
  rw [List.getElem?_toArray, List.getElem?_cons_succ, List.getElem?_append_right (by rw [List.length_map, hp.len]; omega), List.length_map, hp.len, List.getElem?_append_right (by rw [List.length_map, ha.len]; omega), List.length_map, ha.len]
  rfl
theorem bldC_path {v pv : Value} {pub ad : List Int} {leaf : Nat} (hp : Dg pub) (ha : Aw ad) : (bldC v pub ad leaf pv)[42]? = some pv := by
  unfold bldC
  rw [List.getElem?_toArray, List.getElem?_cons_succ, List.getElem?_append_right (by rw [List.length_map, hp.len]; omega), List.length_map, hp.len, List.getElem?_append_right (by rw [List.length_map, ha.len]; omega), List.length_map, ha.len]
  rfl
theorem bldC_pub {v pv : Value} {pub ad : List Int} {leaf : Nat} {w : World} {b : Nat} {T : TypeId} (k : Blk w b (bldC v pub ad leaf pv) T) : w.rangeAt b 1 (pub.map (Value.int .u8)) := fun j u hv => by
  have hj : j < pub.length := by have := (List.getElem?_eq_some_iff.1 hv).1; simpa using this
  rw [k.cell, ← hv]
  unfold bldC
  rw [List.getElem?_toArray, show 1 + j = j + 1 by omega, List.getElem?_cons_succ, List.getElem?_append_left (by rw [List.length_map]; exact hj)]
theorem bldC_ad {v pv : Value} {pub ad : List Int} {leaf : Nat} (hp : Dg pub) {w : World} {b : Nat} {T : TypeId} (k : Blk w b (bldC v pub ad leaf pv) T) : w.rangeAt b 33 (ad.map (Value.int .u32)) := fun j u hv => by
  have hj : j < ad.length := by have := (List.getElem?_eq_some_iff.1 hv).1; simpa using this
  rw [k.cell, ← hv]
  unfold bldC
  rw [List.getElem?_toArray, show 33 + j = (32 + j) + 1 by omega, List.getElem?_cons_succ, List.getElem?_append_right (by rw [List.length_map, hp.len]; omega), List.length_map, hp.len, show 32 + j - 32 = j by omega, List.getElem?_append_left (by rw [List.length_map]; exact hj)]
theorem FlowB.ButIn.of_below {S : List Nat} {w w' : World} (h : Below w.heap.size w w') : FlowB.ButIn S w w' := ⟨h.os, h.tape, h.output, h.size, fun k hk _ => h.block k hk⟩
set_option maxHeartbeats 4000000 in
theorem pick_far (b pg n leaf : Nat) (v : Value) (pub ad : List Int) (T : TypeId) (path : List (List Int)) (x : Nod) (w : World) (hk : Blk w b (bldC v pub ad leaf (.slice (some ⟨pg, 0, none⟩) n n)) T) (hpg : Blk w pg (dcs path) 25) (hpn : path.length = n) (hpub : Dg pub) (had : Aw ad) (hx : Dg x.d) (hl : x.l ≤ 64) (hcase : ¬ x.l < n) :
    Calls Tryz.prog 72 #[.pointer (some ⟨b, 0, none⟩), .agg (nodC x).toArray] w fun e w' => e = .returned (.tuple #[]) ∧ FlowB.ButIn [pg] w w' ∧ Blk w' pg (dcs (pickM leaf path x)) 25 := by
  have hbl := hk.lt
  have hpl := hpg.lt
  have Hk := hid hk
  have Hpg := hid hpg
  clear hk hpg
  have bA := (Below.refl w.heap.size w).alloc (Nat.le_refl _) (.cells (nodC x).toArray 106 (0, 0))
  have Kx := hid (Blk.new (w := w) (n := w.heap.size) rfl (nodC x).toArray 106)
  have Hb := hid bA
  have hl64 : (x.l : Int) ≤ 64 := by omega
  clear bA
  have hc1 : ¬ ((x.l : Int) < n) := by omega
  go_enter Tryz.func72, Tryz.ntmps72
  go_wp2_with fail
  refine wp_region_flow 21 (List.range 21) [] [] (by kernel_rfl) (by kernel_rfl) ?_
  apply Exists.intro
  refine ⟨fun w0 hb0 hF0 => ?_, ?_⟩
  · skip
    have y0 : ∀ w', (∃ x : Ext w0, w' = x.at_) → w'.cell? ⟨w.heap.size, 32, none⟩ = some (.int .i64 x.l) := fun w' ⟨z, hz⟩ => by rw [hz]; exact nodC_lev hx ((Kx.out.below hb0).below z.same)
    have y1 : ∀ w', (∃ x : Ext w0, w' = x.at_) → w'.cell? ⟨w.heap.size, 33, none⟩ = some (.int .i64 x.q) := fun w' ⟨z, hz⟩ => by rw [hz]; exact nodC_num hx ((Kx.out.below hb0).below z.same)
    have y2 : ∀ w', (∃ x : Ext w0, w' = x.at_) → w'.cell? ⟨b, 42, none⟩ = some (.slice (some ⟨pg, 0, none⟩) n n) := fun w' ⟨z, hz⟩ => by rw [hz, ((Hk.out.below (Below.on Hb.out hb0)).below z.same).cell]; exact (bldC_path hpub had)
    have y3 : ∀ w', (∃ x : Ext w0, w' = x.at_) → w'.cell? ⟨b, 41, none⟩ = some (.int .i64 (leaf : Int)) := fun w' ⟨z, hz⟩ => by rw [hz, ((Hk.out.below (Below.on Hb.out hb0)).below z.same).cell]; exact (bldC_leaf hpub had)
    simp only [pick, List.range, List.range.loop, List.getElem?_toArray, List.getElem?_cons_succ, List.getElem?_cons_zero, Option.toList_some, List.cons_append, List.nil_append]
    repeat (first | (go_big_quiet_want; refine quiet_load_one 3 _ rfl ⟨w.heap.size, 32, none⟩ rfl _ y0 _ Tryz.underlying3 rfl ?_; go_big_quiet_on; simp only [Act.put, List.setIfInBounds_toArray, List.set_cons_zero, List.set_cons_succ]) | (go_big_quiet_want; refine quiet_load_one 3 _ rfl ⟨w.heap.size, 33, none⟩ rfl _ y1 _ Tryz.underlying3 rfl ?_; go_big_quiet_on; simp only [Act.put, List.setIfInBounds_toArray, List.set_cons_zero, List.set_cons_succ]) | (go_big_quiet_want; refine quiet_load_one 61 _ rfl ⟨b, 42, none⟩ rfl _ y2 _ Tryz.underlying61 rfl ?_; go_big_quiet_on; simp only [Act.put, List.setIfInBounds_toArray, List.set_cons_zero, List.set_cons_succ]) | (go_big_quiet_want; refine quiet_load_one 3 _ rfl ⟨b, 41, none⟩ rfl _ y3 _ Tryz.underlying3 rfl ?_; go_big_quiet_on; simp only [Act.put, List.setIfInBounds_toArray, List.set_cons_zero, List.set_cons_succ]) | go_big_quiet_step (fail))
    exact wpQuiet_nil rfl
  refine AlChk.nil ?_
  refine Walk.fin fun w1 h1 _ _ => ?_
  simp only [List.drop_succ_cons, List.drop_zero]
  have H1 := hid (Below.on Hb.out h1)
  have Kx1 := hid (Kx.out.below h1)
  clear h1
  go_wp2_with fail
  go_end0
  exact ⟨rfl, FlowB.ButIn.of_below H1.out, by rw [pickM, if_neg (by omega)]; exact Hpg.out.below H1.out⟩
set_option maxHeartbeats 4000000 in
theorem pick_miss (b pg n leaf : Nat) (v : Value) (pub ad : List Int) (T : TypeId) (path : List (List Int)) (x : Nod) (w : World) (hk : Blk w b (bldC v pub ad leaf (.slice (some ⟨pg, 0, none⟩) n n)) T) (hpg : Blk w pg (dcs path) 25) (hpub : Dg pub) (had : Aw ad) (hx : Dg x.d) (hl : x.l ≤ 64) (hlf : leaf < 16) (hcase : x.l < n) (hq : ¬ x.q = sibN leaf x.l) :
    Calls Tryz.prog 72 #[.pointer (some ⟨b, 0, none⟩), .agg (nodC x).toArray] w fun e w' => e = .returned (.tuple #[]) ∧ FlowB.ButIn [pg] w w' ∧ Blk w' pg (dcs (pickM leaf path x)) 25 := by
  have hbl := hk.lt
  have hpl := hpg.lt
  have Hk := hid hk
  have Hpg := hid hpg
  clear hk hpg
  have bA := (Below.refl w.heap.size w).alloc (Nat.le_refl _) (.cells (nodC x).toArray 106 (0, 0))
  have Kx := hid (Blk.new (w := w) (n := w.heap.size) rfl (nodC x).toArray 106)
  have Hb := hid bA
  have hl64 : (x.l : Int) ≤ 64 := by omega
  clear bA
  have hc1 : (x.l : Int) < n := by omega
  have hc2 := xor_sib leaf x.l hlf
  have hc3 : ((x.q : Int) == (sibN leaf x.l : Int)) = false := by simp; omega
  have hc4 : decide ((x.q : Int) = (sibN leaf x.l : Int)) = false := by simp; omega
  go_enter Tryz.func72, Tryz.ntmps72
  go_wp2_with fail
  refine wp_region_flow 21 (List.range 21) [] [] (by kernel_rfl) (by kernel_rfl) ?_
  apply Exists.intro
  refine ⟨fun w0 hb0 hF0 => ?_, ?_⟩
  · skip
    have y0 : ∀ w', (∃ x : Ext w0, w' = x.at_) → w'.cell? ⟨w.heap.size, 32, none⟩ = some (.int .i64 x.l) := fun w' ⟨z, hz⟩ => by rw [hz]; exact nodC_lev hx ((Kx.out.below hb0).below z.same)
    have y1 : ∀ w', (∃ x : Ext w0, w' = x.at_) → w'.cell? ⟨w.heap.size, 33, none⟩ = some (.int .i64 x.q) := fun w' ⟨z, hz⟩ => by rw [hz]; exact nodC_num hx ((Kx.out.below hb0).below z.same)
    have y2 : ∀ w', (∃ x : Ext w0, w' = x.at_) → w'.cell? ⟨b, 42, none⟩ = some (.slice (some ⟨pg, 0, none⟩) n n) := fun w' ⟨z, hz⟩ => by rw [hz, ((Hk.out.below (Below.on Hb.out hb0)).below z.same).cell]; exact (bldC_path hpub had)
    have y3 : ∀ w', (∃ x : Ext w0, w' = x.at_) → w'.cell? ⟨b, 41, none⟩ = some (.int .i64 (leaf : Int)) := fun w' ⟨z, hz⟩ => by rw [hz, ((Hk.out.below (Below.on Hb.out hb0)).below z.same).cell]; exact (bldC_leaf hpub had)
    simp only [pick, List.range, List.range.loop, List.getElem?_toArray, List.getElem?_cons_succ, List.getElem?_cons_zero, Option.toList_some, List.cons_append, List.nil_append]
    repeat (first | (go_big_quiet_want; refine quiet_load_one 3 _ rfl ⟨w.heap.size, 32, none⟩ rfl _ y0 _ Tryz.underlying3 rfl ?_; go_big_quiet_on; simp only [Act.put, List.setIfInBounds_toArray, List.set_cons_zero, List.set_cons_succ]) | (go_big_quiet_want; refine quiet_load_one 3 _ rfl ⟨w.heap.size, 33, none⟩ rfl _ y1 _ Tryz.underlying3 rfl ?_; go_big_quiet_on; simp only [Act.put, List.setIfInBounds_toArray, List.set_cons_zero, List.set_cons_succ]) | (go_big_quiet_want; refine quiet_load_one 61 _ rfl ⟨b, 42, none⟩ rfl _ y2 _ Tryz.underlying61 rfl ?_; go_big_quiet_on; simp only [Act.put, List.setIfInBounds_toArray, List.set_cons_zero, List.set_cons_succ]) | (go_big_quiet_want; refine quiet_load_one 3 _ rfl ⟨b, 41, none⟩ rfl _ y3 _ Tryz.underlying3 rfl ?_; go_big_quiet_on; simp only [Act.put, List.setIfInBounds_toArray, List.set_cons_zero, List.set_cons_succ]) | go_big_quiet_step (fail))
    exact wpQuiet_nil rfl
  refine AlChk.nil ?_
  refine Walk.fin fun w1 h1 _ _ => ?_
  simp only [List.drop_succ_cons, List.drop_zero]
  have H1 := hid (Below.on Hb.out h1)
  have Kx1 := hid (Kx.out.below h1)
  clear h1
  go_wp2_with fail
  go_end0
  exact ⟨rfl, FlowB.ButIn.of_below H1.out, by rw [pickM, if_neg (by omega)]; exact Hpg.out.below H1.out⟩
set_option maxHeartbeats 4000000 in
theorem pick_hit (b pg n leaf : Nat) (v : Value) (pub ad : List Int) (T : TypeId) (path : List (List Int)) (x : Nod) (w : World) (hk : Blk w b (bldC v pub ad leaf (.slice (some ⟨pg, 0, none⟩) n n)) T) (hpg : Blk w pg (dcs path) 25) (hpe : ∀ d ∈ path, Dg d) (hpn : path.length = n) (hpub : Dg pub) (had : Aw ad) (hx : Dg x.d) (hl : x.l ≤ 64) (hlf : leaf < 16) (hcase : x.l < n) (hq : x.q = sibN leaf x.l) :
    Calls Tryz.prog 72 #[.pointer (some ⟨b, 0, none⟩), .agg (nodC x).toArray] w fun e w' => e = .returned (.tuple #[]) ∧ FlowB.ButIn [pg] w w' ∧ Blk w' pg (dcs (pickM leaf path x)) 25 := by
  have hbl := hk.lt
  have hpl := hpg.lt
  have Hk := hid hk
  have Hpg := hid hpg
  clear hk hpg
  have bA := (Below.refl w.heap.size w).alloc (Nat.le_refl _) (.cells (nodC x).toArray 106 (0, 0))
  have Kx := hid (Blk.new (w := w) (n := w.heap.size) rfl (nodC x).toArray 106)
  have Hb := hid bA
  have hl64 : (x.l : Int) ≤ 64 := by omega
  clear bA
  have hc1 : (x.l : Int) < n := by omega
  have hc2 := xor_sib leaf x.l hlf
  have hc3 : ((x.q : Int) == (sibN leaf x.l : Int)) = true := by simp; omega
  have hc4 : decide ((x.q : Int) = (sibN leaf x.l : Int)) = true := by simp; omega
  go_enter Tryz.func72, Tryz.ntmps72
  go_wp2_with fail
  refine wp_region_flow 21 (List.range 21) [] [] (by kernel_rfl) (by kernel_rfl) ?_
  apply Exists.intro
  refine ⟨fun w0 hb0 hF0 => ?_, ?_⟩
  · skip
    have y0 : ∀ w', (∃ x : Ext w0, w' = x.at_) → w'.cell? ⟨w.heap.size, 32, none⟩ = some (.int .i64 x.l) := fun w' ⟨z, hz⟩ => by rw [hz]; exact nodC_lev hx ((Kx.out.below hb0).below z.same)
    have y1 : ∀ w', (∃ x : Ext w0, w' = x.at_) → w'.cell? ⟨w.heap.size, 33, none⟩ = some (.int .i64 x.q) := fun w' ⟨z, hz⟩ => by rw [hz]; exact nodC_num hx ((Kx.out.below hb0).below z.same)
    have y2 : ∀ w', (∃ x : Ext w0, w' = x.at_) → w'.cell? ⟨b, 42, none⟩ = some (.slice (some ⟨pg, 0, none⟩) n n) := fun w' ⟨z, hz⟩ => by rw [hz, ((Hk.out.below (Below.on Hb.out hb0)).below z.same).cell]; exact (bldC_path hpub had)
    have y3 : ∀ w', (∃ x : Ext w0, w' = x.at_) → w'.cell? ⟨b, 41, none⟩ = some (.int .i64 (leaf : Int)) := fun w' ⟨z, hz⟩ => by rw [hz, ((Hk.out.below (Below.on Hb.out hb0)).below z.same).cell]; exact (bldC_leaf hpub had)
    simp only [pick, List.range, List.range.loop, List.getElem?_toArray, List.getElem?_cons_succ, List.getElem?_cons_zero, Option.toList_some, List.cons_append, List.nil_append]
    repeat (first | (go_big_quiet_want; refine quiet_load_one 3 _ rfl ⟨w.heap.size, 32, none⟩ rfl _ y0 _ Tryz.underlying3 rfl ?_; go_big_quiet_on; simp only [Act.put, List.setIfInBounds_toArray, List.set_cons_zero, List.set_cons_succ]) | (go_big_quiet_want; refine quiet_load_one 3 _ rfl ⟨w.heap.size, 33, none⟩ rfl _ y1 _ Tryz.underlying3 rfl ?_; go_big_quiet_on; simp only [Act.put, List.setIfInBounds_toArray, List.set_cons_zero, List.set_cons_succ]) | (go_big_quiet_want; refine quiet_load_one 61 _ rfl ⟨b, 42, none⟩ rfl _ y2 _ Tryz.underlying61 rfl ?_; go_big_quiet_on; simp only [Act.put, List.setIfInBounds_toArray, List.set_cons_zero, List.set_cons_succ]) | (go_big_quiet_want; refine quiet_load_one 3 _ rfl ⟨b, 41, none⟩ rfl _ y3 _ Tryz.underlying3 rfl ?_; go_big_quiet_on; simp only [Act.put, List.setIfInBounds_toArray, List.set_cons_zero, List.set_cons_succ]) | go_big_quiet_step (fail))
    exact wpQuiet_nil rfl
  refine AlChk.nil ?_
  refine Walk.fin fun w1 h1 _ _ => ?_
  simp only [List.drop_succ_cons, List.drop_zero]
  have H1 := hid (Below.on Hb.out h1)
  have Kx1 := hid (Kx.out.below h1)
  clear h1
  go_wp2_with fail
  refine wp_region_flow 9 (List.range 9) [] [] (by kernel_rfl) (by kernel_rfl) ?_
  apply Exists.intro
  refine ⟨fun w0 hb0 hF0 => ?_, ?_⟩
  · skip
    have y0 : ∀ w', (∃ x : Ext w0, w' = x.at_) → w'.cell? ⟨w.heap.size, 32, none⟩ = some (.int .i64 x.l) := fun w' ⟨z, hz⟩ => by rw [hz]; exact nodC_lev hx ((Kx1.out.below hb0).below z.same)
    have y2 : ∀ w', (∃ x : Ext w0, w' = x.at_) → w'.cell? ⟨b, 42, none⟩ = some (.slice (some ⟨pg, 0, none⟩) n n) := fun w' ⟨z, hz⟩ => by rw [hz, ((Hk.out.below (Below.on H1.out hb0)).below z.same).cell]; exact (bldC_path hpub had)
    have x0 : ∀ w', (∃ x : Ext w0, w' = x.at_) → w'.rangeAt (w.heap.size) 0 (x.d.map (Value.int .u8)) := fun w' ⟨z, hz⟩ => hz ▸ nodC_dig ((Kx1.out.below hb0).below z.same)
    simp only [pick, List.range, List.range.loop, List.getElem?_toArray, List.getElem?_cons_succ, List.getElem?_cons_zero, Option.toList_some, List.cons_append, List.nil_append]
    repeat (first | (go_big_quiet_want; refine quiet_load_one 3 _ rfl ⟨w.heap.size, 32, none⟩ rfl _ y0 _ Tryz.underlying3 rfl ?_; go_big_quiet_on; simp only [Act.put, List.setIfInBounds_toArray, List.set_cons_zero, List.set_cons_succ]) | (go_big_quiet_want; refine quiet_load_one 61 _ rfl ⟨b, 42, none⟩ rfl _ y2 _ Tryz.underlying61 rfl ?_; go_big_quiet_on; simp only [Act.put, List.setIfInBounds_toArray, List.set_cons_zero, List.set_cons_succ]) | (go_big_quiet_want; refine quiet_index_digs 61 _ _ rfl Tryz.underlying61 size_digest pg 0 n n rfl _ _ rfl x.l rfl (by omega) ?_; go_big_quiet_on; simp only [Act.put, List.setIfInBounds_toArray, List.set_cons_zero, List.set_cons_succ]) | (go_big_quiet_want; refine quiet_load_mid 25 _ rfl (w.heap.size) 0 rfl _ x0 _ Tryz.underlying25 rfl (by rw [List.length_map, hx.len]; exact size_digest) ?_; go_big_quiet_on; simp only [Act.put, List.setIfInBounds_toArray, List.set_cons_zero, List.set_cons_succ]) | go_big_quiet_step (fail))
    exact wpQuiet_nil rfl
  refine AlChk.nil ?_
  refine Walk.fin fun w2 h2 _ _ => ?_
  simp only [List.drop_succ_cons, List.drop_zero]
  have H2 := hid (Below.on H1.out h2)
  clear h2
  have Kp2 := hid (Hpg.out.below H2.out)
  go_wp2_with (
    refine wpList_store_dig rfl _ _ _ rfl pg x.l x.d rfl rfl path 25 Kp2.out hpe hx (by omega) size_digest ?_
    intro w6 hb6 hk6
    have H6 := hid hb6
    have K6 := hid hk6
    clear hb6 hk6)
  go_end0
  exact ⟨rfl, FlowB.ButIn.after H2.out (FlowB.ButIn.of_but H6.out (by simp)), by rw [pickM, if_pos (by omega)]; exact K6.out⟩
theorem pick_any (b pg n leaf : Nat) (v : Value) (pub ad : List Int) (T : TypeId) (path : List (List Int)) (x : Nod) (w : World) (hk : Blk w b (bldC v pub ad leaf (.slice (some ⟨pg, 0, none⟩) n n)) T) (hpg : Blk w pg (dcs path) 25) (hpe : ∀ d ∈ path, Dg d) (hpn : path.length = n) (hpub : Dg pub) (had : Aw ad) (hx : Dg x.d) (hl : x.l ≤ 64) (hlf : leaf < 16) :
    Calls Tryz.prog 72 #[.pointer (some ⟨b, 0, none⟩), .agg (nodC x).toArray] w fun e w' => e = .returned (.tuple #[]) ∧ FlowB.ButIn [pg] w w' ∧ Blk w' pg (dcs (pickM leaf path x)) 25 := by
  by_cases h1 : x.l < n
  · by_cases h2 : x.q = sibN leaf x.l
    · exact pick_hit b pg n leaf v pub ad T path x w hk hpg hpe hpn hpub had hx hl hlf h1 h2
    · exact pick_miss b pg n leaf v pub ad T path x w hk hpg hpub had hx hl hlf h1 h2
  · exact pick_far b pg n leaf v pub ad T path x w hk hpg hpn hpub had hx hl h1
end Go.Proofs.YtjkfbeillmeomaaGreatDoor
namespace Go.Proofs.YtjkfbeillmeomaaGreatDoor
set_option maxRecDepth 100000
open Go.ChangeShapes Go.WideShapes Go.ChangeAt Go.RowKit
def upN (pub ad : List Int) (t x : Nod) : Nod := ⟨joinZ t.d x.d pub (setAd ad x.l (t.q / 2 : Nat) 0), x.l + 1, t.q / 2⟩
/-- What adding a node that was looked at comes to: the stack, its last node first; the path. -/
def addR (pub ad : List Int) (leaf : Nat) : List Nod → List (List Int) → Nod → List Nod × List (List Int)
  | [], path, x => ([x], path)
  | t :: s, path, x => if t.l = x.l then addR pub ad leaf s (pickM leaf path (upN pub ad t x)) (upN pub ad t x) else (x :: t :: s, path)
theorem addR_up {pub ad : List Int} {leaf : Nat} {t : Nod} {s : List Nod} {path : List (List Int)} {x : Nod} (h : t.l = x.l) : addR pub ad leaf (t :: s) path x = addR pub ad leaf s (pickM leaf path (upN pub ad t x)) (upN pub ad t x) := by
  rw [addR, if_pos h]
theorem addR_on {pub ad : List Int} {leaf : Nat} {t : Nod} {s : List Nod} {path : List (List Int)} {x : Nod} (h : ¬ t.l = x.l) : addR pub ad leaf (t :: s) path x = (x :: t :: s, path) := by
  rw [addR, if_neg h]
structure BldAt (w : World) (base b pg n leaf : Nat) (pub ad : List Int) (v : Value) (stk : List Nod) (path : List (List Int)) : Prop where
  blk : Blk w b (bldC v pub ad leaf (.slice (some ⟨pg, 0, none⟩) n n)) 102
  row : w.ownsRow base 106 34 v stk.length (nodsC stk.reverse)
  pth : Blk w pg (dcs path) 25
  len : path.length = n
  each : ∀ d ∈ path, Dg d
  nods : ∀ y ∈ stk, Dg y.d ∧ y.q < 100000
  ne : b ≠ pg
  nb : ¬ v.ownBlock = some b
  np : ¬ v.ownBlock = some pg
theorem BldAt.below {w w' : World} {base b pg n leaf : Nat} {pub ad : List Int} {v : Value} {stk : List Nod} {path : List (List Int)} (h : BldAt w base b pg n leaf pub ad v stk path) (hb : Below w.heap.size w w') : BldAt w' base b pg n leaf pub ad v stk path :=
  ⟨h.blk.below hb, owns_below h.row hb, h.pth.below hb, h.len, h.each, h.nods, h.ne, h.nb, h.np⟩
theorem FlowB.ButIn.trans {S : List Nat} {w w1 w2 : World} (h0 : FlowB.ButIn S w w1) (h1 : FlowB.ButIn S w1 w2) : FlowB.ButIn S w w2 :=
  ⟨by rw [h1.os, h0.os], by rw [h1.tape, h0.tape], by rw [h1.output, h0.output], Nat.le_trans h0.size h1.size, fun k hk hne => by
    have a1 := h0.size
    rw [h1.block k (by omega) hne, h0.block k hk hne]⟩
/-- Behind a step that may also write to a block that is new. -/
theorem FlowB.ButIn.step {S S' : List Nat} {w w1 w2 : World} (h0 : FlowB.ButIn S w w1) (h1 : FlowB.ButIn S' w1 w2) (hs : ∀ k, k < w.heap.size → k ∈ S' → k ∈ S) : FlowB.ButIn S w w2 :=
  ⟨by rw [h1.os, h0.os], by rw [h1.tape, h0.tape], by rw [h1.output, h0.output], Nat.le_trans h0.size h1.size, fun k hk hne => by
    have a1 := h0.size
    rw [h1.block k (by omega) (fun hm => hne (hs k hk hm)), h0.block k hk hne]⟩
theorem own_in {S : List Nat} {w w' : World} {base n sz : Nat} {e : TypeId} {v : Value} {xs : List Value} (h : w.ownsRow base e sz v n xs) (hb : FlowB.ButIn S w w') (hne : ∀ g, v.ownBlock = some g → g ∉ S) : w'.ownsRow base e sz v n xs := by
  obtain ⟨h1, ⟨rfl, h2⟩ | ⟨g, cap, cur, rfl, hg, hh, h3⟩⟩ := h
  · exact ⟨h1, .inl ⟨rfl, h2⟩⟩
  · refine ⟨h1, .inr ⟨g, cap, cur, rfl, hg, ?_, h3⟩⟩
    rw [hb.block g (Array.getElem?_eq_some_iff.1 hh).1 (hne g rfl)]
    exact hh
theorem But.in_ {b : Nat} {w w' : World} (h : But b w w') : FlowB.ButIn [b] w w' := FlowB.ButIn.of_but h (by simp)
theorem ShaTab.in_ {S : List Nat} {w w' : World} (h : ShaTab w) (hb : FlowB.ButIn S w w') (h1 : 1 ∉ S) (h0 : 0 ∉ S) : ShaTab w' := h.same hb.size (fun j => by unfold World.cell?; rw [hb.block _ h.lt h1]) (fun j => by unfold World.cell?; rw [hb.block _ h.lt0 h0])
theorem quiet_build {P : Program} {op : Oper} {a : Act} {C : World → Prop} {K : Act → Prop} (t : TypeId) (parts : List (Nat × Operand)) (ho : op.op = .build t parts.toArray) (vs : List (Nat × Value)) (hv : (parts.map fun x => (x.1, a.eval x.2)) = vs) (v : Value) (h : ∀ w', (Instr.build t vs.toArray).run P w' = .ok v w') (hk : K (a.put op.dst v)) : op.quiet P a C K :=
  quiet_of v (fun w' _ => by
    unfold execOp
    have hm : (parts.map fun (x : Nat × Operand) => match x with | (i, x) => (i, a.eval x)) = vs := hv
    simp only [ho, List.map_toArray, hm, Sem.run_bind, h, Result.andThen_ok, Sem.run_pure]) hk
theorem own_len {w : World} {base n sz : Nat} {e : TypeId} {v : Value} {xs : List Value} (h : w.ownsRow base e sz v n xs) : ∃ a c, v = .slice a n c := by
  obtain ⟨_, ⟨rfl, rfl⟩ | ⟨g, cap, cur, rfl, _⟩⟩ := h
  · exact ⟨_, _, rfl⟩
  · exact ⟨_, _, rfl⟩
theorem nods_rev (t : Nod) (s : List Nod) : nodsC (t :: s).reverse = nodsC s.reverse ++ nodC t := by rw [List.reverse_cons, nodsC_append, nodsC_one]
theorem nods_len {s : List Nod} (h : ∀ y ∈ s, Dg y.d) : (nodsC s.reverse).length = s.length * 34 := by rw [nodsC_length (fun x hx => h x (by simpa using hx)), List.length_reverse]
section
variable {w w' : World} {base b pg n leaf : Nat} {pub ad : List Int} {v v' : Value} {stk s : List Nod} {path : List (List Int)} {x t : Nod}
theorem BldAt.pushed (h : BldAt w base b pg n leaf pub ad v stk path) (hI : FlowB.ButIn (b :: v.ownBlock.toList) w w') (hk : Blk w' b (bldC v' pub ad leaf (.slice (some ⟨pg, 0, none⟩) n n)) 102) (ho : w'.ownsRow base 106 34 v' (stk.length + 1) (nodsC stk.reverse ++ nodC x)) (hv : v'.ownBlock = v.ownBlock ∨ ∃ g, v'.ownBlock = some g ∧ w.heap.size ≤ g) (hx : Dg x.d) (hq : x.q < 100000) :
    BldAt w' base b pg n leaf pub ad v' (x :: stk) path := by
  have h1 := h.blk.lt
  have h2 := h.pth.lt
  refine ⟨hk, by rw [nods_rev]; exact ho, hI.blk h.pth (fun hm => ?_), h.len, h.each, fun y hy => ?_, h.ne, fun e => ?_, fun e => ?_⟩
  · rcases List.mem_cons.1 hm with e | e
    · exact h.ne e.symm
    · exact h.np (by simpa using e)
  · rcases List.mem_cons.1 hy with e | e
    · rw [e]; exact ⟨hx, hq⟩
    · exact h.nods y e
  · rcases hv with hv | ⟨g, hv, hg⟩
    · exact h.nb (by rw [← hv]; exact e)
    · rw [hv] at e
      injection e with e
      omega
  · rcases hv with hv | ⟨g, hv, hg⟩
    · exact h.np (by rw [← hv]; exact e)
    · rw [hv] at e
      injection e with e
      omega
theorem BldAt.popped (h : BldAt w base b pg n leaf pub ad v (t :: s) path) (hI : But b w w') (hk : Blk w' b (bldC v' pub ad leaf (.slice (some ⟨pg, 0, none⟩) n n)) 102) (ho : w'.ownsRow base 106 34 v' s.length (nodsC s.reverse)) (hv : v'.ownBlock = v.ownBlock) :
    BldAt w' base b pg n leaf pub ad v' s path :=
  ⟨hk, ho, hI.blk h.pth (fun e => h.ne e.symm), h.len, h.each, fun y hy => h.nods y (by simp [hy]), h.ne, by rw [hv]; exact h.nb, by rw [hv]; exact h.np⟩
theorem BldAt.picked (h : BldAt w base b pg n leaf pub ad v stk path) (hI : FlowB.ButIn [pg] w w') (hp : Blk w' pg (dcs (pickM leaf path x)) 25) (hx : Dg x.d) : BldAt w' base b pg n leaf pub ad v stk (pickM leaf path x) :=
  ⟨hI.blk h.blk (by simpa using h.ne), own_in h.row hI (fun g hg hm => h.np (by simp at hm; rw [← hm]; exact hg)), hp, by rw [pickM_length]; exact h.len, pickM_each h.each hx, h.nods, h.ne, h.nb, h.np⟩
theorem BldAt.top (h : BldAt w base b pg n leaf pub ad v stk path) : w.cell? ⟨b, 0, none⟩ = some v := by rw [h.blk.cell]; exact bldC_top _ _ _ _ _
end
set_option maxHeartbeats 4000000 in
theorem addn_any (base b pg n leaf : Nat) (pub ad : List Int) (v0 : Value) (stk0 : List Nod) (path0 : List (List Int)) (x0 : Nod) (w : World) (hB : BldAt w base b pg n leaf pub ad v0 stk0 path0) (hpub : Dg pub) (had : Aw ad) (hx0 : Dg x0.d) (hl0 : x0.l + stk0.length ≤ 50) (hq0 : x0.q < 100000) (hlf : leaf < 16) (hbt : 1 < base ∧ 0 < base) (hbb : base ≤ b) (hbp : base ≤ pg) (tab : ShaTab w) :
    Calls Tryz.prog 49 #[.pointer (some ⟨b, 0, none⟩), .agg (nodC x0).toArray] w fun e w' => e = .returned (.tuple #[]) ∧ ∃ v', FlowB.ButIn (b :: pg :: v0.ownBlock.toList) w w' ∧ BldAt w' base b pg n leaf pub ad v' (addR pub ad leaf stk0 (pickM leaf path0 x0) x0).1 (addR pub ad leaf stk0 (pickM leaf path0 x0) x0).2 ∧ (v'.ownBlock = v0.ownBlock ∨ ∃ g, v'.ownBlock = some g ∧ w.heap.size ≤ g) := by
  have hbl := hB.blk.lt
  have hpl := hB.pth.lt
  have hol := hB.row.lt
  have hS1 : 1 ∉ (b :: pg :: v0.ownBlock.toList) := fun hm => by
    simp only [List.mem_cons, Option.mem_toList] at hm
    rcases hm with hm | hm | hm
    · omega
    · omega
    · have := (hol _ hm).1; omega
  have hS0 : 0 ∉ (b :: pg :: v0.ownBlock.toList) := fun hm => by
    simp only [List.mem_cons, Option.mem_toList] at hm
    rcases hm with hm | hm | hm
    · omega
    · omega
    · have := (hol _ hm).1; omega
  have bA := (Below.refl w.heap.size w).alloc (Nat.le_refl _) (.cells (nodC x0).toArray 106 (0, 0))
  have Kx0 := hid (Blk.new (w := w) (n := w.heap.size) rfl (nodC x0).toArray 106)
  have HBa := hid (hB.below bA)
  have Ha := hid bA
  have hsa : w.heap.size + 1 ≤ (w.alloc (.cells (nodC x0).toArray 106 (0, 0))).heap.size := by simp only [World.size_alloc]; omega
  clear bA hB
  go_enter Tryz.func49, Tryz.ntmps49
  go_wp2_with (refine wpList_load_blk rfl 106 _ rfl (w.heap.size) rfl _ 106 Kx0.out _ Tryz.underlying106 rfl 34 size_nod (nodC_size hx0) ?_)
  refine (pick_any b pg n leaf _ pub ad _ path0 x0 _ HBa.out.blk HBa.out.pth HBa.out.each HBa.out.len hpub had hx0 (by omega) hlf).mono ?_
  rintro e wp ⟨rfl, hIp, hpp⟩
  have hnp : ¬ w.heap.size = pg := by omega
  have HBp := hid (show BldAt wp base b pg n leaf pub ad v0 stk0 (pickM leaf path0 x0) from ⟨hIp.blk HBa.out.blk (by simpa using HBa.out.ne), own_in HBa.out.row hIp (fun g hg hm => HBa.out.np (by simp at hm; rw [← hm]; exact hg)), hpp, by rw [pickM_length]; exact HBa.out.len, pickM_each HBa.out.each hx0, HBa.out.nods, HBa.out.ne, HBa.out.nb, HBa.out.np⟩)
  have Kxp := hid (hIp.blk Kx0.out (by simpa using hnp))
  have HIp := hid (show FlowB.ButIn (b :: pg :: v0.ownBlock.toList) w wp from (FlowB.ButIn.of_below Ha.out).step hIp (fun k _ hm => by simp at hm ⊢; exact .inr (.inl hm)))
  have hsp := Nat.le_trans hsa hIp.size
  clear hIp hpp
  go_wp2_with fail
  go_loopw [8] (fun _ wr => ∃ (v : Value) (stk : List Nod) (path : List (List Int)) (x : Nod), BldAt wr base b pg n leaf pub ad v stk path ∧ v.ownBlock = v0.ownBlock ∧ Blk wr (w.heap.size) (nodC x).toArray 106 ∧ Dg x.d ∧ x.l + stk.length ≤ 50 ∧ x.q < 100000 ∧ FlowB.ButIn (b :: pg :: v0.ownBlock.toList) w wr ∧ w.heap.size + 1 ≤ wr.heap.size ∧ addR pub ad leaf stk path x = addR pub ad leaf stk0 (pickM leaf path0 x0) x0) (fun _ wr => match wr.cell? ⟨b, 0, none⟩ with | some (.slice _ m _) => m | _ => 0)
  case atStart => exact ⟨v0, stk0, _, x0, HBp.out, rfl, Kxp.out, hx0, hl0, hq0, HIp.out, hsp, rfl⟩
  case round =>
    clear HBp Kxp HIp Kx0 HBa Ha
    obtain ⟨v, stk, path, x, hBl, hov, kx, hx, hlx, hqx, hI, hsz, hR⟩ := hrel
    have HBld := hid hBl
    have Kx := hid kx
    have Hx := hid hx
    have HI := hid hI
    have HR := hid hR
    have Hov := hid hov
    have hXb : ¬ w.heap.size = b := by omega
    have hXp : ¬ w.heap.size = pg := by omega
    clear hBl kx hx hI hR hov
    cases stk with
    | nil =>
      have hn0 := HBld.out.row
      obtain ⟨a0, c0, rfl⟩ : ∃ a c, v = .slice a 0 c := by
        obtain ⟨_, ⟨rfl, _⟩ | ⟨g, cap, cur, rfl, _⟩⟩ := hn0
        · exact ⟨_, _, rfl⟩
        · exact ⟨_, _, rfl⟩
      clear hn0
      go_wp2_with fail
      refine wp_region_flow 6 [0, 1, 2, 3, 4, 5] [] [] (by kernel_rfl) (by kernel_rfl) ?_
      apply Exists.intro
      refine ⟨fun w0 hb0 hF0 => ?_, ?_⟩
      · skip
        have y0 : ∀ w', (∃ x : Ext w0, w' = x.at_) → w'.cell? ⟨w.heap.size, 32, none⟩ = some (.int .i64 x.l) := fun w' ⟨z, hz⟩ => by rw [hz]; exact nodC_lev Hx.out ((Kx.out.below hb0).below z.same)
        have c0 := fun e : Ext w0 => holds_none b _ _ a0 c0 (x.l : Int) e.at_ ((HBld.out.blk.below hb0).below e.same) (bldC_top _ _ _ _ _)
        simp only [pick, List.getElem?_toArray, List.getElem?_cons_succ, List.getElem?_cons_zero, Option.toList_some, List.cons_append, List.nil_append]
        repeat (first | (go_big_quiet_want; refine quiet_load_one 3 _ rfl ⟨w.heap.size, 32, none⟩ rfl _ y0 _ Tryz.underlying3 rfl ?_; go_big_quiet_on; simp only [Act.put, List.setIfInBounds_toArray, List.set_cons_zero, List.set_cons_succ]) | go_big_quiet_step (first | (go_at_call 73; with_reducible exact Calls.ext (c0 _))))
        exact wpQuiet_nil rfl
      refine AlChk.nil ?_
      refine Walk.fin fun w1 h1 _ _ => ?_
      simp only [List.drop_succ_cons, List.drop_zero]
      have HBld1 := hid (HBld.out.below h1)
      have HI1 := hid (HI.out.step (FlowB.ButIn.of_below (S := []) h1) (fun _ _ h => absurd h (by simp)))
      have Kxwr1 := hid (Kx.out.below h1)
      have hs1 := Nat.le_trans hsz h1.size
      clear h1
      go_wp2_with fail
      refine wp_region_flow 4 [0, 1, 2, 3] [] [] (by kernel_rfl) (by kernel_rfl) ?_
      apply Exists.intro
      refine ⟨fun w0 hb0 hF0 => ?_, ?_⟩
      · skip
        have x1 : ∀ w', (∃ x : Ext w0, w' = x.at_) → ∃ T, Blk w' (w.heap.size) (nodC x).toArray T := fun w' ⟨z, hz⟩ => ⟨_, hz ▸ (Kxwr1.out.below hb0).below z.same⟩
        simp only [pick, List.getElem?_toArray, List.getElem?_cons_succ, List.getElem?_cons_zero, Option.toList_some, List.cons_append, List.nil_append]
        repeat (first | (go_big_quiet_want; refine quiet_load_blk 106 _ rfl (w.heap.size) rfl _ x1 _ Tryz.underlying106 rfl 34 size_nod (nodC_size Hx.out) ?_; go_big_quiet_on; simp only [Act.put, List.setIfInBounds_toArray, List.set_cons_zero, List.set_cons_succ]) | go_big_quiet_step (fail))
        exact wpQuiet_nil rfl
      refine AlChk.nil ?_
      refine Walk.fin fun w2 h2 _ _ => ?_
      simp only [List.drop_succ_cons, List.drop_zero]
      have HB2 := hid (HBld1.out.below h2)
      have HI2 := hid (HI1.out.step (FlowB.ButIn.of_below (S := []) h2) (fun _ _ h => absurd h (by simp)))
      have hs2 := Nat.le_trans hs1 h2.size
      clear h2
      go_wp2_with fail
      refine (push_any b base 0 _ _ _ (nodsC []) x _ HB2.out.blk (bldC_top _ _ _ _ _) (by rw [bldC_size hpub had]; omega) HB2.out.row Hx.out HB2.out.nb (by omega) (by omega)).mono ?_
      rintro e w3 ⟨rfl, v3, hI3, hk3, ho3, hv3⟩
      rw [bldC_set] at hk3
      have H3 := hid (And.intro hI3 (And.intro hk3 ho3))
      have hs3 := hI3.size
      clear hI3 hk3 ho3
      go_wp2_with fail
      go_end0
      refine ⟨rfl, v3, HI2.out.step H3.out.1 (fun k _ hm => ?_), ?_, ?_⟩
      · rw [Hov.out] at hm
        simp only [List.mem_cons] at hm ⊢
        rcases hm with hm | hm
        · exact .inl hm
        · exact .inr (.inr hm)
      · rw [← HR.out, addR]
        exact HB2.out.pushed H3.out.1 H3.out.2.1 H3.out.2.2 hv3 Hx.out hqx
      · rcases hv3 with h3 | ⟨g, h3, h4⟩
        · exact .inl (h3.trans Hov.out)
        · exact .inr ⟨g, h3, by omega⟩
    | cons t s =>
      have Hrow := hid (show wr.ownsRow base 106 34 v (s.length + 1) (nodsC s.reverse ++ nodC t) from by rw [← nods_rev]; exact HBld.out.row)
      have hns := HBld.out.nods
      have Ht := hid (hns t (by simp)).1
      have htq := (hns t (by simp)).2
      have Hls := hid (nods_len (s := s) (fun y hy => (hns y (by simp [hy])).1))
      have hlx2 : x.l + s.length + 1 ≤ 50 := by
        simp only [List.length_cons] at hlx
        omega
      clear hns
      by_cases htl : t.l = x.l
      · go_wp2_with fail
        refine wp_region_flow 6 [0, 1, 2, 3, 4, 5] [] [] (by kernel_rfl) (by kernel_rfl) ?_
        apply Exists.intro
        refine ⟨fun w0 hb0 hF0 => ?_, ?_⟩
        · skip
          have y0 : ∀ w', (∃ x : Ext w0, w' = x.at_) → w'.cell? ⟨w.heap.size, 32, none⟩ = some (.int .i64 x.l) := fun w' ⟨z, hz⟩ => by rw [hz]; exact nodC_lev Hx.out ((Kx.out.below hb0).below z.same)
          have c0 := fun e : Ext w0 => holds_top b base s.length _ _ v _ t (x.l : Int) true e.at_ ((HBld.out.blk.below hb0).below e.same) (bldC_top _ _ _ _ _) (owns_below (owns_below Hrow.out hb0) e.same) Hls.out Ht.out (by rw [htl]; simp)
          simp only [pick, List.getElem?_toArray, List.getElem?_cons_succ, List.getElem?_cons_zero, Option.toList_some, List.cons_append, List.nil_append]
          repeat (first | (go_big_quiet_want; refine quiet_load_one 3 _ rfl ⟨w.heap.size, 32, none⟩ rfl _ y0 _ Tryz.underlying3 rfl ?_; go_big_quiet_on; simp only [Act.put, List.setIfInBounds_toArray, List.set_cons_zero, List.set_cons_succ]) | go_big_quiet_step (first | (go_at_call 73; with_reducible exact Calls.ext (c0 _))))
          exact wpQuiet_nil rfl
        refine AlChk.nil ?_
        refine Walk.fin fun w1 h1 _ _ => ?_
        simp only [List.drop_succ_cons, List.drop_zero]
        have HBld1 := hid (HBld.out.below h1)
        have Hrow1 := hid (owns_below Hrow.out h1)
        have HI1 := hid (HI.out.step (FlowB.ButIn.of_below (S := []) h1) (fun _ _ h => absurd h (by simp)))
        have Kx1 := hid (Kx.out.below h1)
        have hs1 := Nat.le_trans hsz h1.size
        clear h1
        go_wp2_with fail
        refine (pop_any b base s.length _ _ v _ t _ HBld1.out.blk (bldC_top _ _ _ _ _) (by rw [bldC_size hpub had]; omega) Hrow1.out Hls.out Ht.out HBld1.out.nb).mono ?_
        rintro e w2 ⟨rfl, v2, hb2, hk2, ho2, hv2⟩
        rw [bldC_set] at hk2
        have HB2 := hid (HBld1.out.popped hb2 hk2 ho2 hv2)
        have Kx2 := hid (hb2.blk Kx1.out hXb)
        have HI2 := hid (HI1.out.step hb2.in_ (fun k _ hm => by simp at hm ⊢; exact .inl hm))
        have hs2 := Nat.le_trans hs1 hb2.size
        have Hov2 := hid (hv2.trans Hov.out)
        have hxl2 := Kx2.out.lt
        clear hb2 hk2 ho2 hv2
        go_wp2_with (
          refine wpList_store_blk rfl 106 _ _ rfl (w2.heap.size) (nodC t).toArray rfl rfl _ 106 (Blk.new rfl nodZ _) 34 size_nod nodZ_size (nodC_size Ht.out) (nodC_ones t) ?_
          intro w3 hb3 hk3
          have h3 := hb3.below ((Below.refl w2.heap.size w2).alloc (Nat.le_refl _) _) (by simp only [World.size_alloc]; omega) (Nat.le_refl _)
          have HB3 := hid (HB2.out.below h3)
          have Kx3 := hid (Kx2.out.below h3)
          have Kt3 := hid hk3
          have HI3 := hid (HI2.out.step (FlowB.ButIn.of_below (S := []) h3) (fun _ _ h => absurd h (by simp)))
          have hs3 := Nat.le_trans hs2 h3.size
          clear hb3 hk3 h3)
        have HJ := hid (Dg.join t.d x.d pub (setAd ad x.l ((t.q : Int) / 2) 0))
        have HU := hid (show upN pub ad t x = ⟨joinZ t.d x.d pub (setAd ad x.l ((t.q : Int) / 2) 0), x.l + 1, t.q / 2⟩ from rfl)
        have C1 := hid (fun (W : World) (h : ShaTab W) => tjoin_any t.d x.d pub ad (x.l : Int) ((t.q : Int) / 2) W Ht.out Hx.out hpub had (by omega) (by omega) h)
        generalize joinZ t.d x.d pub (setAd ad x.l ((t.q : Int) / 2) 0) = J at *
        have hbn : ∀ W : World, (Instr.build 106 #[(0, (.agg (J.map (Value.int .u8)).toArray)), (1, .int .i64 ((x.l : Int) + 1)), (2, .int .i64 ((t.q : Int) / 2))]).run Tryz.prog W = .ok (.agg (nodC ⟨J, x.l + 1, t.q / 2⟩).toArray) W := fun W => build_nod J (x.l + 1) (t.q / 2) HJ.out W
        generalize hxn : upN pub ad t x = xn at *
        simp only [Act.put]
        refine wp_region_flow 25 (List.range 25) [] [] (by kernel_rfl) (by kernel_rfl) ?_
        apply Exists.intro
        refine ⟨fun w0 hb0 hF0 => ?_, ?_⟩
        · skip
          have x0 : ∀ w', (∃ x : Ext w0, w' = x.at_) → w'.rangeAt (w2.heap.size) 0 (t.d.map (Value.int .u8)) := fun w' ⟨z, hz⟩ => hz ▸ nodC_dig ((Kt3.out.below hb0).below z.same)
          have x1 : ∀ w', (∃ x : Ext w0, w' = x.at_) → w'.rangeAt (w.heap.size) 0 (x.d.map (Value.int .u8)) := fun w' ⟨z, hz⟩ => hz ▸ nodC_dig ((Kx3.out.below hb0).below z.same)
          have x2 : ∀ w', (∃ x : Ext w0, w' = x.at_) → w'.rangeAt b 1 (pub.map (Value.int .u8)) := fun w' ⟨z, hz⟩ => hz ▸ bldC_pub ((HB3.out.blk.below hb0).below z.same)
          have x3 : ∀ w', (∃ x : Ext w0, w' = x.at_) → w'.rangeAt b 33 (ad.map (Value.int .u32)) := fun w' ⟨z, hz⟩ => hz ▸ bldC_ad hpub ((HB3.out.blk.below hb0).below z.same)
          have y0 : ∀ w', (∃ x : Ext w0, w' = x.at_) → w'.cell? ⟨w.heap.size, 32, none⟩ = some (.int .i64 x.l) := fun w' ⟨z, hz⟩ => by rw [hz]; exact nodC_lev Hx.out ((Kx3.out.below hb0).below z.same)
          have y1 : ∀ w', (∃ x : Ext w0, w' = x.at_) → w'.cell? ⟨w2.heap.size, 33, none⟩ = some (.int .i64 t.q) := fun w' ⟨z, hz⟩ => by rw [hz]; exact nodC_num Ht.out ((Kt3.out.below hb0).below z.same)
          have c0 := fun e : Ext w0 => C1.out e.at_ (((tab.in_ HI3.out hS1 hS0).below hb0).below e.same)
          simp only [pick, List.range, List.range.loop, List.getElem?_toArray, List.getElem?_cons_succ, List.getElem?_cons_zero, Option.toList_some, List.cons_append, List.nil_append]
          repeat (first | (go_big_quiet_want; refine quiet_load_mid 25 _ rfl (w2.heap.size) 0 rfl _ x0 _ Tryz.underlying25 rfl (by rw [List.length_map, Ht.out.len]; exact size_digest) ?_; go_big_quiet_on; simp only [Act.put, List.setIfInBounds_toArray, List.set_cons_zero, List.set_cons_succ]) | (go_big_quiet_want; refine quiet_load_mid 25 _ rfl (w.heap.size) 0 rfl _ x1 _ Tryz.underlying25 rfl (by rw [List.length_map, Hx.out.len]; exact size_digest) ?_; go_big_quiet_on; simp only [Act.put, List.setIfInBounds_toArray, List.set_cons_zero, List.set_cons_succ]) | (go_big_quiet_want; refine quiet_load_mid 25 _ rfl (b) 1 rfl _ x2 _ Tryz.underlying25 rfl (by rw [List.length_map, hpub.len]; exact size_digest) ?_; go_big_quiet_on; simp only [Act.put, List.setIfInBounds_toArray, List.set_cons_zero, List.set_cons_succ]) | (go_big_quiet_want; refine quiet_load_mid 73 _ rfl (b) 33 rfl _ x3 _ Tryz.underlying73 rfl (by rw [List.length_map, had.len]; exact sizeAdrs) ?_; go_big_quiet_on; simp only [Act.put, List.setIfInBounds_toArray, List.set_cons_zero, List.set_cons_succ]) | (go_big_quiet_want; refine quiet_load_one 3 _ rfl ⟨w.heap.size, 32, none⟩ rfl _ y0 _ Tryz.underlying3 rfl ?_; go_big_quiet_on; simp only [Act.put, List.setIfInBounds_toArray, List.set_cons_zero, List.set_cons_succ]) | (go_big_quiet_want; refine quiet_load_one 3 _ rfl ⟨w2.heap.size, 33, none⟩ rfl _ y1 _ Tryz.underlying3 rfl ?_; go_big_quiet_on; simp only [Act.put, List.setIfInBounds_toArray, List.set_cons_zero, List.set_cons_succ]) | (go_big_quiet_want; refine quiet_build _ _ rfl [(0, (.agg (J.map (Value.int .u8)).toArray)), (1, .int .i64 ((x.l : Int) + 1)), (2, .int .i64 ((t.q : Int) / 2))] rfl _ hbn ?_; go_big_quiet_on; simp only [Act.put, List.setIfInBounds_toArray, List.set_cons_zero, List.set_cons_succ]) | go_big_quiet_step (first | (go_at_call 74; with_reducible exact Calls.ext (c0 _))))
          exact wpQuiet_nil rfl
        refine AlChk.nil ?_
        refine Walk.fin fun w4 h4 _ _ => ?_
        simp only [List.drop_succ_cons, List.drop_zero]
        have HB4 := hid (HB3.out.below h4)
        have Kx4 := hid (Kx3.out.below h4)
        have HI4 := hid (HI3.out.step (FlowB.ButIn.of_below (S := []) h4) (fun _ _ h => absurd h (by simp)))
        have hs4 := Nat.le_trans hs3 h4.size
        have Hxn := hid (show Dg xn.d by rw [HU.out]; exact HJ.out)
        have hxnl : xn.l = x.l + 1 := by rw [HU.out]
        have hxnq : xn.q = t.q / 2 := by rw [HU.out]
        have HXn : Hid ((nodC ⟨J, x.l + 1, t.q / 2⟩).toArray = (nodC xn).toArray) := hid (by rw [HU.out])
        clear h4
        go_wp2_with (first
         | (
          refine wpList_store_blk rfl 106 _ _ rfl (w.heap.size) (nodC ⟨J, x.l + 1, t.q / 2⟩).toArray rfl rfl _ 106 Kx4.out 34 size_nod (nodC_size Hx.out) (by rw [HXn.out]; exact nodC_size Hxn.out) (nodC_ones _) ?_
          intro w5 hb5 hk5
          rw [HXn.out] at hk5
          have Kx5 := hid hk5
          have HB5 := hid (show BldAt w5 base b pg n leaf pub ad v2 s path from ⟨hb5.blk HB4.out.blk (Ne.symm hXb), own_but HB4.out.row hb5 (fun h => by have := (hol _ (by rw [← Hov2.out]; exact h)).2; omega), hb5.blk HB4.out.pth (Ne.symm hXp), HB4.out.len, HB4.out.each, HB4.out.nods, HB4.out.ne, HB4.out.nb, HB4.out.np⟩)
          have HI5 := hid (HI4.out.step hb5.in_ (fun k hk hm => by simp at hm; omega))
          have hs5 := Nat.le_trans hs4 hb5.size
          clear hb5 hk5)
         | (refine wpList_load_blk rfl 106 _ rfl (w.heap.size) rfl _ 106 Kx5.out _ Tryz.underlying106 rfl 34 size_nod (nodC_size Hxn.out) ?_))
        refine (pick_any b pg n leaf _ pub ad _ path xn _ HB5.out.blk HB5.out.pth HB5.out.each HB5.out.len hpub had Hxn.out (by omega) hlf).mono ?_
        rintro e w6 ⟨rfl, hI6, hp6⟩
        have HB6 := hid (HB5.out.picked hI6 hp6 Hxn.out)
        have Kx6 := hid (hI6.blk Kx5.out (by simpa using hXp))
        have HI6 := hid (HI5.out.step hI6 (fun k _ hm => by simp at hm ⊢; exact .inr (.inl hm)))
        have hs6 := Nat.le_trans hs5 hI6.size
        clear hI6 hp6
        go_wp2_with fail
        have hm1 := HBld.out.top
        have hm2 := HB6.out.top
        obtain ⟨ma, mc, rfl⟩ := own_len Hrow.out
        obtain ⟨na, nc, rfl⟩ := own_len HB6.out.row
        refine ⟨⟨_, s, _, xn, HB6.out, Hov2.out, Kx6.out, Hxn.out, by omega, by omega, HI6.out, hs6, ?_⟩, ?_⟩
        · rw [← HR.out, addR_up htl, hxn]
        · simp only [hm1, hm2]; omega
      · go_wp2_with fail
        refine wp_region_flow 6 [0, 1, 2, 3, 4, 5] [] [] (by kernel_rfl) (by kernel_rfl) ?_
        apply Exists.intro
        refine ⟨fun w0 hb0 hF0 => ?_, ?_⟩
        · skip
          have y0 : ∀ w', (∃ x : Ext w0, w' = x.at_) → w'.cell? ⟨w.heap.size, 32, none⟩ = some (.int .i64 x.l) := fun w' ⟨z, hz⟩ => by rw [hz]; exact nodC_lev Hx.out ((Kx.out.below hb0).below z.same)
          have c0 := fun e : Ext w0 => holds_top b base s.length _ _ v _ t (x.l : Int) false e.at_ ((HBld.out.blk.below hb0).below e.same) (bldC_top _ _ _ _ _) (owns_below (owns_below Hrow.out hb0) e.same) Hls.out Ht.out (by simp; omega)
          simp only [pick, List.getElem?_toArray, List.getElem?_cons_succ, List.getElem?_cons_zero, Option.toList_some, List.cons_append, List.nil_append]
          repeat (first | (go_big_quiet_want; refine quiet_load_one 3 _ rfl ⟨w.heap.size, 32, none⟩ rfl _ y0 _ Tryz.underlying3 rfl ?_; go_big_quiet_on; simp only [Act.put, List.setIfInBounds_toArray, List.set_cons_zero, List.set_cons_succ]) | go_big_quiet_step (first | (go_at_call 73; with_reducible exact Calls.ext (c0 _))))
          exact wpQuiet_nil rfl
        refine AlChk.nil ?_
        refine Walk.fin fun w1 h1 _ _ => ?_
        simp only [List.drop_succ_cons, List.drop_zero]
        have HBld1 := hid (HBld.out.below h1)
        have HI1 := hid (HI.out.step (FlowB.ButIn.of_below (S := []) h1) (fun _ _ h => absurd h (by simp)))
        have Kxwr1 := hid (Kx.out.below h1)
        have hs1 := Nat.le_trans hsz h1.size
        clear h1
        go_wp2_with fail
        refine wp_region_flow 4 [0, 1, 2, 3] [] [] (by kernel_rfl) (by kernel_rfl) ?_
        apply Exists.intro
        refine ⟨fun w0 hb0 hF0 => ?_, ?_⟩
        · skip
          have x1 : ∀ w', (∃ x : Ext w0, w' = x.at_) → ∃ T, Blk w' (w.heap.size) (nodC x).toArray T := fun w' ⟨z, hz⟩ => ⟨_, hz ▸ (Kxwr1.out.below hb0).below z.same⟩
          simp only [pick, List.getElem?_toArray, List.getElem?_cons_succ, List.getElem?_cons_zero, Option.toList_some, List.cons_append, List.nil_append]
          repeat (first | (go_big_quiet_want; refine quiet_load_blk 106 _ rfl (w.heap.size) rfl _ x1 _ Tryz.underlying106 rfl 34 size_nod (nodC_size Hx.out) ?_; go_big_quiet_on; simp only [Act.put, List.setIfInBounds_toArray, List.set_cons_zero, List.set_cons_succ]) | go_big_quiet_step (fail))
          exact wpQuiet_nil rfl
        refine AlChk.nil ?_
        refine Walk.fin fun w2 h2 _ _ => ?_
        simp only [List.drop_succ_cons, List.drop_zero]
        have HB2 := hid (HBld1.out.below h2)
        have HI2 := hid (HI1.out.step (FlowB.ButIn.of_below (S := []) h2) (fun _ _ h => absurd h (by simp)))
        have hs2 := Nat.le_trans hs1 h2.size
        clear h2
        go_wp2_with fail
        refine (push_any b base (t :: s).length _ _ _ (nodsC (t :: s).reverse) x _ HB2.out.blk (bldC_top _ _ _ _ _) (by rw [bldC_size hpub had]; omega) HB2.out.row Hx.out HB2.out.nb (by omega) (by omega)).mono ?_
        rintro e w3 ⟨rfl, v3, hI3, hk3, ho3, hv3⟩
        rw [bldC_set] at hk3
        have H3 := hid (And.intro hI3 (And.intro hk3 ho3))
        have hs3 := hI3.size
        clear hI3 hk3 ho3
        go_wp2_with fail
        go_end0
        refine ⟨rfl, v3, HI2.out.step H3.out.1 (fun k _ hm => ?_), ?_, ?_⟩
        · rw [Hov.out] at hm
          simp only [List.mem_cons] at hm ⊢
          rcases hm with hm | hm
          · exact .inl hm
          · exact .inr (.inr hm)
        · rw [← HR.out, addR_on htl]
          exact HB2.out.pushed H3.out.1 H3.out.2.1 H3.out.2.2 hv3 Hx.out hqx
        · rcases hv3 with h3 | ⟨g, h3, h4⟩
          · exact .inl (h3.trans Hov.out)
          · exact .inr ⟨g, h3, by omega⟩
end Go.Proofs.YtjkfbeillmeomaaGreatDoor
