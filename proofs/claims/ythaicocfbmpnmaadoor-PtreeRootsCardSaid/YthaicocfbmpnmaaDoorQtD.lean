/-
  Layer 17: entries are collected out of a range.
-/
import Derived.Test.YthaicocfbmpnmaaDoorQtC
import Derived.Test.YthaicocfbmpnmaaDoorPtH
namespace Go.Proofs.YthaicocfbmpnmaaDoor
open Go.ChangeShapes Go.WideShapes Go.ChangeAt Go.RowKit Go.Shelf
attribute [local go_sem] Oper.semAt_some

/-- A row's bytes. -/
def flatE (es : List (List Int × List Int)) : List Int := (es.map fun x => entL x.1 x.2).flatten
theorem flatE_snoc (es : List (List Int × List Int)) (x : List Int × List Int) : flatE (es ++ [x]) = flatE es ++ entL x.1 x.2 := by simp [flatE]
theorem flatE_length {es : List (List Int × List Int)} (h : ∀ x ∈ es, Dg x.1 ∧ Dg x.2) : (flatE es).length = es.length * 64 := by
  induction es with
  | nil => rfl
  | cons x l ih =>
    have hx := h x (List.mem_cons_self ..)
    rw [show flatE (x :: l) = entL x.1 x.2 ++ flatE l from rfl, List.length_append, ih (fun y hy => h y (List.mem_cons_of_mem _ hy)), ent_len hx.1 hx.2, List.length_cons]
    omega
theorem flatE_at {es : List (List Int × List Int)} (h : ∀ x ∈ es, Dg x.1 ∧ Dg x.2) : ∀ (j k : Nat), j < es.length → k < 64 → (flatE es)[j * 64 + k]? = (entL (es.getD j ([], [])).1 (es.getD j ([], [])).2)[k]? := by
  induction es with
  | nil => intro j k hj; simp at hj
  | cons x l ih =>
    intro j k hj hk
    have hx := h x (List.mem_cons_self ..)
    have hl := ent_len hx.1 hx.2
    rw [show flatE (x :: l) = entL x.1 x.2 ++ flatE l from rfl]
    cases j with
    | zero =>
      rw [List.getElem?_append_left (by omega)]
      simp
    | succ j =>
      rw [List.getElem?_append_right (by omega), hl, show (j + 1) * 64 + k - 64 = j * 64 + k by omega, ih (fun y hy => h y (List.mem_cons_of_mem _ hy)) j k (by simpa using hj) hk]
      simp
/-- A row of entries of the call's own. -/
structure OwnE (w : World) (base : Nat) (v : Value) (es : List (List Int × List Int)) : Prop where
  row : w.ownsRow base 25 64 v es.length ((flatE es).map (Value.int .u8))
  each : ∀ x ∈ es, Dg x.1 ∧ Dg x.2
theorem OwnE.nil (w : World) (base : Nat) : OwnE w base (.slice none 0 0) [] := ⟨World.ownsRow_nil w base 25 64, by simp⟩
theorem OwnE.below {w w' : World} {base : Nat} {v : Value} {es : List (List Int × List Int)} (h : OwnE w base v es) (hb : Below w.heap.size w w') : OwnE w' base v es := ⟨owns_below h.row hb, h.each⟩
theorem OwnE.lt {w : World} {base : Nat} {v : Value} {es : List (List Int × List Int)} (h : OwnE w base v es) : ∀ k, v.ownBlock = some k → base ≤ k ∧ k < w.heap.size := h.row.lt
/-- Other blocks are turned. -/
theorem OwnE.kept {w w' : World} {base : Nat} {v : Value} {es : List (List Int × List Int)} (h : OwnE w base v es) (hb : ∀ k, v.ownBlock = some k → w'.heap[k]? = w.heap[k]?) : OwnE w' base v es := by
  obtain ⟨⟨h1, h2⟩, h3⟩ := h
  refine ⟨⟨h1, h2.imp id ?_⟩, h3⟩
  rintro ⟨g, cap, cur, rfl, hg, hh, hle⟩
  exact ⟨g, cap, cur, rfl, hg, (hb g rfl).trans hh, hle⟩
theorem OwnE.re {w : World} {base base' : Nat} {v : Value} {es : List (List Int × List Int)} (h : OwnE w base v es) (hb : base' ≤ base) : OwnE w base' v es := by
  obtain ⟨⟨h1, h2⟩, h3⟩ := h
  refine ⟨⟨h1, h2.imp id ?_⟩, h3⟩
  rintro ⟨g, cap, cur, rfl, hg, hh⟩
  exact ⟨g, cap, cur, rfl, Nat.le_trans hb hg, hh⟩
/-- One entry more. -/
theorem run_append_ent {w : World} {base : Nat} {v : Value} {es : List (List Int × List Int)} (ty : TypeId) (hown : OwnE w base v es) {b : Nat} {x : List Int × List Int} {T : TypeId} (hk : Blk w b ((entL x.1 x.2).map (Value.int .u8)).toArray T) (hx : Dg x.1 ∧ Dg x.2) (hb : es.length ≤ 1000000000000) (hbase : base ≤ w.heap.size) :
    ∃ v' w', (Builtin.append_ #[36, 36] ty #[v, .slice (some ⟨b, 0, none⟩) 1 1]).run Tryd.prog w = .ok v' w' ∧ OwnE w' base v' (es ++ [x]) ∧ w.grownBy w' v.ownBlock ∧ Below base w w' := by
  have hbel : ∀ {w' : World}, w.grownBy w' v.ownBlock → Below base w w' := fun hg => ⟨hg.os, hg.tape, hg.output, hg.size, fun k hk => hg.block k (by omega) (fun e => by have := (hown.lt k e.symm).1; omega)⟩
  obtain ⟨i0, hi, hz0, hz1, hz2⟩ := info_parts info_ent
  obtain ⟨v', w', h1, h2, h3, _⟩ := run_append_own (P := Tryd.prog) w base 36 ty 25 i0 (.agg ((entL zD zD).map (Value.int .u8)).toArray) 64 64 Tryd.underlying36 hi hz0 hz1 hz2 (two_size Dg.zero Dg.zero) (by omega) v es.length _ hown.row ⟨b, 0, none⟩ 1 1 ((entL x.1 x.2).map (Value.int .u8)) (by rw [List.length_map, ent_len hx.1 hx.2, Nat.one_mul]) (news_blk hk) (fun u hu => by
    simp only [List.mem_map] at hu
    obtain ⟨_, _, rfl⟩ := hu
    rfl) (by unfold maxLen; omega) (by omega) hbase
  refine ⟨v', w', h1, ⟨?_, ?_⟩, h3, ?_⟩
  · rw [flatE_snoc, List.map_append, List.length_append]
    exact h2
  · intro d hd
    rcases List.mem_append.1 hd with h | h
    · exact hown.each d h
    · simp only [List.mem_singleton] at h
      rw [h]; exact hx
  · exact hbel h3
theorem wpList_append_ent {ops : Array Oper} {rest : List Oper} {o : Oper} {A : Act} {w : World} {Q : Exit → Act → World → Prop} {base : Nat} {v : Value} {es : List (List Int × List Int)} (hgd : o.guard = none) (s x : Operand) (ho : o.op = .call { callee := .builtin .append, args := #[s, x], argTypes := #[36, 36] })
    (hs : A.eval s = v) (hown : OwnE w base v es) {b : Nat} {y : List Int × List Int} {T : TypeId} (hx : A.eval x = .slice (some ⟨b, 0, none⟩) 1 1) (hk : Blk w b ((entL y.1 y.2).map (Value.int .u8)).toArray T) (hy : Dg y.1 ∧ Dg y.2) (hb : es.length ≤ 1000000000000) (hbase : base ≤ w.heap.size)
    (h : ∀ v' w', OwnE w' base v' (es ++ [y]) → w.grownBy w' v.ownBlock → Below base w w' → wpList Tryd.prog ops Q rest (A.put o.dst v') w') : wpList Tryd.prog ops Q (o :: rest) A w :=
  wpList_plain hgd fun K hK => by
    obtain ⟨v', w', hr, h2, h3, h4⟩ := run_append_ent o.type hown hk hy hb hbase
    unfold Oper.wp execOp
    simp only [ho, resolve, invoke, builtin, Sem.run_bind, Sem.run_pure, Result.andThen_ok, List.map_toArray, List.map_cons, List.map_nil, hs, hx, hr, Oper.upon_value]
    exact hK _ _ (h v' w' h2 h3 h4)
theorem OwnE.succ {w : World} {base : Nat} {v : Value} {es : List (List Int × List Int)} {y : List Int × List Int} (h : OwnE w base v (es ++ [y])) : ∃ g cap, v = .slice (some ⟨g, 0, none⟩) (es.length + 1) cap := by
  obtain ⟨⟨h1, ⟨rfl, h2⟩ | ⟨g, cap, cur, rfl, _⟩⟩, _⟩ := h
  · simp at h2
  · exact ⟨g, cap, by simp⟩
theorem OwnE.not_other {w : World} {base : Nat} {v : Value} {es : List (List Int × List Int)} (h : OwnE w base v es) {k : Nat} (hk : v.ownBlock = some k) {o : Obj} (ho : w.heap[k]? = some o) (hc : o.isCells = false) : False := by
  obtain ⟨⟨h1, ⟨rfl, h2⟩ | ⟨g, cap, cur, rfl, hg, hh, _⟩⟩, _⟩ := h
  · cases hk
  · cases hk
    rw [hh] at ho
    cases ho
    cases hc
theorem Blk.at_same {w w' : World} {b : Nat} {cs : Array Value} {T : TypeId} (h : Blk w b cs T) (hs : w'.heap[b]? = w.heap[b]?) : Blk w' b cs T := hs.trans h
theorem Blk.grownC {W W' : World} {b : Nat} {cs : Array Value} {T : TypeId} {row : Option Nat} (h : Blk W b cs T) (hg : W.grownBy W' row) (hr : ∀ r, row = some r → ∃ o : Obj, W.heap[r]? = some o ∧ o.isCells = false) : Blk W' b cs T :=
  (hg.block b h.lt (fun e => by obtain ⟨o, ho, hc⟩ := hr b e.symm; rw [show W.heap[b]? = _ from h] at ho; cases ho; cases hc)).trans h
set_option maxRecDepth 100000 in
theorem run_build_ent1 {x : List Int × List Int} (hx : Dg x.1 ∧ Dg x.2) (w : World) : (Instr.buildSlice 36 1 #[(0, .agg ((entL x.1 x.2).map (Value.int .u8)).toArray)]).run Tryd.prog w = .ok (.slice (some ⟨w.heap.size, 0, none⟩) 1 1) (w.alloc (.cells ((entL x.1 x.2).map (Value.int .u8)).toArray 25 (0, 0))) := by
  have hf : ∀ zs : Array Value, zs.size = 64 → Instr.fill (fun i => some (i * 64, 64)) zs [(0, .agg ((entL x.1 x.2).map (Value.int .u8)).toArray)] = some ((entL x.1 x.2).map (Value.int .u8)).toArray := fun zs hz => by
    have hs : (Value.agg ((entL x.1 x.2).map (Value.int .u8)).toArray).cells.size = 64 := two_size hx.1 hx.2
    rw [fill_part _ _ 0 0 _ _ (by rw [hs]) (by rw [hs, hz]; omega), Instr.fill]
    congr 1
    show (splice zs.toList 0 (((entL x.1 x.2).map (Value.int .u8)).toArray).toList).toArray = _
    unfold splice
    rw [List.take_zero, List.nil_append, List.drop_eq_nil_of_le (by rw [Array.length_toList, Array.length_toList, hz, two_size hx.1 hx.2]; omega), List.append_nil]
  unfold Instr.buildSlice
  simp only [Sem.run_bind, run_underlying Tryd.underlying36, Result.andThen_ok, Tryd.sizeOf25]
  rw [if_neg (by decide), if_neg (by decide)]
  simp only [Sem.run_bind, Sem.run_pure, Result.andThen_ok, Tryd.zeroValue25]
  rw [hf _ (by rw [Array.size_map, Array.size_range])]
  simp [newRow]
theorem wpList_build_ent1 {ops : Array Oper} {rest : List Oper} {o : Oper} {A : Act} {w : World} {Q : Exit → Act → World → Prop} (hgd : o.guard = none) (e : Operand) (ho : o.op = .buildSlice 36 1 #[(0, e)]) {x : List Int × List Int} (he : A.eval e = .agg ((entL x.1 x.2).map (Value.int .u8)).toArray) (hx : Dg x.1 ∧ Dg x.2)
    (h : wpList Tryd.prog ops Q rest (A.put o.dst (.slice (some ⟨w.heap.size, 0, none⟩) 1 1)) (w.alloc (.cells ((entL x.1 x.2).map (Value.int .u8)).toArray 25 (0, 0)))) : wpList Tryd.prog ops Q (o :: rest) A w :=
  wpList_plain hgd fun K hK => by
    unfold Oper.wp execOp
    simp only [ho, List.map_toArray, List.map_cons, List.map_nil, he, Sem.run_bind, run_build_ent1 hx, Result.andThen_ok, Sem.run_pure, Oper.upon_value]
    exact hK _ _ h

set_option maxHeartbeats 4000000 in
set_option maxRecDepth 100000 in
theorem appendSeq_all (ad : Option Addr) (len cap : Nat) (es : List EntD) (pb : Nat) (w : World) (hE : EntsAt w ad len cap (es.map Subtype.val)) (hmx : len ≤ 300) (hk : Blk w pb #[.slice ad len cap] 36) :
    Calls Tryd.prog 99 #[.slice none 0 0, .func (.func 93) #[] #[.pointer (some ⟨pb, 0, none⟩)]] w fun e w' => ∃ v, e = .returned v ∧ OwnE w' w.heap.size v (es.map Subtype.val) ∧ Below w.heap.size w w' := by
  have HE := hid hE
  have HK := hid hk
  clear hE hk
  refine (callsIn_wide (n := 7)).1 ?_
  refine callsIn_of_wp_marks Tryd.func99 rfl trivial ?_ rfl
  simp only [Tryd.ntmps99, List.size_toArray, List.length_cons, List.length_nil, Nat.reduceAdd, Nat.reduceSub, Array.replicate_succ, Array.replicate_zero, List.push_toArray, List.append_toArray, List.nil_append, List.cons_append]
  apply wpIn_seq_k
  intro _ _
  refine wpIn_region_as rfl rfl ?_
  go_wp2_with fail
  apply wpIn_seq_k
  intro _ _
  apply wpIn_seq_k
  intro _ _
  refine wpIn_region_as rfl rfl ?_
  go_wp2_with fail
  apply wpIn_block
  have hB0 : Below w.heap.size w (w.alloc (.cells #[.slice none 0 0] 36 (0, 0))) := (Below.refl _ w).alloc (Nat.le_refl _) _
  have k0 : Blk (w.alloc (.cells #[.slice none 0 0] 36 (0, 0))) w.heap.size #[.slice none 0 0] 36 := Blk.new rfl _ _
  have kp := HK.out.below hB0
  have hz := World.size_alloc w (.cells #[.slice none 0 0] 36 (0, 0))
  generalize hW1 : w.alloc (.cells #[.slice none 0 0] 36 (0, 0)) = W1 at *
  refine wpIn_rangeFunc_ownH rfl (by omega) (gf := 93) (lb := #[.pointer (some ⟨pb, 0, none⟩)]) rfl trivial (enters_of Tryd.func93 (by kernel_rfl) rfl)
    (values_stops _ ad len cap es pb w.heap.size w W1 HE.out (by omega) rfl hB0 kp)
    belowK_t (belowK_b (by omega)) (Below.refl _ _) (fun _ => rfl)
    (fun pre W => (∃ v, Blk W w.heap.size #[v] 36 ∧ OwnE W (w.heap.size + 1) v (pre.map Subtype.val)) ∧ Below w.heap.size w W)
    (fun _ _ _ => False)
    (OwnFrom.and (Own.from (fun s A B row hs hg hr => by
      obtain ⟨v, h1, h2⟩ := hs
      exact ⟨v, h1.grownC hg hr, h2.kept (fun k hk => hg.block k (h2.lt k hk).2 (fun e => by
        obtain ⟨q, hq, hc⟩ := hr k e.symm
        exact h2.not_other hk hq hc))⟩) _) (ownFrom_below (Nat.le_refl _) (by omega)))
    (fun _ _ _ _ _ hs _ _ => hs)
    ⟨⟨_, k0, OwnE.nil _ _⟩, hB0⟩
    (fun x a' W => ∃ Bx, Blk W Bx ((entL x.1.1 x.1.2).map (Value.int .u8)).toArray 25 ∧ a' = { tmps := #[.slice none 0 0, .func (.func 93) #[] #[.pointer (some ⟨pb, 0, none⟩)], .pointer (some ⟨w.heap.size, 0, none⟩), undef, .slice none 0 0, .pointer (some ⟨Bx, 0, none⟩), .func (.func 93) #[] #[.pointer (some ⟨pb, 0, none⟩)], .agg ((entL x.1.1 x.1.2).map (Value.int .u8)).toArray, undef, undef, undef, undef, undef], defers := [] })
    (fun x a' => fun _ A B row hs hg hr => by
      obtain ⟨Bx, h2, h3⟩ := hs
      exact ⟨Bx, h2.grownC hg (fun r e => (hr r e).2), h3⟩) ?assign ?body ?done ?stop
  case stop =>
    rintro D c pre W _ _ h _
    exact h.elim
  case assign =>
    rintro l pre x W K hi hK
    obtain ⟨⟨xi, xc⟩, hda, hdb⟩ := x
    dsimp only at hda hdb hK ⊢
    obtain ⟨⟨v, kv, ov⟩, bel⟩ := hi
    have KV := hid kv
    have OV := hid ov
    have BL := hid bel
    have hbs := bel.size
    have hvl := kv.lt
    clear kv ov bel
    refine wpIn_region_as rfl rfl ?_
    go_wp2_with (
          refine wpList_store_blk rfl 25 _ _ rfl (W.heap.size) ((entL xi xc).map (Value.int .u8)).toArray rfl rfl _ 25 (Blk.new rfl ((entL zD zD).map (Value.int .u8)).toArray _) 64 size_entry (two_size Dg.zero Dg.zero) (two_size hda hdb) (ints_one _ _) ?_
          intro w3 hb3 hk3
          have b3 := hb3.below ((Below.refl W.heap.size W).alloc (Nat.le_refl _) _) (by simp only [World.size_alloc]; omega) (Nat.le_refl _)
          have HB3 := hid b3
          have HK3 := hid hk3
          clear hb3 hk3 b3)
    exact hK _ _ (keepsFrom_below HB3.out) (HB3.out.mono (by omega)) ⟨⟨_, KV.out.below HB3.out, OV.out.below HB3.out⟩, Below.on BL.out HB3.out⟩ ⟨W.heap.size, HK3.out, rfl⟩
  case body =>
    rintro l pre x a' W hl _ ⟨⟨v, kv, ov⟩, bel⟩ ⟨Bx, kb, rfl⟩ hlt
    obtain ⟨⟨xi, xc⟩, hda, hdb⟩ := x
    dsimp only at hda hdb kb ⊢
    have KV := hid kv
    have OV := hid ov
    have BL := hid bel
    have KB := hid kb
    have hbs := bel.size
    have hvl := kv.lt
    have hbl := kb.lt
    have hml : (pre.map Subtype.val).length < len := by rw [List.length_map]; exact hlt
    have cv : W.cell? ⟨w.heap.size, 0, none⟩ = some v := by rw [kv.cell]; rfl
    clear kv ov bel kb
    have hown : ∀ k, v.ownBlock = some k → w.heap.size + 1 ≤ k ∧ k < W.heap.size := OV.out.lt
    apply wpIn_block
    refine wpIn_region_as rfl rfl ?_
    go_wp2_with (first
          | (refine wpList_load_blk rfl 25 _ rfl (Bx) rfl _ 25 KB.out _ Tryd.underlying25 rfl 64 size_entry (two_size hda hdb) ?_)
          | (refine wpList_build_ent1 rfl _ rfl (x := (xi, xc)) rfl ⟨hda, hdb⟩ ?_)
          | (
             refine wpList_append_ent rfl _ _ rfl rfl (OV.out.below ((Below.refl W.heap.size W).alloc (Nat.le_refl _) _)) (y := (xi, xc)) rfl (Blk.new rfl ((entL xi xc).map (Value.int .u8)).toArray 25) ⟨hda, hdb⟩ (by omega) (by rw [World.size_alloc]; omega) ?_
             intro v5 w5 ho5 hg5 hb5
             obtain ⟨g5, c5, rfl⟩ := ho5.succ
             have HO5 := hid ho5
             have HB5 := hid ((Below.refl W.heap.size W).alloc (Nat.le_refl _) (.cells ((entL xi xc).map (Value.int .u8)).toArray 25 (0, 0)))
             have KV5 := hid ((KV.out.below HB5.out).at_same (hg5.block _ (by rw [World.size_alloc]; omega) (fun e => by have := (hown _ e.symm).1; omega)))
             have HG5 := hid hg5
             have HH5 := hid hb5
             have hs5 := hg5.size
             have cv5 : w5.cell? ⟨w.heap.size, 0, none⟩ = some v := by rw [KV5.out.cell]; rfl
             have cf5 := KV5.out.free 0
             clear ho5 hg5 hb5))
    have h5 := HB5.out
    have h6 := HG5.out
    have h7 := HH5.out
    have ho := HO5.out
    rw [List.length_map] at ho
    have oo := ho.kept (w' := w5.setCell ⟨w.heap.size, 0, none⟩ (.slice (some ⟨g5, 0, none⟩) (pre.length + 1) c5)) (fun k hk => Below.heap_setCell _ _ _ _ (by cases hk; have : w.heap.size + 1 ≤ g5 := (ho.lt _ rfl).1; show g5 ≠ w.heap.size; omega))
    have bb : Below w.heap.size W (w5.setCell ⟨w.heap.size, 0, none⟩ (.slice (some ⟨g5, 0, none⟩) (pre.length + 1) c5)) := Below.setCell (B := w.heap.size) ((h5.mono (by omega)).trans (h7.mono (by omega))) (p := ⟨w.heap.size, 0, none⟩) (Nat.le_refl _) _
    refine ⟨((keepsFrom_below h5).trans ((KeepsOthers.of_grownBy h6 (fun j o e hj => ?_)).from _)).trans ((KeepsOthers.setCell _ _ _).from _), bb, ⟨⟨_, KV5.out.set 0 _, by rw [List.map_append]; exact oo⟩, BL.out.trans bb⟩⟩
    have hlt5 := (hown j e).2
    rw [Below.heap_alloc _ _ _ hlt5] at hj
    cases hc : o.isCells with
    | true => rfl
    | false => exact (OV.out.not_other e hj hc).elim
  case done =>
    rintro D ys W hD rfl ⟨⟨v, kv, ov⟩, bel⟩ hK
    have cv : W.cell? ⟨w.heap.size, 0, none⟩ = some v := by rw [kv.cell]; rfl
    have OV := hid ov
    have BL := hid bel
    have HKD := hid hK
    have hvs := kv.lt
    have hdl : D < W.heap.size := (Array.getElem?_eq_some_iff.1 hK).1
    clear kv ov bel hK
    gi_step
    gi_step
    apply wpIn_seq_k
    intro _ _
    refine wpIn_region_as rfl rfl ?_
    go_wp2_with fail
    apply wpIn_ret
    refine ⟨by simp, .inl ⟨_, _, rfl, run_takeDeferred HKD.out, ?_⟩⟩
    refine ⟨_, results_tmp rfl _ _ _, _, rfl, ?_, BL.out.trans (belowK_b (w := w) (Nat.le_refl _) W D _ _ (by omega) HKD.out rfl rfl)⟩
    refine (OV.out.re (Nat.le_succ _)).kept (fun k hk => ?_)
    refine (grownBy_putObj' W D (.deferred none)).block k (OV.out.lt k hk).2 (fun e => ?_)
    cases e
    exact OV.out.not_other hk HKD.out rfl
end Go.Proofs.YthaicocfbmpnmaaDoor
