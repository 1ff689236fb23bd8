/-
  Layer 11: a signature's parts as a row of the call's own; a signature and a way written out.
-/
import Derived.Test.YtjkfbeillmeomaaGreatDoorSZPart
import Derived.Test.YtjkfbeillmeomaaGreatDoorSZVer
namespace Go.Proofs.YtjkfbeillmeomaaGreatDoor
set_option maxRecDepth 100000
open Go.ChangeShapes Go.WideShapes Go.ChangeAt Go.RowKit
theorem secL_prf {seed prf pub : List Int} (h : Dg seed) {w : World} {b : Nat} {T : TypeId} (k : Blk w b ((secL seed prf pub).map (Value.int .u8)).toArray T) : w.rangeAt b 32 (prf.map (Value.int .u8)) := fun j v hv => by
  have hj : j < prf.length := by have := (List.getElem?_eq_some_iff.1 hv).1; simpa using this
  rw [k.cell, List.getElem?_toArray, ← hv, List.getElem?_map, List.getElem?_map]
  unfold secL
  rw [List.getElem?_append_right (by rw [h.len]; omega), h.len, List.getElem?_append_left (by omega), show 32 + j - 32 = j by omega]
theorem build_sig2 (i : Int) (r : List Int) (h1 : Dg r) (w : World) : (Instr.build 36 #[(0, .int .i64 i), (1, .agg (r.map (Value.int .u8)).toArray)]).run Tryz.prog w = .ok (.agg (sigC i r (.slice none 0 0)).toArray) w := by
  refine run_build w _ _ _ ?_
  obtain ⟨i0, hi, hz0⟩ := Option.map_eq_some_iff.1 (show (Tryz.prog.info? 36).map (·.zero) = some (some (.agg zSig.toArray)) by kernel_rfl)
  obtain ⟨fields, hu, hq⟩ : ∃ fields, Tryz.prog.underlying 36 = some (.struct fields) ∧ fields.toList.mapM (fun f => (Tryz.prog.info? f.type).map fun i => (f.offset, i.size)) = some [(0, 1), (1, 32), (33, 1)] := ⟨_, Tryz.underlying36, by kernel_rfl⟩
  have hz : (Value.agg zSig.toArray).cells = zSig.toArray := rfl
  unfold Program.built
  simp only [hi, hu, hz0, hq, hz]
  have hs0 : (Value.int .i64 i).cells.size = 1 := rfl
  have hs1 : (Value.agg (r.map (Value.int .u8)).toArray).cells.size = 32 := h1.size
  have t0 : splice zSig.toArray.toList 0 (Value.int .i64 i).cells.toList = sigC i zD (.slice none 0 0) := rfl
  have t1 : splice (sigC i zD (.slice none 0 0)) 1 (Value.agg (r.map (Value.int .u8)).toArray).cells.toList = sigC i r (.slice none 0 0) := by
    show splice (sigC i zD (.slice none 0 0)) 1 (r.map (Value.int .u8)) = _
    unfold splice
    rw [List.length_map, h1.len]
    rfl
  rw [fill_part _ _ 0 0 _ _ (by rw [hs0]; rfl) (by rw [hs0]; decide), t0]
  rw [fill_part _ _ 1 1 _ _ (by rw [hs1]; rfl) (by rw [hs1, sigC_size Dg.zero]; omega), List.toList_toArray, t1, Instr.fill]
theorem build_way (seed prf pub : List Int) (la tr leaf n : Int) (h1 : Dg seed) (h2 : Dg prf) (h3 : Dg pub) (w : World) : (Instr.build 60 #[(0, .agg ((secL seed prf pub).map (Value.int .u8)).toArray), (1, .agg #[.int .u32 la, .int .u64 tr, .int .i64 leaf, .int .i64 n])]).run Tryz.prog w = .ok (.agg (wayC seed prf pub la tr leaf n).toArray) w := by
  refine run_build w _ _ _ ?_
  obtain ⟨i0, hi, hz0⟩ := Option.map_eq_some_iff.1 (show (Tryz.prog.info? 60).map (·.zero) = some (some (.agg (wayC zD zD zD 0 0 0 0).toArray)) by kernel_rfl)
  obtain ⟨fields, hu, hq⟩ : ∃ fields, Tryz.prog.underlying 60 = some (.struct fields) ∧ fields.toList.mapM (fun f => (Tryz.prog.info? f.type).map fun i => (f.offset, i.size)) = some [(0, 96), (96, 4)] := ⟨_, Tryz.underlying60, by kernel_rfl⟩
  have hz : (Value.agg (wayC zD zD zD 0 0 0 0).toArray).cells = (wayC zD zD zD 0 0 0 0).toArray := rfl
  unfold Program.built
  simp only [hi, hu, hz0, hq, hz]
  have hl := secL_length h1 h2 h3
  have hs0 : (Value.agg ((secL seed prf pub).map (Value.int .u8)).toArray).cells.size = 96 := by
    show ((secL seed prf pub).map (Value.int .u8)).toArray.size = 96
    rw [List.size_toArray, List.length_map, hl]
  have hs1 : (Value.agg #[.int .u32 la, .int .u64 tr, .int .i64 leaf, .int .i64 n]).cells.size = 4 := rfl
  have t0 : splice (wayC zD zD zD 0 0 0 0).toArray.toList 0 (Value.agg ((secL seed prf pub).map (Value.int .u8)).toArray).cells.toList = wayC seed prf pub 0 0 0 0 := by
    show splice (wayC zD zD zD 0 0 0 0) 0 ((secL seed prf pub).map (Value.int .u8)) = _
    unfold splice
    rw [List.length_map, hl]
    rfl
  have t1 : splice (wayC seed prf pub 0 0 0 0) 96 (Value.agg #[.int .u32 la, .int .u64 tr, .int .i64 leaf, .int .i64 n]).cells.toList = wayC seed prf pub la tr leaf n := by
    show splice (wayC seed prf pub 0 0 0 0) 96 [.int .u32 la, .int .u64 tr, .int .i64 leaf, .int .i64 n] = _
    unfold splice wayC
    rw [List.take_append_of_le_length (by rw [List.length_map, hl]; omega), List.take_of_length_le (by rw [List.length_map, hl]; omega), List.drop_eq_nil_of_le (by rw [List.length_append, List.length_map, hl]; exact Nat.le_refl _), List.append_nil]
  rw [fill_part _ _ 0 0 _ _ (by rw [hs0]; rfl) (by rw [hs0, wayC_size Dg.zero Dg.zero Dg.zero]; omega), t0]
  rw [fill_part _ _ 1 96 _ _ (by rw [hs1]; rfl) (by rw [hs1, wayC_size h1 h2 h3]; omega), List.toList_toArray, t1, Instr.fill]
/-- Parts as they lie in memory: two slices each. -/
def OwnP (w : World) (base : Nat) (v : Value) (ps : List Prt) : Prop :=
  ∃ cs : List (Value × Value), cs.length = ps.length ∧ w.ownsRow base 63 2 v ps.length (cs.flatMap fun c => [c.1, c.2]) ∧ ∀ j, j < ps.length → ∃ c, cs[j]? = some c ∧ RowT base (ps.getD j ([], [])).1.length (ps.getD j ([], [])).1 c.1 w ∧ RowT base (ps.getD j ([], [])).2.length (ps.getD j ([], [])).2 c.2 w
theorem OwnP.nil (w : World) (base : Nat) : OwnP w base (.slice none 0 0) [] := ⟨[], rfl, World.ownsRow_nil w base _ 2, fun j hj => by simp at hj⟩
theorem OwnP.below {w w' : World} {base : Nat} {v : Value} {ps : List Prt} (h : OwnP w base v ps) (hb : Below w.heap.size w w') : OwnP w' base v ps := by
  obtain ⟨cs, h1, h2, h3⟩ := h
  refine ⟨cs, h1, owns_below h2 hb, fun j hj => ?_⟩
  obtain ⟨c, h4, h5, h6⟩ := h3 j hj
  exact ⟨c, h4, h5.below hb, h6.below hb⟩
theorem OwnP.lt {w : World} {base : Nat} {v : Value} {ps : List Prt} (h : OwnP w base v ps) : ∀ k, v.ownBlock = some k → base ≤ k ∧ k < w.heap.size := by
  obtain ⟨cs, _, h2, _⟩ := h
  exact h2.lt
theorem OwnP.kind {w : World} {base : Nat} {v : Value} {ps : List Prt} (h : OwnP w base v ps) : ∀ k, v.ownBlock = some k → ∃ cur, Blk w k cur 63 := by
  obtain ⟨cs, h0, ⟨h1, ⟨rfl, h2⟩ | ⟨g, cap, cur, rfl, hg, hh, hle, hmx, hsz, htk⟩⟩, h3⟩ := h
  · intro k hk; cases hk
  · intro k hk
    cases hk
    exact ⟨cur, hh⟩
theorem flat2_at : ∀ (cs : List (Value × Value)) (j : Nat) (c : Value × Value), cs[j]? = some c → (cs.flatMap fun c => [c.1, c.2])[j * 2]? = some c.1 ∧ (cs.flatMap fun c => [c.1, c.2])[j * 2 + 1]? = some c.2
  | [], j, c, h => by simp at h
  | d :: cs, 0, c, h => by
    simp only [List.getElem?_cons_zero, Option.some.injEq] at h
    subst h
    exact ⟨rfl, rfl⟩
  | d :: cs, j + 1, c, h => by
    simp only [List.getElem?_cons_succ] at h
    have := flat2_at cs j c h
    rw [show (j + 1) * 2 = j * 2 + 1 + 1 by omega]
    exact this
theorem OwnP.parts {w : World} {base : Nat} {v : Value} {ps : List Prt} (h : OwnP w base v ps) (hs : ∀ j, j < ps.length → (ps.getD j ([], [])).1.length ≤ 9223372036854775807 ∧ (ps.getD j ([], [])).2.length ≤ 9223372036854775807) : ∃ a cap, v = .slice a ps.length cap ∧ PartsAt w a ps.length cap ps := by
  obtain ⟨cs, h0, ⟨h1, ⟨rfl, h2⟩ | ⟨g, cap, cur, rfl, hg, hh, hle, hmx, hsz, htk⟩⟩, h3⟩ := h
  · have h2' : ps.length = 0 := by omega
    obtain rfl := List.eq_nil_of_length_eq_zero h2'
    exact ⟨none, 0, rfl, PartsAt.nil w⟩
  · refine ⟨_, cap, rfl, rfl, hle, by unfold maxLen at hmx; omega, .inr ⟨g, 0, none, rfl, fun j hj => ?_⟩⟩
    obtain ⟨c, h4, h5, h6⟩ := h3 j hj
    have hb : Blk w g cur 63 := hh
    obtain ⟨e1, e2⟩ := flat2_at cs j c h4
    have at_ : ∀ k u, k < ps.length * 2 → (cs.flatMap fun c => [c.1, c.2])[k]? = some u → w.cell? ⟨g, k, none⟩ = some u := fun k u hk hu => by
      rw [hb.cell]
      rw [← htk, List.getElem?_take_of_lt (by omega)] at hu
      simpa using hu
    refine ⟨rfl, (Array.getElem?_eq_some_iff.1 hh).1, c.1, c.2, ?_, ?_, h5.row (hs j hj).1, h6.row (hs j hj).2⟩
    · rw [Nat.zero_add]; exact at_ _ _ (by omega) e1
    · rw [Nat.zero_add]; exact at_ _ _ (by omega) e2
theorem RowT.grown {B n : Nat} {ds : List (List Int)} {u : Value} {w w' : World} {o : Option Nat} (h : RowT B n ds u w) (hk : ∀ k, o = some k → ∃ cur, Blk w k cur 63) (hg : w.grownBy w' o) : RowT B n ds u w' := by
  obtain ⟨h1, h2, g, hgB, h3, h4⟩ := h
  refine ⟨h1, h2, g, hgB, h3, ?_⟩
  have hne : o ≠ some g := fun e => by
    obtain ⟨cur, hc⟩ := hk g e
    have := (show w.heap[g]? = _ from hc).symm.trans (show w.heap[g]? = _ from h4)
    injection this with this
    injection this with _ this
    revert this
    decide
  show w'.heap[g]? = _
  rw [hg.block g h4.lt (fun e => hne e.symm)]
  exact h4
/-- One part more. -/
theorem run_append_part {w : World} {base : Nat} {t : TypeId} {i : TypeInfo} {v z : Value} {ps : List Prt} (ty : TypeId) (ht : Tryz.prog.underlying t = some (.slice 63)) (hi : Tryz.prog.info? 63 = some i) (hz : i.zero = some z) (hzs : z.cells.size = 2) (hsize : i.size = 2) (hby : i.bytes = 48) (hown : OwnP w base v ps)
    {b : Nat} {x y : Value} {p : Prt} {T : TypeId} (hk : Blk w b #[x, y] T) (hx : RowT base p.1.length p.1 x w) (hy : RowT base p.2.length p.2 y w) (hb : ps.length ≤ 100) (hbase : base ≤ w.heap.size) :
    ∃ v' w', (Builtin.append_ #[t, t] ty #[v, .slice (some ⟨b, 0, none⟩) 1 1]).run Tryz.prog w = .ok v' w' ∧ OwnP w' base v' (ps ++ [p]) ∧ w.grownBy w' v.ownBlock ∧ Below base w w' := by
  have hbel : ∀ {w' : World}, w.grownBy w' v.ownBlock → Below base w w' := fun hg => ⟨hg.os, hg.tape, hg.output, hg.size, fun k hk => hg.block k (by omega) (fun e => by have := (hown.lt k e.symm).1; omega)⟩
  have hkind := hown.kind
  obtain ⟨cs, h0, hrow, hall⟩ := hown
  have one : ∀ {n ds u}, RowT base n ds u w → u.oneCell' = true := fun h => by
    obtain ⟨_, _, g, _, rfl, _⟩ := h
    rfl
  obtain ⟨v', w', h1, h2, h3, _⟩ := run_append_own (P := Tryz.prog) w base t ty _ i z 2 48 ht hi hz hsize hby hzs (by omega) v ps.length _ hrow ⟨b, 0, none⟩ 1 1 [x, y] rfl (news_blk (cs := [x, y]) hk) (fun u hu => by
    simp only [List.mem_cons, List.not_mem_nil, or_false] at hu
    rcases hu with rfl | rfl
    · exact one hx
    · exact one hy) (by unfold maxLen; omega) (by omega) hbase
  refine ⟨v', w', h1, ⟨cs ++ [(x, y)], by simp [h0], ?_, fun j hj => ?_⟩, h3, hbel h3⟩
  · rw [List.flatMap_append, List.length_append]
    exact h2
  · rw [List.length_append] at hj
    simp only [List.length_cons, List.length_nil] at hj
    rcases Nat.lt_or_ge j ps.length with hlt | hge
    · obtain ⟨c, h4, h5, h6⟩ := hall j hlt
      rw [show (ps ++ [p]).getD j ([], []) = ps.getD j ([], []) by rw [List.getD_eq_getElem?_getD, List.getElem?_append_left hlt, List.getD_eq_getElem?_getD]]
      exact ⟨c, by rw [List.getElem?_append_left (by omega)]; exact h4, h5.grown hkind h3, h6.grown hkind h3⟩
    · obtain rfl : j = ps.length := by omega
      rw [show (ps ++ [p]).getD ps.length ([], []) = p by simp [List.getD_eq_getElem?_getD]]
      exact ⟨(x, y), by rw [← h0]; simp, hx.grown hkind h3, hy.grown hkind h3⟩
theorem wpList_append_part {w : World} {base : Nat} {t : TypeId} {i : TypeInfo} {v z : Value} {ps : List Prt} {ops : Array Oper} {rest : List Oper} {o : Oper} {A : Act} {Q : Exit → Act → World → Prop} (hgd : o.guard = none) (s x : Operand) (ho : o.op = .call { callee := .builtin .append, args := #[s, x], argTypes := #[t, t] })
    (ht : Tryz.prog.underlying t = some (.slice 63)) (hi : Tryz.prog.info? 63 = some i) (hz : i.zero = some z) (hzs : z.cells.size = 2) (hsize : i.size = 2) (hby : i.bytes = 48) (hs : A.eval s = v) (hown : OwnP w base v ps)
    {b : Nat} {y1 y2 : Value} {p : Prt} {T : TypeId} (hx : A.eval x = .slice (some ⟨b, 0, none⟩) 1 1) (hk : Blk w b #[y1, y2] T) (hy1 : RowT base p.1.length p.1 y1 w) (hy2 : RowT base p.2.length p.2 y2 w) (hb : ps.length ≤ 100) (hbase : base ≤ w.heap.size)
    (h : ∀ v' w', OwnP w' base v' (ps ++ [p]) → w.grownBy w' v.ownBlock → Below base w w' → wpList Tryz.prog ops Q rest (A.put o.dst v') w') : wpList Tryz.prog ops Q (o :: rest) A w :=
  wpList_plain hgd fun K hK => by
    obtain ⟨v', w', hr, h2, h3, h4⟩ := run_append_part o.type ht hi hz hzs hsize hby hown hk hy1 hy2 hb hbase
    unfold Oper.wp execOp
    simp only [ho, resolve, invoke, builtin, Sem.run_bind, Sem.run_pure, Result.andThen_ok, List.map_toArray, List.map_cons, List.map_nil, hs, hx, hr, Oper.upon_value]
    exact hK _ _ (h v' w' h2 h3 h4)
theorem info_part : ∃ i z, Tryz.prog.info? 63 = some i ∧ i.zero = some z ∧ z.cells.size = 2 ∧ i.size = 2 ∧ i.bytes = 48 := by
  obtain ⟨i0, hi, h⟩ := Option.map_eq_some_iff.1 (show (Tryz.prog.info? 63).map (fun i => (i.zero, i.size, i.bytes)) = some (some (.agg #[.slice none 0 0, .slice none 0 0]), 2, 48) by kernel_rfl)
  simp only [Prod.mk.injEq] at h
  exact ⟨i0, _, hi, h.1, rfl, h.2.1, h.2.2⟩
/-- A place is stored to a way. -/
theorem wpList_store_place {ops : Array Oper} {rest : List Oper} {op : Oper} {a : Act} {w : World} {Q : Exit → Act → World → Prop} (hgd : op.guard = none) (x y : Operand) (ho : op.op = .store 57 x y) (b : Nat) (hx : a.eval x = .pointer (some ⟨b, 96, none⟩)) (la2 tr2 leaf2 n2 : Int) (hy : a.eval y = .agg #[.int .u32 la2, .int .u64 tr2, .int .i64 leaf2, .int .i64 n2])
    {seed prf pub : List Int} {la tr leaf n : Int} {T : TypeId} (hk : Blk w b (wayC seed prf pub la tr leaf n).toArray T) (h1 : Dg seed) (h2 : Dg prf) (h3 : Dg pub)
    (h : ∀ w', But b w w' → Blk w' b (wayC seed prf pub la2 tr2 leaf2 n2).toArray T → wpList Tryz.prog ops Q rest (a.put op.dst undef) w') : wpList Tryz.prog ops Q (op :: rest) a w := by
  have hl := secL_length h1 h2 h3
  refine wpList_store_mid hgd _ x y ho b 96 #[.int .u32 la2, .int .u64 tr2, .int .i64 leaf2, .int .i64 n2] hx hy (fun k hk' => ⟨?_, hk.free _⟩) (by exact size_place) (by simp [Value.oneCell']) ?_
  · have hk4 : k < 4 := hk'
    rw [hk.cell, Array.getElem?_eq_getElem (by rw [wayC_size h1 h2 h3]; omega)]; rfl
  · refine h _ (But.setCells _ _ _ (But.of (Below.refl _ _))) ?_
    have k0 := Blk.setCells ((secL seed prf pub).map (Value.int .u8)) [.int .u32 la, .int .u64 tr, .int .i64 leaf, .int .i64 n] [] 0 [.int .u32 la2, .int .u64 tr2, .int .i64 leaf2, .int .i64 n2] (by rw [List.append_nil]; exact hk) (Nat.le_refl _)
    rw [List.length_map, hl, Nat.add_zero] at k0
    exact k0
theorem sigC_set {i : Int} {r : List Int} {pv v : Value} (h : Dg r) : (sigC i r pv).toArray.setIfInBounds 33 v = (sigC i r v).toArray := by
  rw [List.setIfInBounds_toArray]
  unfold sigC
  rw [List.set_cons_succ, List.set_append_right _ _ (by rw [List.length_map, h.len]; omega), List.length_map, h.len]
  rfl
theorem OwnP.re {w : World} {base base' : Nat} {v : Value} {ps : List Prt} (h : OwnP w base v ps) (hb : base' ≤ base) : OwnP w base' v ps := by
  obtain ⟨cs, h0, ⟨h1, h2⟩, h3⟩ := h
  refine ⟨cs, h0, ⟨h1, h2.imp id ?_⟩, fun j hj => ?_⟩
  · rintro ⟨g, cap, cur, rfl, hg, hh⟩
    exact ⟨g, cap, cur, rfl, Nat.le_trans hb hg, hh⟩
  · obtain ⟨c, h4, h5, h6⟩ := h3 j hj
    exact ⟨c, h4, h5.re hb, h6.re hb⟩
/-- A store to a block of another kind leaves a row of parts alone. -/
theorem OwnP.kept {b : Nat} {w w' : World} {base : Nat} {v : Value} {ps : List Prt} {cs : Array Value} {T : TypeId} (h : OwnP w base v ps) (k : Blk w b cs T) (hp : T ≠ 63) (hd : T ≠ 25) (hb : But b w w') : OwnP w' base v ps := by
  obtain ⟨l, h0, ⟨h1, h2⟩, h3⟩ := h
  have row : ∀ {n ds u}, RowT base n ds u w → RowT base n ds u w' := fun ⟨q1, q2, g, qg, q3, q4⟩ => by
    refine ⟨q1, q2, g, qg, q3, hb.blk q4 fun e => ?_⟩
    subst e
    have := (show w.heap[g]? = _ from k).symm.trans (show w.heap[g]? = _ from q4)
    injection this with this
    injection this with _ this
    exact hd this
  refine ⟨l, h0, ⟨h1, h2.imp id ?_⟩, fun j hj => ?_⟩
  · rintro ⟨g, cap, cur, rfl, hg, hh, hle, hmx, hsz, htk⟩
    refine ⟨g, cap, cur, rfl, hg, ?_, hle, hmx, hsz, htk⟩
    have hbk : Blk w g cur 63 := hh
    refine hb.blk hbk fun e => ?_
    subst e
    have := (show w.heap[g]? = _ from k).symm.trans (show w.heap[g]? = _ from hbk)
    injection this with this
    injection this with _ this
    exact hp this
  · obtain ⟨c, h4, h5, h6⟩ := h3 j hj
    exact ⟨c, h4, row h5, row h6⟩
theorem OwnP.slice {w : World} {base : Nat} {v : Value} {ps : List Prt} (h : OwnP w base v ps) : ∃ a n c, v = .slice a n c := by
  obtain ⟨cs, h0, ⟨h1, ⟨rfl, h2⟩ | ⟨g, cap, cur, rfl, hg, hh, hle, hmx, hsz, htk⟩⟩, h3⟩ := h
  · exact ⟨_, _, _, rfl⟩
  · exact ⟨_, _, _, rfl⟩
theorem OwnP.but {b : Nat} {w w' : World} {base : Nat} {v : Value} {ps : List Prt} (h : OwnP w base v ps) (hlt : b < base) (hb : But b w w') : OwnP w' base v ps := by
  obtain ⟨l, h0, ⟨h1, h2⟩, h3⟩ := h
  have row : ∀ {n ds u}, RowT base n ds u w → RowT base n ds u w' := fun ⟨q1, q2, g, qg, q3, q4⟩ => ⟨q1, q2, g, qg, q3, hb.blk q4 (by omega)⟩
  refine ⟨l, h0, ⟨h1, h2.imp id ?_⟩, fun j hj => ?_⟩
  · rintro ⟨g, cap, cur, rfl, hg, hh, hle, hmx, hsz, htk⟩
    have hbk : Blk w g cur 63 := hh
    exact ⟨g, cap, cur, rfl, hg, hb.blk hbk (by omega), hle, hmx, hsz, htk⟩
  · obtain ⟨c, h4, h5, h6⟩ := h3 j hj
    exact ⟨c, h4, row h5, row h6⟩
theorem Blk.low {w w' : World} {B b : Nat} {cs : Array Value} {T : TypeId} (k : Blk w b cs T) (hlt : b < B) (hb : Below B w w') : Blk w' b cs T := by
  show w'.heap[b]? = _
  rw [hb.block b hlt]
  exact k
theorem RowT.one {B n : Nat} {ds : List (List Int)} {v : Value} {w : World} (h : RowT B n ds v w) : v.oneCell' = true := by
  obtain ⟨_, _, g, _, rfl, _⟩ := h
  rfl
theorem run_build_part (x y : Value) (w : World) : (Instr.buildSlice 34 1 #[(0, .agg #[x, y])]).run Tryz.prog w = .ok (.slice (some ⟨w.heap.size, 0, none⟩) 1 1) (w.alloc (.cells #[x, y] 63 (0, 0))) := by
  obtain ⟨i, z, hi, hz0, _, hz1, _⟩ := info_part
  obtain ⟨i0, hi0, hz2⟩ := Option.map_eq_some_iff.1 (show (Tryz.prog.info? 63).map (fun i => i.zero) = some (some (.agg #[.slice none 0 0, .slice none 0 0])) by kernel_rfl)
  obtain rfl : i = i0 := by rw [hi] at hi0; injection hi0
  unfold Instr.buildSlice
  have hf : Instr.fill (fun i => some (i * 2, 2)) #[.slice none 0 0, .slice none 0 0] [(0, .agg #[x, y])] = some #[x, y] := by
    rw [fill_part _ _ 0 0 _ _ rfl (by exact Nat.le_refl 2), Instr.fill]
    rfl
  have hm : (Array.range 2).map (fun j => (Value.agg #[.slice none 0 0, .slice none 0 0]).cells[j % (Value.agg #[.slice none 0 0, .slice none 0 0]).cells.size]!) = #[.slice none 0 0, .slice none 0 0] := by
    refine Array.ext (by simp) fun j h1 h2 => ?_
    have : j < 2 := by simpa using h2
    rcases (show j = 0 ∨ j = 1 by omega) with rfl | rfl
    · rw [Array.getElem_map]; simp; rfl
    · rw [Array.getElem_map]; simp; rfl
  simp [run_underlying Tryz.underlying34, sizeOf, typeInfo, hi, hz1]
  rw [hm, hf]
  simp [newRow]
theorem wpList_build_part {ops : Array Oper} {rest : List Oper} {o : Oper} {A : Act} {w : World} {Q : Exit → Act → World → Prop} (hgd : o.guard = none) (e : Operand) (ho : o.op = .buildSlice 34 1 #[(0, e)]) {x y : Value} (he : A.eval e = .agg #[x, y])
    (h : wpList Tryz.prog ops Q rest (A.put o.dst (.slice (some ⟨w.heap.size, 0, none⟩) 1 1)) (w.alloc (.cells #[x, y] 63 (0, 0)))) : wpList Tryz.prog ops Q (o :: rest) A w :=
  wpList_plain hgd fun K hK => by
    unfold Oper.wp execOp
    simp only [ho, List.map_toArray, List.map_cons, List.map_nil, he, Sem.run_bind, run_build_part, Result.andThen_ok, Sem.run_pure, Oper.upon_value]
    exact hK _ _ h
end Go.Proofs.YtjkfbeillmeomaaGreatDoor
