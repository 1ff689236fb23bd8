/-
  Layer 20: a signature is read from bytes by the program.
-/
import Derived.Test.YtkakoiaahgchmaaGP3
namespace Go.Proofs.Ytkakoiaahgchmaa
open Go.ChangeShapes Go.WideShapes Go.ChangeAt Go.RowKit

/-- A row of digests in a block of its own. -/
def RowT (B n : Nat) (ds : List (List Int)) (v : Value) (w : World) : Prop := ds.length = n ∧ (∀ d ∈ ds, Dg d) ∧ ∃ g, B ≤ g ∧ v = .slice (some ⟨g, 0, none⟩) n n ∧ Blk w g (dcs ds) 25
theorem RowT.below {B n : Nat} {ds : List (List Int)} {v : Value} {w w' : World} (h : RowT B n ds v w) (hb : Below w.heap.size w w') : RowT B n ds v w' := by
  obtain ⟨h1, h2, g, hg, h3, h4⟩ := h
  exact ⟨h1, h2, g, hg, h3, h4.below hb⟩
theorem RowT.re {B B2 n : Nat} {ds : List (List Int)} {v : Value} {w : World} (h : RowT B n ds v w) (hb : B2 ≤ B) : RowT B2 n ds v w := by
  obtain ⟨h1, h2, g, hg, h3, h4⟩ := h
  exact ⟨h1, h2, g, Nat.le_trans hb hg, h3, h4⟩
theorem RowT.row {B n : Nat} {ds : List (List Int)} {v : Value} {w : World} (h : RowT B n ds v w) (hn : n ≤ 9223372036854775807) : RowV n ds v w := by
  obtain ⟨h1, h2, g, _, rfl, h4⟩ := h
  exact RowV.of_blk h4 h2 n h1 hn
theorem build_sig2 (i : Int) (r : List Int) (h1 : Dg r) (w : World) : (Instr.build 28 #[(0, .int .i64 i), (1, .agg (r.map (Value.int .u8)).toArray)]).run Try.prog w = .ok (.agg (sigC i r (.slice none 0 0)).toArray) w := by
  refine run_build w _ _ _ ?_
  obtain ⟨i0, hi, hz0⟩ := Option.map_eq_some_iff.1 (show (Try.prog.info? 28).map (·.zero) = some (some (.agg zSig.toArray)) by kernel_rfl)
  obtain ⟨fields, hu, hq⟩ : ∃ fields, Try.prog.underlying 28 = some (.struct fields) ∧ fields.toList.mapM (fun f => (Try.prog.info? f.type).map fun i => (f.offset, i.size)) = some [(0, 1), (1, 32), (33, 1)] := ⟨_, Try.underlying28, by kernel_rfl⟩
  have hz : (Value.agg zSig.toArray).cells = zSig.toArray := rfl
  unfold Program.built
  simp only [hi, hu, hz0, hq, hz]
  have hs0 : (Value.int .i64 i).cells.size = 1 := rfl
  have hs1 : (Value.agg (r.map (Value.int .u8)).toArray).cells.size = 32 := h1.size
  have t0 : splice zSig.toArray.toList 0 (Value.int .i64 i).cells.toList = sigC i zD (.slice none 0 0) := rfl
  have t1 : splice (sigC i zD (.slice none 0 0)) 1 (Value.agg (r.map (Value.int .u8)).toArray).cells.toList = sigC i r (.slice none 0 0) := by
    show splice (sigC i zD (.slice none 0 0)) 1 (r.map (Value.int .u8)) = _
    unfold splice
    rw [List.length_map, h1.len]
    rfl
  rw [fill_part _ _ 0 0 _ _ (by rw [hs0]; rfl) (by rw [hs0]; decide), t0]
  rw [fill_part _ _ 1 1 _ _ (by rw [hs1]; rfl) (by rw [hs1, sigC_size Dg.zero]; omega), List.toList_toArray, t1, Instr.fill]
/-- Parts as they lie in memory: two slices each. -/
def OwnP (w : World) (base : Nat) (v : Value) (ps : List Prt) : Prop :=
  ∃ cs : List (Value × Value), cs.length = ps.length ∧ w.ownsRow base 46 2 v ps.length (cs.flatMap fun c => [c.1, c.2]) ∧ ∀ j, j < ps.length → ∃ c, cs[j]? = some c ∧ RowT base (ps.getD j ([], [])).1.length (ps.getD j ([], [])).1 c.1 w ∧ RowT base (ps.getD j ([], [])).2.length (ps.getD j ([], [])).2 c.2 w
theorem OwnP.nil (w : World) (base : Nat) : OwnP w base (.slice none 0 0) [] := ⟨[], rfl, World.ownsRow_nil w base _ 2, fun j hj => by simp at hj⟩
theorem OwnP.below {w w' : World} {base : Nat} {v : Value} {ps : List Prt} (h : OwnP w base v ps) (hb : Below w.heap.size w w') : OwnP w' base v ps := by
  obtain ⟨cs, h1, h2, h3⟩ := h
  refine ⟨cs, h1, owns_below h2 hb, fun j hj => ?_⟩
  obtain ⟨c, h4, h5, h6⟩ := h3 j hj
  exact ⟨c, h4, h5.below hb, h6.below hb⟩
theorem OwnP.lt {w : World} {base : Nat} {v : Value} {ps : List Prt} (h : OwnP w base v ps) : ∀ k, v.ownBlock = some k → base ≤ k ∧ k < w.heap.size := by
  obtain ⟨cs, _, h2, _⟩ := h
  exact h2.lt
theorem OwnP.kind {w : World} {base : Nat} {v : Value} {ps : List Prt} (h : OwnP w base v ps) : ∀ k, v.ownBlock = some k → ∃ cur, Blk w k cur 46 := by
  obtain ⟨cs, h0, ⟨h1, ⟨rfl, h2⟩ | ⟨g, cap, cur, rfl, hg, hh, hle, hmx, hsz, htk⟩⟩, h3⟩ := h
  · intro k hk; cases hk
  · intro k hk
    cases hk
    exact ⟨cur, hh⟩
theorem flat2_length (cs : List (Value × Value)) : (cs.flatMap fun c => [c.1, c.2]).length = cs.length * 2 := by
  induction cs with
  | nil => rfl
  | cons c cs ih => simp only [List.flatMap_cons, List.length_append, List.length_cons, List.length_nil, ih]; omega
theorem flat2_at : ∀ (cs : List (Value × Value)) (j : Nat) (c : Value × Value), cs[j]? = some c → (cs.flatMap fun c => [c.1, c.2])[j * 2]? = some c.1 ∧ (cs.flatMap fun c => [c.1, c.2])[j * 2 + 1]? = some c.2
  | [], j, c, h => by simp at h
  | d :: cs, 0, c, h => by
    simp only [List.getElem?_cons_zero, Option.some.injEq] at h
    subst h
    exact ⟨rfl, rfl⟩
  | d :: cs, j + 1, c, h => by
    simp only [List.getElem?_cons_succ] at h
    have := flat2_at cs j c h
    rw [show (j + 1) * 2 = j * 2 + 1 + 1 by omega]
    exact this
theorem OwnP.parts {w : World} {base : Nat} {v : Value} {ps : List Prt} (h : OwnP w base v ps) (hs : ∀ j, j < ps.length → (ps.getD j ([], [])).1.length ≤ 9223372036854775807 ∧ (ps.getD j ([], [])).2.length ≤ 9223372036854775807) : ∃ a cap, v = .slice a ps.length cap ∧ PartsAt w a ps.length cap ps := by
  obtain ⟨cs, h0, ⟨h1, ⟨rfl, h2⟩ | ⟨g, cap, cur, rfl, hg, hh, hle, hmx, hsz, htk⟩⟩, h3⟩ := h
  · have h2' : ps.length = 0 := by omega
    obtain rfl := List.eq_nil_of_length_eq_zero h2'
    exact ⟨none, 0, rfl, PartsAt.nil w⟩
  · refine ⟨_, cap, rfl, rfl, hle, by unfold maxLen at hmx; omega, .inr ⟨g, 0, none, rfl, fun j hj => ?_⟩⟩
    obtain ⟨c, h4, h5, h6⟩ := h3 j hj
    have hb : Blk w g cur 46 := hh
    obtain ⟨e1, e2⟩ := flat2_at cs j c h4
    have at_ : ∀ k u, k < ps.length * 2 → (cs.flatMap fun c => [c.1, c.2])[k]? = some u → w.cell? ⟨g, k, none⟩ = some u := fun k u hk hu => by
      rw [hb.cell]
      rw [← htk, List.getElem?_take_of_lt (by omega)] at hu
      simpa using hu
    refine ⟨rfl, (Array.getElem?_eq_some_iff.1 hh).1, c.1, c.2, ?_, ?_, h5.row (hs j hj).1, h6.row (hs j hj).2⟩
    · rw [Nat.zero_add]; exact at_ _ _ (by omega) e1
    · rw [Nat.zero_add]; exact at_ _ _ (by omega) e2
theorem RowT.grown {B n : Nat} {ds : List (List Int)} {u : Value} {w w' : World} {o : Option Nat} (h : RowT B n ds u w) (hk : ∀ k, o = some k → ∃ cur, Blk w k cur 46) (hg : w.grownBy w' o) : RowT B n ds u w' := by
  obtain ⟨h1, h2, g, hgB, h3, h4⟩ := h
  refine ⟨h1, h2, g, hgB, h3, ?_⟩
  have hne : o ≠ some g := fun e => by
    obtain ⟨cur, hc⟩ := hk g e
    have := (show w.heap[g]? = _ from hc).symm.trans (show w.heap[g]? = _ from h4)
    injection this with this
    injection this with _ this
    revert this
    decide
  show w'.heap[g]? = _
  rw [hg.block g h4.lt (fun e => hne e.symm)]
  exact h4
set_option maxRecDepth 100000 in
/-- One part more. -/
theorem run_append_part {w : World} {base : Nat} {t : TypeId} {i : TypeInfo} {v z : Value} {ps : List Prt} (ty : TypeId) (ht : Try.prog.underlying t = some (.slice 46)) (hi : Try.prog.info? 46 = some i) (hz : i.zero = some z) (hzs : z.cells.size = 2) (hsize : i.size = 2) (hby : i.bytes = 48) (hown : OwnP w base v ps)
    {b : Nat} {x y : Value} {p : Prt} {T : TypeId} (hk : Blk w b #[x, y] T) (hx : RowT base p.1.length p.1 x w) (hy : RowT base p.2.length p.2 y w) (hb : ps.length ≤ 100) (hbase : base ≤ w.heap.size) :
    ∃ v' w', (Builtin.append_ #[t, t] ty #[v, .slice (some ⟨b, 0, none⟩) 1 1]).run Try.prog w = .ok v' w' ∧ OwnP w' base v' (ps ++ [p]) ∧ w.grownBy w' v.ownBlock ∧ Below base w w' := by
  have hbel : ∀ {w' : World}, w.grownBy w' v.ownBlock → Below base w w' := fun hg => ⟨hg.os, hg.tape, hg.output, hg.size, fun k hk => hg.block k (by omega) (fun e => by have := (hown.lt k e.symm).1; omega)⟩
  have hkind := hown.kind
  obtain ⟨cs, h0, hrow, hall⟩ := hown
  have one : ∀ {n ds u}, RowT base n ds u w → u.oneCell' = true := fun h => by
    obtain ⟨_, _, g, _, rfl, _⟩ := h
    rfl
  obtain ⟨v', w', h1, h2, h3, _⟩ := run_append_own (P := Try.prog) w base t ty _ i z 2 48 ht hi hz hsize hby hzs (by omega) v ps.length _ hrow ⟨b, 0, none⟩ 1 1 [x, y] rfl (news_blk (cs := [x, y]) hk) (fun u hu => by
    simp only [List.mem_cons, List.not_mem_nil, or_false] at hu
    rcases hu with rfl | rfl
    · exact one hx
    · exact one hy) (by unfold maxLen; omega) (by omega) hbase
  refine ⟨v', w', h1, ⟨cs ++ [(x, y)], by simp [h0], ?_, fun j hj => ?_⟩, h3, hbel h3⟩
  · rw [List.flatMap_append, List.length_append]
    exact h2
  · rw [List.length_append] at hj
    simp only [List.length_cons, List.length_nil] at hj
    rcases Nat.lt_or_ge j ps.length with hlt | hge
    · obtain ⟨c, h4, h5, h6⟩ := hall j hlt
      rw [show (ps ++ [p]).getD j ([], []) = ps.getD j ([], []) by rw [List.getD_eq_getElem?_getD, List.getElem?_append_left hlt, List.getD_eq_getElem?_getD]]
      exact ⟨c, by rw [List.getElem?_append_left (by omega)]; exact h4, h5.grown hkind h3, h6.grown hkind h3⟩
    · obtain rfl : j = ps.length := by omega
      rw [show (ps ++ [p]).getD ps.length ([], []) = p by simp [List.getD_eq_getElem?_getD]]
      exact ⟨(x, y), by rw [← h0]; simp, hx.grown hkind h3, hy.grown hkind h3⟩
set_option maxRecDepth 100000 in
theorem wpList_append_part {w : World} {base : Nat} {t : TypeId} {i : TypeInfo} {v z : Value} {ps : List Prt} {ops : Array Oper} {rest : List Oper} {o : Oper} {A : Act} {Q : Exit → Act → World → Prop} (hgd : o.guard = none) (s x : Operand) (ho : o.op = .call { callee := .builtin .append, args := #[s, x], argTypes := #[t, t] })
    (ht : Try.prog.underlying t = some (.slice 46)) (hi : Try.prog.info? 46 = some i) (hz : i.zero = some z) (hzs : z.cells.size = 2) (hsize : i.size = 2) (hby : i.bytes = 48) (hs : A.eval s = v) (hown : OwnP w base v ps)
    {b : Nat} {y1 y2 : Value} {p : Prt} {T : TypeId} (hx : A.eval x = .slice (some ⟨b, 0, none⟩) 1 1) (hk : Blk w b #[y1, y2] T) (hy1 : RowT base p.1.length p.1 y1 w) (hy2 : RowT base p.2.length p.2 y2 w) (hb : ps.length ≤ 100) (hbase : base ≤ w.heap.size)
    (h : ∀ v' w', OwnP w' base v' (ps ++ [p]) → w.grownBy w' v.ownBlock → Below base w w' → wpList Try.prog ops Q rest (A.put o.dst v') w') : wpList Try.prog ops Q (o :: rest) A w :=
  wpList_plain hgd fun K hK => by
    obtain ⟨v', w', hr, h2, h3, h4⟩ := run_append_part o.type ht hi hz hzs hsize hby hown hk hy1 hy2 hb hbase
    unfold Oper.wp execOp
    simp only [ho, resolve, invoke, builtin, Sem.run_bind, Sem.run_pure, Result.andThen_ok, List.map_toArray, List.map_cons, List.map_nil, hs, hx, hr, Oper.upon_value]
    exact hK _ _ (h v' w' h2 h3 h4)
theorem info_part : ∃ i z, Try.prog.info? 46 = some i ∧ i.zero = some z ∧ z.cells.size = 2 ∧ i.size = 2 ∧ i.bytes = 48 := by
  obtain ⟨i0, hi, h⟩ := Option.map_eq_some_iff.1 (show (Try.prog.info? 46).map (fun i => (i.zero, i.size, i.bytes)) = some (some (.agg #[.slice none 0 0, .slice none 0 0]), 2, 48) by kernel_rfl)
  simp only [Prod.mk.injEq] at h
  exact ⟨i0, _, hi, h.1, rfl, h.2.1, h.2.2⟩
theorem sigC_set {i : Int} {r : List Int} {pv v : Value} (h : Dg r) : (sigC i r pv).toArray.setIfInBounds 33 v = (sigC i r v).toArray := by
  rw [List.setIfInBounds_toArray]
  unfold sigC
  rw [List.set_cons_succ, List.set_append_right _ _ (by rw [List.length_map, h.len]; omega), List.length_map, h.len]
  rfl
theorem OwnP.re {w : World} {base base' : Nat} {v : Value} {ps : List Prt} (h : OwnP w base v ps) (hb : base' ≤ base) : OwnP w base' v ps := by
  obtain ⟨cs, h0, ⟨h1, h2⟩, h3⟩ := h
  refine ⟨cs, h0, ⟨h1, h2.imp id ?_⟩, fun j hj => ?_⟩
  · rintro ⟨g, cap, cur, rfl, hg, hh⟩
    exact ⟨g, cap, cur, rfl, Nat.le_trans hb hg, hh⟩
  · obtain ⟨c, h4, h5, h6⟩ := h3 j hj
    exact ⟨c, h4, h5.re hb, h6.re hb⟩
/-- A store to a block of another kind leaves a row of parts alone. -/
theorem OwnP.kept {b : Nat} {w w' : World} {base : Nat} {v : Value} {ps : List Prt} {cs : Array Value} {T : TypeId} (h : OwnP w base v ps) (k : Blk w b cs T) (hp : T ≠ 46) (hd : T ≠ 25) (hb : But b w w') : OwnP w' base v ps := by
  obtain ⟨l, h0, ⟨h1, h2⟩, h3⟩ := h
  have row : ∀ {n ds u}, RowT base n ds u w → RowT base n ds u w' := fun ⟨q1, q2, g, qg, q3, q4⟩ => by
    refine ⟨q1, q2, g, qg, q3, hb.blk q4 fun e => ?_⟩
    subst e
    have := (show w.heap[g]? = _ from k).symm.trans (show w.heap[g]? = _ from q4)
    injection this with this
    injection this with _ this
    exact hd this
  refine ⟨l, h0, ⟨h1, h2.imp id ?_⟩, fun j hj => ?_⟩
  · rintro ⟨g, cap, cur, rfl, hg, hh, hle, hmx, hsz, htk⟩
    refine ⟨g, cap, cur, rfl, hg, ?_, hle, hmx, hsz, htk⟩
    have hbk : Blk w g cur 46 := hh
    refine hb.blk hbk fun e => ?_
    subst e
    have := (show w.heap[g]? = _ from k).symm.trans (show w.heap[g]? = _ from hbk)
    injection this with this
    injection this with _ this
    exact hp this
  · obtain ⟨c, h4, h5, h6⟩ := h3 j hj
    exact ⟨c, h4, row h5, row h6⟩
theorem OwnP.slice {w : World} {base : Nat} {v : Value} {ps : List Prt} (h : OwnP w base v ps) : ∃ a n c, v = .slice a n c := by
  obtain ⟨cs, h0, ⟨h1, ⟨rfl, h2⟩ | ⟨g, cap, cur, rfl, hg, hh, hle, hmx, hsz, htk⟩⟩, h3⟩ := h
  · exact ⟨_, _, _, rfl⟩
  · exact ⟨_, _, _, rfl⟩
theorem OwnP.but {b : Nat} {w w' : World} {base : Nat} {v : Value} {ps : List Prt} (h : OwnP w base v ps) (hlt : b < base) (hb : But b w w') : OwnP w' base v ps := by
  obtain ⟨l, h0, ⟨h1, h2⟩, h3⟩ := h
  have row : ∀ {n ds u}, RowT base n ds u w → RowT base n ds u w' := fun ⟨q1, q2, g, qg, q3, q4⟩ => ⟨q1, q2, g, qg, q3, hb.blk q4 (by omega)⟩
  refine ⟨l, h0, ⟨h1, h2.imp id ?_⟩, fun j hj => ?_⟩
  · rintro ⟨g, cap, cur, rfl, hg, hh, hle, hmx, hsz, htk⟩
    have hbk : Blk w g cur 46 := hh
    exact ⟨g, cap, cur, rfl, hg, hb.blk hbk (by omega), hle, hmx, hsz, htk⟩
  · obtain ⟨c, h4, h5, h6⟩ := h3 j hj
    exact ⟨c, h4, row h5, row h6⟩
theorem Blk.low {w w' : World} {B b : Nat} {cs : Array Value} {T : TypeId} (k : Blk w b cs T) (hlt : b < B) (hb : Below B w w') : Blk w' b cs T := by
  show w'.heap[b]? = _
  rw [hb.block b hlt]
  exact k
theorem RowT.one {B n : Nat} {ds : List (List Int)} {v : Value} {w : World} (h : RowT B n ds v w) : v.oneCell' = true := by
  obtain ⟨_, _, g, _, rfl, _⟩ := h
  rfl
theorem run_build_part (x y : Value) (w : World) : (Instr.buildSlice 26 1 #[(0, .agg #[x, y])]).run Try.prog w = .ok (.slice (some ⟨w.heap.size, 0, none⟩) 1 1) (w.alloc (.cells #[x, y] 46 (0, 0))) := by
  obtain ⟨i, z, hi, hz0, _, hz1, _⟩ := info_part
  obtain ⟨i0, hi0, hz2⟩ := Option.map_eq_some_iff.1 (show (Try.prog.info? 46).map (fun i => i.zero) = some (some (.agg #[.slice none 0 0, .slice none 0 0])) by kernel_rfl)
  obtain rfl : i = i0 := by rw [hi] at hi0; injection hi0
  unfold Instr.buildSlice
  have hf : Instr.fill (fun i => some (i * 2, 2)) #[.slice none 0 0, .slice none 0 0] [(0, .agg #[x, y])] = some #[x, y] := by
    rw [fill_part _ _ 0 0 _ _ rfl (by exact Nat.le_refl 2), Instr.fill]
    rfl
  have hm : (Array.range 2).map (fun j => (Value.agg #[.slice none 0 0, .slice none 0 0]).cells[j % (Value.agg #[.slice none 0 0, .slice none 0 0]).cells.size]!) = #[.slice none 0 0, .slice none 0 0] := by
    refine Array.ext (by simp) fun j h1 h2 => ?_
    have : j < 2 := by simpa using h2
    rcases (show j = 0 ∨ j = 1 by omega) with rfl | rfl
    · rw [Array.getElem_map]; simp; rfl
    · rw [Array.getElem_map]; simp; rfl
  simp [run_underlying Try.underlying26, sizeOf, typeInfo, hi, hz1]
  rw [hm, hf]
  simp [newRow]
set_option maxRecDepth 100000 in
theorem wpList_build_part {ops : Array Oper} {rest : List Oper} {o : Oper} {A : Act} {w : World} {Q : Exit → Act → World → Prop} (hgd : o.guard = none) (e : Operand) (ho : o.op = .buildSlice 26 1 #[(0, e)]) {x y : Value} (he : A.eval e = .agg #[x, y])
    (h : wpList Try.prog ops Q rest (A.put o.dst (.slice (some ⟨w.heap.size, 0, none⟩) 1 1)) (w.alloc (.cells #[x, y] 46 (0, 0)))) : wpList Try.prog ops Q (o :: rest) A w :=
  wpList_plain hgd fun K hK => by
    unfold Oper.wp execOp
    simp only [ho, List.map_toArray, List.map_cons, List.map_nil, he, Sem.run_bind, run_build_part, Result.andThen_ok, Sem.run_pure, Oper.upon_value]
    exact hK _ _ h
/-- What is read: the number, the first digest, the parts. -/
def gotI (t : List Int) : Int := numOf (t.take 8)
def gotR (t : List Int) : List Int := (t.drop 8).take 32
/-- The parts, out of the bytes behind the first digest. -/
def partsZ (V : Nat) : List Int → Nat → List Prt
  | _, 0 => []
  | u, k + 1 => partsZ V u k ++ [(rowsZ (u.drop (k * (2144 + V * 32))) 67, rowsZ (u.drop (k * (2144 + V * 32) + 2144)) V)]
theorem partsZ_length (V : Nat) (u : List Int) (k : Nat) : (partsZ V u k).length = k := by
  induction k with
  | zero => rfl
  | succ k ih => unfold partsZ; rw [List.length_append, ih]; rfl
theorem partsZ_get (V : Nat) (u : List Int) {k j : Nat} (h : j < k) : (partsZ V u k).getD j ([], []) = (rowsZ (u.drop (j * (2144 + V * 32))) 67, rowsZ (u.drop (j * (2144 + V * 32) + 2144)) V) := by
  induction k with
  | zero => omega
  | succ k ih =>
    unfold partsZ
    rcases Nat.lt_or_ge j k with h1 | h1
    · rw [List.getD_eq_getElem?_getD, List.getElem?_append_left (by rw [partsZ_length]; exact h1), ← List.getD_eq_getElem?_getD]
      exact ih h1
    · obtain rfl : j = k := by omega
      rw [List.getD_eq_getElem?_getD, List.getElem?_append_right (by rw [partsZ_length]; omega), partsZ_length]
      simp
/-- Are bytes those of a signature of a shape? -/
def gotB (L V : Int) (t : List Int) : Bool := decide ((t.length : Int) = 40 + L * (2144 + V * 32)) && decide (gotI t < manyS L V)
theorem manyS_in {L V : Int} (h : rightS L V = true) : 0 ≤ manyS L V ∧ manyS L V ≤ 65536 := by
  obtain ⟨h1, h2, h3, h4⟩ : 1 ≤ L ∧ L ≤ 4 ∧ 1 ≤ V ∧ V ≤ 4 := by simpa [rightS] using h
  rcases (show L = 1 ∨ L = 2 ∨ L = 3 ∨ L = 4 by omega) with rfl | rfl | rfl | rfl <;> rcases (show V = 1 ∨ V = 2 ∨ V = 3 ∨ V = 4 by omega) with rfl | rfl | rfl | rfl <;> decide
theorem gotI_in {t : List Int} (hs : ∀ x ∈ t, 0 ≤ x ∧ x < 256) : 0 ≤ gotI t ∧ gotI t < 18446744073709551616 := by
  have h := numOf_bounds (t.take 8) (fun x hx => hs x (List.mem_of_mem_take hx))
  have hl : (t.take 8).length ≤ 8 := by rw [List.length_take]; omega
  refine ⟨h.1, Int.lt_of_lt_of_le h.2 ?_⟩
  rcases (show (t.take 8).length = 0 ∨ (t.take 8).length = 1 ∨ (t.take 8).length = 2 ∨ (t.take 8).length = 3 ∨ (t.take 8).length = 4 ∨ (t.take 8).length = 5 ∨ (t.take 8).length = 6 ∨ (t.take 8).length = 7 ∨ (t.take 8).length = 8 by omega) with e | e | e | e | e | e | e | e | e <;> rw [e] <;> decide
theorem gotR_dg {t : List Int} (hl : 40 ≤ t.length) (hs : ∀ x ∈ t, 0 ≤ x ∧ x < 256) : Dg (gotR t) := ⟨by unfold gotR; rw [List.length_take, List.length_drop]; omega, fun x hx => hs x (List.mem_of_mem_drop (List.mem_of_mem_take hx))⟩
theorem stQ_butIn {S : List Nat} {w : World} (obj : Obj) (hS : ∀ g ∈ S, g < w.heap.size) : FlowB.St (FlowB.ButIn S) w obj := fun w1 w2 b _ h2 hb h => by
  rw [h2.block b (Array.getElem?_eq_some_iff.1 h).1 (fun e => by have := hS b e; omega)]
  exact h
theorem exec_build_part {o : Oper} {A : Act} {w : World} {e : Operand} (ho : o.op = .buildSlice 26 1 #[(0, e)]) {x y : Value} (he : A.eval e = .agg #[x, y]) :
    (execOp A.eval o).run Try.prog w = .ok (.value (.slice (some ⟨w.heap.size, 0, none⟩) 1 1)) (w.alloc (.cells #[x, y] 46 (0, 0))) := by
  unfold execOp
  simp only [ho, List.map_toArray, List.map_cons, List.map_nil, he, Sem.run_bind, run_build_part, Result.andThen_ok, Sem.run_pure]
theorem size_ldp : (Try.prog.info? 26).map (·.size) = some 1 := by kernel_rfl
set_option maxHeartbeats 4000000 in
set_option maxRecDepth 100000 in
theorem get_short (L V : Int) (a : Option Addr) (n c : Nat) (t : List Int) (w : World) (hr : rightS L V = true) (hT : TextAt w a n c t) (hl : ¬ (n : Int) = 40 + L * (2144 + V * 32)) :
    Calls Try.prog 10 #[.agg (shC L V), .slice a n c] w fun e w' => e = .returned (.tuple #[.agg zSig.toArray, .int .i64 2]) ∧ Below w.heap.size w w' := by
  have b1 := (Below.refl w.heap.size w).alloc (Nat.le_refl _) (.cells (shC L V) 23 (0, 0))
  have b2 := b1.alloc b1.size (.cells zSig.toArray 28 (0, 0))
  have Ksh := hid ((Blk.new (w := w) (n := w.heap.size) rfl (shC L V) 23).old (.cells zSig.toArray 28 (0, 0)))
  have Kr := hid (Blk.new (w := (w.alloc (.cells (shC L V) 23 (0, 0)))) (n := w.heap.size + 1) (by simp only [World.size_alloc]) zSig.toArray 28)
  have Hb := hid b2
  have hbz := b2.size
  have Hbs := hid (show w.heap.size + 1 + 1 = ((w.alloc (.cells (shC L V) 23 (0, 0))).alloc (.cells zSig.toArray 28 (0, 0))).heap.size by simp only [World.size_alloc])
  clear b1 b2 
  have HT := hid hT
  have htl := hT.length
  obtain ⟨hL1, hL2, hV1, hV2⟩ : 1 ≤ L ∧ L ≤ 4 ∧ 1 ≤ V ∧ V ≤ 4 := by simpa [rightS] using hr
  clear hT
  obtain ⟨E, hE⟩ : ∃ E, E = 40 + L * (2144 + V * 32) := ⟨_, rfl⟩
  have hEb : 40 ≤ E ∧ E ≤ 100000 := by
    subst hE
    rcases (show L = 1 ∨ L = 2 ∨ L = 3 ∨ L = 4 by omega) with rfl | rfl | rfl | rfl <;> omega
  have hE2 : wrap64 (8 + wrap64 (wrap64 (1 + wrap64 (L * (67 + V))) * 32)) = E := by
    subst hE
    have hp : 0 ≤ L * (67 + V) ∧ L * (67 + V) ≤ 284 ∧ 40 + L * (2144 + V * 32) = 8 + (1 + L * (67 + V)) * 32 := by
      rcases (show L = 1 ∨ L = 2 ∨ L = 3 ∨ L = 4 by omega) with rfl | rfl | rfl | rfl <;> omega
    obtain ⟨p1, p2, p3⟩ := hp
    rw [p3]
    generalize L * (67 + V) = p at *
    have hw : ∀ z : Int, -9223372036854775808 ≤ z ∧ z ≤ 9223372036854775807 → wrap64 z = z := fun z h => by unfold wrap64; omega
    rw [hw p (by omega), hw (1 + p) (by omega), hw ((1 + p) * 32) (by omega), hw (8 + (1 + p) * 32) (by omega)]
  have hne : ((n : Int) != E) = true := by simp; omega
  have hne2 : ((n : Int) == E) = false := by simp; omega
  clear hE hEb
  go_enter Try.func10, Try.ntmps10
  go_wp2_with (refine wpList_load_blk rfl 23 _ rfl (w.heap.size) rfl _ 23 Ksh.out _ Try.underlying23 rfl 2 size_shape rfl ?_)
  refine (hright_b L V true hr _).mono ?_
  rintro e w1 ⟨rfl, bw1⟩
  have HBw1 := hid (Below.on Hb.out bw1)
  have hsw1 := HBw1.out.size
  have Kshw1 := hid (Ksh.out.below bw1)
  have Krw1 := hid (Kr.out.below bw1)
  clear bw1
  have d0 : w1.cell? ⟨w.heap.size, 0, none⟩ = some (.int .i64 L) := by rw [Kshw1.out.cell]; rfl
  have d1 : w1.cell? ⟨w.heap.size, 1, none⟩ = some (.int .i64 V) := by rw [Kshw1.out.cell]; rfl
  go_wp2_with (
      refine wpList_store_blk rfl 28 _ _ rfl (w.heap.size + 1) zSig.toArray rfl rfl _ 28 Krw1.out 34 size_sig zSig_size zSig_size (sigC_ones _ _ _ rfl) ?_
      intro w9 hb9 hk9
      have HB9 := hid (hb9.below HBw1.out HBw1.out.size (by omega))
      have HK9 := hid hk9
      clear hb9 hk9)
  exact bodyPost_ret (v := .tuple #[.agg zSig.toArray, .int .i64 2]) (results_blk_tmp Try.results10 _ (w.heap.size + 1) rfl _ rfl _ 28 HK9.out _ Try.underlying28 rfl 34 size_sig zSig_size) rfl ⟨rfl, HB9.out⟩
set_option maxHeartbeats 4000000 in
set_option maxRecDepth 100000 in
theorem get_big (L V : Int) (a : Option Addr) (n c : Nat) (t : List Int) (w : World) (hr : rightS L V = true) (hT : TextAt w a n c t) (hl : (n : Int) = 40 + L * (2144 + V * 32)) (hlt : manyS L V ≤ gotI t) :
    Calls Try.prog 10 #[.agg (shC L V), .slice a n c] w fun e w' => e = .returned (.tuple #[.agg zSig.toArray, .int .i64 2]) ∧ Below w.heap.size w w' := by
  have b1 := (Below.refl w.heap.size w).alloc (Nat.le_refl _) (.cells (shC L V) 23 (0, 0))
  have b2 := b1.alloc b1.size (.cells zSig.toArray 28 (0, 0))
  have Ksh := hid ((Blk.new (w := w) (n := w.heap.size) rfl (shC L V) 23).old (.cells zSig.toArray 28 (0, 0)))
  have Kr := hid (Blk.new (w := (w.alloc (.cells (shC L V) 23 (0, 0)))) (n := w.heap.size + 1) (by simp only [World.size_alloc]) zSig.toArray 28)
  have Hb := hid b2
  have hbz := b2.size
  have Hbs := hid (show w.heap.size + 1 + 1 = ((w.alloc (.cells (shC L V) 23 (0, 0))).alloc (.cells zSig.toArray 28 (0, 0))).heap.size by simp only [World.size_alloc])
  clear b1 b2 
  have HT := hid hT
  have htl := hT.length
  obtain ⟨hL1, hL2, hV1, hV2⟩ : 1 ≤ L ∧ L ≤ 4 ∧ 1 ≤ V ∧ V ≤ 4 := by simpa [rightS] using hr
  clear hT
  obtain ⟨E, hE⟩ : ∃ E, E = 40 + L * (2144 + V * 32) := ⟨_, rfl⟩
  have hEb : 40 ≤ E ∧ E ≤ 100000 := by
    subst hE
    rcases (show L = 1 ∨ L = 2 ∨ L = 3 ∨ L = 4 by omega) with rfl | rfl | rfl | rfl <;> omega
  have hE2 : wrap64 (8 + wrap64 (wrap64 (1 + wrap64 (L * (67 + V))) * 32)) = E := by
    subst hE
    have hp : 0 ≤ L * (67 + V) ∧ L * (67 + V) ≤ 284 ∧ 40 + L * (2144 + V * 32) = 8 + (1 + L * (67 + V)) * 32 := by
      rcases (show L = 1 ∨ L = 2 ∨ L = 3 ∨ L = 4 by omega) with rfl | rfl | rfl | rfl <;> omega
    obtain ⟨p1, p2, p3⟩ := hp
    rw [p3]
    generalize L * (67 + V) = p at *
    have hw : ∀ z : Int, -9223372036854775808 ≤ z ∧ z ≤ 9223372036854775807 → wrap64 z = z := fun z h => by unfold wrap64; omega
    rw [hw p (by omega), hw (1 + p) (by omega), hw ((1 + p) * 32) (by omega), hw (8 + (1 + p) * 32) (by omega)]
  have hnE : (n : Int) = E := by rw [hE]; exact hl
  have hn40 : 40 ≤ n := by omega
  have hne : ((n : Int) != E) = false := by simp; omega
  have hne2 : ((n : Int) == E) = true := by simp; omega
  obtain ⟨x, o, rfl, hx, hc⟩ := HT.out.at_ (by omega)
  have HSM := hid HT.out.small
  have HG := hid (gotI_in HSM.out)
  have HMM := hid (manyS_in hr)
  have HX := hid hx
  have HCM := hid (fun W : World => many_any L V W)
  have hcut8 := fun W : World => run_cut_h (P := Try.prog) Try.underlying31 size_byte_ (some ⟨x, o, none⟩) n c 8 W (by omega) (by have := HT.out.le; omega)
  have CO := hid (fun (W : World) (h : TextAt W (some ⟨x, o, none⟩) n c t) => show Calls Try.prog 22 #[.slice (some ⟨x, o, none⟩) 8 c] W (fun e w' => e = .returned (.tuple #[.int .u64 (gotI t), .int .i64 0]) ∧ W = w') from of_bytes x o (t.take 8) 8 c W (by rw [List.length_take]; omega) (by omega) (fun y hy => HSM.out y (List.mem_of_mem_take hy)) (fun i hi => by
    obtain ⟨x', o', he, -, hc1⟩ := h.at_ (by omega)
    cases he
    rw [hc1 i (by omega)]
    simp [List.getD_eq_getElem?_getD, hi]))
  obtain ⟨M, hM⟩ : ∃ M, manyS L V = M := ⟨_, rfl⟩
  obtain ⟨G, hG⟩ : ∃ G, gotI t = G := ⟨_, rfl⟩
  rw [hM] at HCM HMM hlt
  rw [hG] at HG CO hlt
  have HGI := hid hG
  have hM0 := HMM.out.1
  have hM1 := HMM.out.2
  have hG0 := HG.out.1
  have hG1 := HG.out.2
  have hwM : IntKind.u64.wrap M = M := by show M % 18446744073709551616 = M; omega
  have hwM2 : M % 18446744073709551616 = M := by omega
  have HNE := hid hnE
  have HL := hid hl
  clear hE hEb hM hG hc hx hnE hl
  have hge : decide (M ≤ G) = true := by simp; omega
  have hge2 : M ≤ G := by omega
  go_enter Try.func10, Try.ntmps10
  go_wp2_with (refine wpList_load_blk rfl 23 _ rfl (w.heap.size) rfl _ 23 Ksh.out _ Try.underlying23 rfl 2 size_shape rfl ?_)
  refine (hright_b L V true hr _).mono ?_
  rintro e w1 ⟨rfl, bw1⟩
  have HBw1 := hid (Below.on Hb.out bw1)
  have hsw1 := HBw1.out.size
  have Kshw1 := hid (Ksh.out.below bw1)
  have Krw1 := hid (Kr.out.below bw1)
  clear bw1
  have d0 : w1.cell? ⟨w.heap.size, 0, none⟩ = some (.int .i64 L) := by rw [Kshw1.out.cell]; rfl
  have d1 : w1.cell? ⟨w.heap.size, 1, none⟩ = some (.int .i64 V) := by rw [Kshw1.out.cell]; rfl
  go_wp2_with fail
  refine (CO.out _ (HT.out.below HBw1.out)).mono ?_
  rintro e w2 ⟨rfl, hw2⟩
  subst hw2
  clear hcut8
  go_wp2_with (refine wpList_load_blk_if (by first | rfl | go_simp) 23 _ rfl (w.heap.size) rfl _ 23 Kshw1.out _ Try.underlying23 rfl 2 size_shape rfl ?_)
  clear d0 d1
  refine (HCM.out _).mono ?_
  rintro e w2 ⟨rfl, bw2⟩
  have HBw2 := hid (Below.on HBw1.out bw2)
  have hsw2 := HBw2.out.size
  have Kshw2 := hid (Kshw1.out.below bw2)
  have Krw2 := hid (Krw1.out.below bw2)
  clear bw2
  have d0 : w2.cell? ⟨w.heap.size, 0, none⟩ = some (.int .i64 L) := by rw [Kshw2.out.cell]; rfl
  have d1 : w2.cell? ⟨w.heap.size, 1, none⟩ = some (.int .i64 V) := by rw [Kshw2.out.cell]; rfl
  go_wp2_with (
      refine wpList_store_blk rfl 28 _ _ rfl (w.heap.size + 1) zSig.toArray rfl rfl _ 28 Krw2.out 34 size_sig zSig_size zSig_size (sigC_ones _ _ _ rfl) ?_
      intro w9 hb9 hk9
      have HB9 := hid (hb9.below HBw2.out HBw2.out.size (by omega))
      have HK9 := hid hk9
      clear hb9 hk9)
  exact bodyPost_ret (v := .tuple #[.agg zSig.toArray, .int .i64 2]) (results_blk_tmp Try.results10 _ (w.heap.size + 1) rfl _ rfl _ 28 HK9.out _ Try.underlying28 rfl 34 size_sig zSig_size) rfl ⟨rfl, HB9.out⟩
set_option maxHeartbeats 4000000 in
set_option maxRecDepth 100000 in
theorem get_good (L V : Int) (a : Option Addr) (n c : Nat) (t : List Int) (w : World) (hr : rightS L V = true) (hT : TextAt w a n c t) (hl : (n : Int) = 40 + L * (2144 + V * 32)) (hlt : gotI t < manyS L V) :
    Calls Try.prog 10 #[.agg (shC L V), .slice a n c] w fun e w' => ∃ pa pn pc, e = .returned (.tuple #[.agg (sigC (gotI t) (gotR t) (.slice pa pn pc)).toArray, .int .i64 0]) ∧ PartsAt w' pa pn pc (partsZ V.toNat (t.drop 40) L.toNat) ∧ Below w.heap.size w w' := by
  have b1 := (Below.refl w.heap.size w).alloc (Nat.le_refl _) (.cells (shC L V) 23 (0, 0))
  have b2 := b1.alloc b1.size (.cells zSig.toArray 28 (0, 0))
  have Ksh := hid ((Blk.new (w := w) (n := w.heap.size) rfl (shC L V) 23).old (.cells zSig.toArray 28 (0, 0)))
  have Kr := hid (Blk.new (w := (w.alloc (.cells (shC L V) 23 (0, 0)))) (n := w.heap.size + 1) (by simp only [World.size_alloc]) zSig.toArray 28)
  have Hb := hid b2
  have hbz := b2.size
  have Hbs := hid (show w.heap.size + 1 + 1 = ((w.alloc (.cells (shC L V) 23 (0, 0))).alloc (.cells zSig.toArray 28 (0, 0))).heap.size by simp only [World.size_alloc])
  clear b1 b2 
  have HT := hid hT
  have htl := hT.length
  obtain ⟨hL1, hL2, hV1, hV2⟩ : 1 ≤ L ∧ L ≤ 4 ∧ 1 ≤ V ∧ V ≤ 4 := by simpa [rightS] using hr
  clear hT
  obtain ⟨E, hE⟩ : ∃ E, E = 40 + L * (2144 + V * 32) := ⟨_, rfl⟩
  have hEb : 40 ≤ E ∧ E ≤ 100000 := by
    subst hE
    rcases (show L = 1 ∨ L = 2 ∨ L = 3 ∨ L = 4 by omega) with rfl | rfl | rfl | rfl <;> omega
  have hE2 : wrap64 (8 + wrap64 (wrap64 (1 + wrap64 (L * (67 + V))) * 32)) = E := by
    subst hE
    have hp : 0 ≤ L * (67 + V) ∧ L * (67 + V) ≤ 284 ∧ 40 + L * (2144 + V * 32) = 8 + (1 + L * (67 + V)) * 32 := by
      rcases (show L = 1 ∨ L = 2 ∨ L = 3 ∨ L = 4 by omega) with rfl | rfl | rfl | rfl <;> omega
    obtain ⟨p1, p2, p3⟩ := hp
    rw [p3]
    generalize L * (67 + V) = p at *
    have hw : ∀ z : Int, -9223372036854775808 ≤ z ∧ z ≤ 9223372036854775807 → wrap64 z = z := fun z h => by unfold wrap64; omega
    rw [hw p (by omega), hw (1 + p) (by omega), hw ((1 + p) * 32) (by omega), hw (8 + (1 + p) * 32) (by omega)]
  have hnE : (n : Int) = E := by rw [hE]; exact hl
  have hn40 : 40 ≤ n := by omega
  have hne : ((n : Int) != E) = false := by simp; omega
  have hne2 : ((n : Int) == E) = true := by simp; omega
  obtain ⟨x, o, rfl, hx, hc⟩ := HT.out.at_ (by omega)
  have HSM := hid HT.out.small
  have HG := hid (gotI_in HSM.out)
  have HMM := hid (manyS_in hr)
  have HX := hid hx
  have HCM := hid (fun W : World => many_any L V W)
  have hcut8 := fun W : World => run_cut_h (P := Try.prog) Try.underlying31 size_byte_ (some ⟨x, o, none⟩) n c 8 W (by omega) (by have := HT.out.le; omega)
  have CO := hid (fun (W : World) (h : TextAt W (some ⟨x, o, none⟩) n c t) => show Calls Try.prog 22 #[.slice (some ⟨x, o, none⟩) 8 c] W (fun e w' => e = .returned (.tuple #[.int .u64 (gotI t), .int .i64 0]) ∧ W = w') from of_bytes x o (t.take 8) 8 c W (by rw [List.length_take]; omega) (by omega) (fun y hy => HSM.out y (List.mem_of_mem_take hy)) (fun i hi => by
    obtain ⟨x', o', he, -, hc1⟩ := h.at_ (by omega)
    cases he
    rw [hc1 i (by omega)]
    simp [List.getD_eq_getElem?_getD, hi]))
  obtain ⟨M, hM⟩ : ∃ M, manyS L V = M := ⟨_, rfl⟩
  obtain ⟨G, hG⟩ : ∃ G, gotI t = G := ⟨_, rfl⟩
  rw [hM] at HCM HMM hlt
  rw [hG] at HG CO hlt
  have HGI := hid hG
  have hM0 := HMM.out.1
  have hM1 := HMM.out.2
  have hG0 := HG.out.1
  have hG1 := HG.out.2
  have hwM : IntKind.u64.wrap M = M := by show M % 18446744073709551616 = M; omega
  have hwM2 : M % 18446744073709551616 = M := by omega
  have HNE := hid hnE
  have HL := hid hl
  clear hE hEb hM hG hc hx hnE hl
  have hge : decide (M ≤ G) = false := by simp; omega
  have hge2 : ¬ M ≤ G := by omega
  have hwG : wrap64 G = G := by unfold wrap64; omega
  obtain ⟨LN, rfl⟩ := Int.eq_ofNat_of_zero_le (show 0 ≤ L by omega)
  obtain ⟨VN, rfl⟩ := Int.eq_ofNat_of_zero_le (show 0 ≤ V by omega)
  simp only [Int.toNat_natCast]
  go_enter Try.func10, Try.ntmps10
  go_wp2_with (refine wpList_load_blk rfl 23 _ rfl (w.heap.size) rfl _ 23 Ksh.out _ Try.underlying23 rfl 2 size_shape rfl ?_)
  refine (hright_b LN VN true hr _).mono ?_
  rintro e w1 ⟨rfl, bw1⟩
  have HBw1 := hid (Below.on Hb.out bw1)
  have hsw1 := HBw1.out.size
  have Kshw1 := hid (Ksh.out.below bw1)
  have Krw1 := hid (Kr.out.below bw1)
  clear bw1
  have d0 : w1.cell? ⟨w.heap.size, 0, none⟩ = some (.int .i64 LN) := by rw [Kshw1.out.cell]; rfl
  have d1 : w1.cell? ⟨w.heap.size, 1, none⟩ = some (.int .i64 VN) := by rw [Kshw1.out.cell]; rfl
  go_wp2_with fail
  refine (CO.out _ (HT.out.below HBw1.out)).mono ?_
  rintro e w2 ⟨rfl, hw2⟩
  subst hw2
  clear hcut8
  go_wp2_with (refine wpList_load_blk_if (by first | rfl | go_simp) 23 _ rfl (w.heap.size) rfl _ 23 Kshw1.out _ Try.underlying23 rfl 2 size_shape rfl ?_)
  clear d0 d1
  refine (HCM.out _).mono ?_
  rintro e w2 ⟨rfl, bw2⟩
  have HBw2 := hid (Below.on HBw1.out bw2)
  have hsw2 := HBw2.out.size
  have Kshw2 := hid (Kshw1.out.below bw2)
  have Krw2 := hid (Krw1.out.below bw2)
  clear bw2
  have d0 : w2.cell? ⟨w.heap.size, 0, none⟩ = some (.int .i64 LN) := by rw [Kshw2.out.cell]; rfl
  have d1 : w2.cell? ⟨w.heap.size, 1, none⟩ = some (.int .i64 VN) := by rw [Kshw2.out.cell]; rfl
  have hcut9 : ∀ W : World, (Instr.slice 31 (.slice (some ⟨x, o, none⟩) n c) (some (.int .i64 8)) none none).run Try.prog W = .ok (.slice (cutA (some ⟨x, o, none⟩) 8 c) (n - 8) (c - 8)) W := fun W => by
    have h := run_cut_l (P := Try.prog) Try.underlying31 size_byte_ (some ⟨x, o, none⟩) n c 8 W (by omega) (by omega)
    exact h
  have HT9 := hid (fun W (h : TextAt W (some ⟨x, o, none⟩) n c t) => h.from 8 (by omega))
  generalize cutA (some ⟨x, o, none⟩) 8 c = ya at *
  have HRD := hid (gotR_dg (t := t) (by omega) HSM.out)
  go_wp2_with (
        refine wpList_store_cell rfl 31 _ _ rfl (w2.heap.size) 0 (.slice ya (n - 8) (c - 8)) rfl rfl rfl rfl #[.slice none 0 0] 31 (Blk.new rfl #[.slice none 0 0] 31) (by simp) size_text1 ?_
        intro w20 hb20 hk20
        have h20 := hb20.below ((Below.refl w2.heap.size w2).alloc (Nat.le_refl _) _) (by simp only [World.size_alloc]; omega) (Nat.le_refl _)
        have HB20 := hid (Below.on HBw2.out h20)
        have Kb20 := hid (show Blk w20 w2.heap.size #[.slice ya (n - 8) (c - 8)] 31 from hk20)
        have Ksh20 := hid (Kshw2.out.below h20)
        have Kr20 := hid (Krw2.out.below h20)
        have hlsh := Kshw2.out.lt
        have hlr := Krw2.out.lt
        clear hb20 hk20 h20)
  obtain ⟨br, hbr⟩ : ∃ b, b = w2.heap.size := ⟨_, rfl⟩
  rw [← hbr] at Kb20 ⊢
  have hbrl : w.heap.size + 1 < br := by omega
  clear hbr
  refine (take_any br ya (n - 8) (c - 8) (t.drop 8) 1 w w20 Kb20.out (HT9.out w HT.out) HB20.out (by omega) (by omega) (by omega) (by omega)).mono ?_
  rintro e w3 ⟨rfl, kg3, ⟨ra3, rc3, kr3, ht3⟩, hi3⟩
  rw [show rowsZ (t.drop 8) 1 = [gotR t] by simp [rowsZ, gotR]] at kg3
  rw [List.drop_drop] at ht3
  have HB3 := hid (hi3.below HB20.out HB20.out.size (by simp; omega))
  have Kshw3 := hid (hi3.blk Ksh20.out (by simp; omega))
  have Krw3 := hid (hi3.blk Kr20.out (by simp; omega))
  have Kb3 := hid kr3
  have HT3 := hid ht3
  have Kg3 := hid kg3
  have hg3 := kg3.lt
  have hbr3 : br < w20.heap.size := Kb20.out.lt
  have hs203 := hi3.size
  have HRG := hid (by have h := kg3.digs (by simp only [List.mem_cons, List.not_mem_nil, or_false, forall_eq]; exact HRD.out) 0 (by simp); simpa using h)
  clear kg3 kr3 ht3 hi3
  go_wp2_with (first
     | (refine wpList_index_digs rfl 44 _ _ rfl Try.underlying44 size_digest w20.heap.size 0 1 1 rfl _ _ rfl 0 rfl (by omega) ?_)
     | (refine wpList_load_mid rfl 25 _ rfl w20.heap.size (0 + 0 * 32) rfl _ _ HRG.out Try.underlying25 rfl (by rw [List.length_map, HRD.out.len]; exact size_digest) ?_)
     | (refine wpList_buildv rfl 28 _ rfl [(0, .int .i64 G), (1, .agg ((gotR t).map (Value.int .u8)).toArray)] rfl _ (build_sig2 G (gotR t) HRD.out) ?_)
     | (
        refine wpList_store_blk rfl 28 _ _ rfl (w3.heap.size) (sigC G (gotR t) (.slice none 0 0)).toArray rfl rfl _ 28 (Blk.new rfl zSig.toArray _) 34 size_sig zSig_size (sigC_size HRD.out) (sigC_ones _ _ _ rfl) ?_
        intro w31 hbw31 hkw31
        have hw31 := hbw31.below ((Below.refl w3.heap.size w3).alloc (Nat.le_refl _) _) (by simp only [World.size_alloc]; omega) (Nat.le_refl _)
        have HBw31 := hid (Below.on HB3.out hw31)
        have hsw31 := HBw31.out.size
        have Kshw31 := hid (Kshw3.out.below hw31)
        have hlshw31 := Kshw3.out.lt
        have Krw31 := hid (Krw3.out.below hw31)
        have hlrw31 := Krw3.out.lt
        have Ksw31 := hid hkw31
        have hfw31 : w.heap.size ≤ w3.heap.size := HB3.out.size
        have Kbw31 := hid (Kb3.out.below hw31)
        have hlbw31 := Kb3.out.lt
        have d0s : w31.cell? ⟨w.heap.size, 0, none⟩ = some (.int .i64 LN) := by rw [Kshw31.out.cell]; rfl
        have hbsw31 := hkw31.lt
        clear hbw31 hkw31 hw31))
  obtain ⟨bs, hbs⟩ : ∃ b, b = w3.heap.size := ⟨_, rfl⟩
  rw [← hbs] at Ksw31 hbsw31 hlbw31 ⊢
  obtain ⟨B, hB⟩ : ∃ B, B = w31.heap.size := ⟨_, rfl⟩
  have hbs1 : br < bs := by omega
  have hbs2 : bs < B := by omega
  obtain ⟨EA, hEA⟩ : ∃ EA, EA = 2144 + VN * 32 := ⟨_, rfl⟩
  have hEA1 : 2144 + VN * 32 = EA := hEA.symm
  have hnEA : n = 40 + LN * EA := by
    have h := HL.out
    subst hEA
    rw [show ((40 : Int) + (LN : Int) * (2144 + (VN : Int) * 32)) = ((40 + LN * (2144 + VN * 32) : Nat) : Int) by simp] at h
    exact Int.ofNat.inj h
  have hmul : ∀ k, k < LN → k * EA + EA ≤ LN * EA := fun k hk => by
    have := Nat.mul_le_mul_right EA (show k + 1 ≤ LN from hk)
    rwa [Nat.succ_mul] at this
  have HPZ := hid (fun k => show partsZ VN (t.drop 40) (k + 1) = partsZ VN (t.drop 40) k ++ [(rowsZ ((t.drop 40).drop (k * EA)) 67, rowsZ ((t.drop 40).drop (k * EA + 2144)) VN)] by rw [hEA]; rfl)
  have HNEA := hid hnEA
  have HMUL := hid hmul
  have HEA := hid hEA
  have hBw := Nat.le_of_eq hB
  have HBS := hid hB
  clear hB hbs hnEA hmul hEA hEA1
  go_loopw [54] (fun iv wr => ∃ (k : Nat) (xa : Option Addr) (xc : Nat) (pv : Value), k ≤ LN ∧ iv = .int .i64 k ∧ Blk wr w.heap.size (shC LN VN) 23 ∧ Blk wr (w.heap.size + 1) zSig.toArray 28 ∧ Blk wr br #[.slice xa (n - 40 - k * EA) xc] 31 ∧ TextAt w xa (n - 40 - k * EA) xc ((t.drop 40).drop (k * EA)) ∧ Blk wr bs (sigC G (gotR t) pv).toArray 28 ∧ OwnP wr B pv (partsZ VN (t.drop 40) k) ∧ B ≤ wr.heap.size ∧ Below w.heap.size w wr) (fun iv _ => LN - (intOf iv).toNat)
  case atStart => exact ⟨0, ra3, rc3, .slice none 0 0, Nat.zero_le _, rfl, Kshw31.out, Krw31.out, by have h := Kbw31.out; simpa [Nat.sub_sub] using h, by have h := HT3.out; simpa [Nat.sub_sub] using h, Ksw31.out, OwnP.nil _ _, hBw, HBw31.out⟩
  case round =>
    obtain ⟨k, xa, xc, pv, hk, rfl, ksh, kr, kb, hx, ks, ho, hsz, bel⟩ := hrel
    have Kshwr := hid ksh
    have Krwr := hid kr
    have Kbwr := hid kb
    have HX := hid hx
    have Kswr := hid ks
    have HO := hid ho
    have HBwr := hid bel
    have hswr := bel.size
    clear ksh kr kb hx ks ho bel
    by_cases hlt : k < LN
    · have hc0 : (k : Int) < LN := by omega
      have HM := hid (HMUL.out k hlt)
      have HPK := hid (HPZ.out k)
      obtain ⟨q, hq⟩ : ∃ q, q = k * EA := ⟨_, rfl⟩
      obtain ⟨r0, hr0⟩ : ∃ r, r = n - 40 - q := ⟨_, rfl⟩
      have hHM := HM.out
      have hNE := HNEA.out
      have hEE := HEA.out
      rw [← hq] at HPK Kbwr HX hHM
      rw [← hr0] at Kbwr HX
      have hr1 : 2144 + VN * 32 ≤ r0 := by omega
      have Hr0 := hid hr0
      have Hq := hid hq
      obtain ⟨u, hu⟩ : ∃ u, u = (t.drop 40).drop q := ⟨_, rfl⟩
      rw [← List.drop_drop, ← hu] at HPK
      rw [← hu] at HX
      have Hu := hid hu
      clear hq hr0 hHM hNE hEE hu
      go_wp2_with fail
      refine (take_any br xa r0 xc u 67 w wr Kbwr.out HX.out HBwr.out (by omega) (by omega) (by omega) (by omega)).mono ?_
      rintro e w4 ⟨rfl, kg4, ⟨ra4, rc4, kr4, ht4⟩, hi4⟩
      have hb4 : But br wr w4 := ⟨hi4.os, hi4.tape, hi4.output, hi4.size, fun k hk hne => hi4.block k hk (by simpa using hne)⟩
      have HB4 := hid (hb4.below HBwr.out HBwr.out.size (by omega))
      have Ksh4 := hid (hb4.blk Kshwr.out (by omega))
      have Kr4 := hid (hb4.blk Krwr.out (by omega))
      have Ks4 := hid (hb4.blk Kswr.out (by omega))
      have HO4 := hid (HO.out.but (by omega) hb4)
      have Kb4 := hid kr4
      have HT4 := hid (show TextAt w ra4 (r0 - 67 * 32) rc4 (u.drop 2144) from ht4)
      have HR4 := hid (show RowT B 67 (rowsZ u 67) (.slice (some ⟨wr.heap.size, 0, none⟩) 67 67) w4 from ⟨rowsZ_length _ _, rowsZ_each (by have := HX.out.length; omega) HX.out.small, wr.heap.size, hsz, rfl, kg4⟩)
      have hsz4 := Nat.le_trans hsz hi4.size
      have hs4 := HB4.out.size
      have hbb4 := kr4.lt
      have hss4 := Ks4.out.lt
      have hsh4 := Ksh4.out.lt
      clear kg4 kr4 ht4 hi4 hb4
      go_wp2_with fail
      obtain ⟨r4, hr4⟩ : ∃ r, r = r0 - 67 * 32 := ⟨_, rfl⟩
      have hr41 : VN * 32 ≤ r4 := by omega
      rw [← hr4] at Kb4 HT4
      have Hr4 := hid hr4
      clear hr4
      refine FlowB.wp_region_butIn [br] (fun wz => Blk wz br #[.slice ra4 r4 rc4] 31) 8 [0, 1, 2, 3, 4] [] [(.c 5, [6], [7]), (.b 7, [], [])] (by kernel_rfl) (by kernel_rfl) Kb4.out (fun _ _ h hb => h.below hb) ?_
      apply Exists.intro
      refine ⟨fun w0 hb0 hF0 => ?_, ?_⟩
      · skip
        have y0 : ∀ w', (∃ x : Ext w0, w' = x.at_) → w'.cell? ⟨bs, 33, none⟩ = some pv := fun w' ⟨x, hx⟩ => hx ▸ sigC_parts HRD.out ((hb0.blk Ks4.out (by simp; omega)).below x.same)
        have y1 : ∀ w', (∃ x : Ext w0, w' = x.at_) → w'.cell? ⟨w.heap.size, 1, none⟩ = some (.int .i64 VN) := fun w' ⟨x, hx⟩ => by rw [hx, ((hb0.blk Ksh4.out (by simp; omega)).below x.same).cell]; rfl
        simp only [pick, List.getElem?_toArray, List.getElem?_cons_succ, List.getElem?_cons_zero, Option.toList_some, List.cons_append, List.nil_append]
        repeat (first | (go_big_quiet_want; refine quiet_load_one 26 _ rfl ⟨bs, 33, none⟩ rfl _ y0 _ Try.underlying26 rfl ?_; go_big_quiet_on; simp only [Act.put, List.setIfInBounds_toArray, List.set_cons_zero, List.set_cons_succ]) | (go_big_quiet_want; refine quiet_load_one 3 _ rfl ⟨w.heap.size, 1, none⟩ rfl _ y1 _ Try.underlying3 rfl ?_; go_big_quiet_on; simp only [Act.put, List.setIfInBounds_toArray, List.set_cons_zero, List.set_cons_succ]) | go_big_quiet_step (fail))
        exact wpQuiet_nil rfl
      refine FlowB.AlChk.nil ?_
      refine FlowB.Walk.call rfl 23 #[.pointer (some ⟨br, 0, none⟩), .int .i64 VN] (fun v _ => ∃ g5, v = .slice (some ⟨g5, 0, none⟩) VN VN) (fun v wz => RowT B VN (rowsZ (u.drop 2144) VN) v wz ∧ ∃ ra5 rc5, Blk wz br #[.slice ra5 (r4 - VN * 32) rc5] 31 ∧ TextAt w ra5 (r4 - VN * 32) rc5 (u.drop (2144 + VN * 32))) (fun _ _ _ _ h _ => h) (fun _ _ _ ⟨h1, ra5, rc5, h2, h3⟩ hb => ⟨h1.below hb, ra5, rc5, h2.below hb, h3⟩) rfl (fun w1 hb1 hF1 hG1 => ⟨by go_simp, ?_⟩) ?_
      · have hsz1 := Nat.le_trans hsz4 hb1.size
        refine (take_any br ra4 r4 rc4 (u.drop 2144) VN w w1 hG1 HT4.out (hb1.below HB4.out HB4.out.size (by simp; omega)) (by omega) (by omega) (by omega) (by omega)).mono ?_
        rintro e w5 ⟨rfl, kg5, ⟨ra5, rc5, kr5, ht5⟩, hi5⟩
        rw [List.drop_drop] at ht5
        exact ⟨_, rfl, hi5, ⟨_, rfl⟩, ⟨rowsZ_length _ _, rowsZ_each (by have := HT4.out.length; omega) HT4.out.small, w1.heap.size, hsz1, rfl, kg5⟩, ra5, rc5, kr5, ht5⟩
      rintro v5 w1 hb1 hF1 ⟨g5, rfl⟩
      apply Exists.intro
      refine ⟨fun w3 hb3 hF3 => ?_, ?_⟩
      · skip
        simp only [pick, List.getElem?_toArray, List.getElem?_cons_succ, List.getElem?_cons_zero, Option.toList_some, List.cons_append, List.nil_append, Act.put, List.setIfInBounds_toArray, List.set_cons_zero, List.set_cons_succ]
        repeat (first | go_big_quiet_step (fail))
        exact wpQuiet_nil rfl
      refine FlowB.AlChk.one rfl (fun b => .slice (some ⟨b, 0, none⟩) 1 1) (.cells #[.slice (some ⟨wr.heap.size, 0, none⟩) 67 67, .slice (some ⟨g5, 0, none⟩) VN VN] 46 (0, 0)) rfl (stQ_butIn _ (by simp; omega)) (fun w3 hb3 hF3 => exec_build_part rfl rfl) ?_
      refine FlowB.AlChk.nil ?_
      refine FlowB.Walk.blk rfl (fun b => .slice (some ⟨b, 0, none⟩) 1 1) (.cells #[.slice (some ⟨wr.heap.size, 0, none⟩) 67 67, .slice (some ⟨g5, 0, none⟩) VN VN] 46 (0, 0)) (by simp) ?_
      intro b6 w6 hb6 hF6 hge6 hbk6
      apply Exists.intro
      refine ⟨fun w7 hb7 hF7 => wpQuiet_nil rfl, ?_⟩
      refine FlowB.AlChk.nil ?_
      refine FlowB.Walk.fin fun w9 h9 hF9 hG9 => ?_
      simp only [List.drop_succ_cons, List.drop_zero]
      have Kq9 := hid (show Blk w9 b6 #[.slice (some ⟨wr.heap.size, 0, none⟩) 67 67, .slice (some ⟨g5, 0, none⟩) VN VN] 46 from hF9.2)
      obtain ⟨hr9, ra5, rc5, kr5, ht5⟩ := hG9
      have hb9 : But br w4 w9 := ⟨h9.os, h9.tape, h9.output, h9.size, fun k hk hne => h9.block k hk (by simpa using hne)⟩
      have HB9 := hid (hb9.below HB4.out HB4.out.size (by omega))
      have Ksh9 := hid (hb9.blk Ksh4.out (by omega))
      have Kr9 := hid (hb9.blk Kr4.out (by omega))
      have Ks9 := hid (hb9.blk Ks4.out (by omega))
      have HO9 := hid (HO4.out.but (by omega) hb9)
      have HR9 := hid (show RowT B 67 (rowsZ u 67) (.slice (some ⟨wr.heap.size, 0, none⟩) 67 67) w9 from by
        obtain ⟨h1, h2, g, h3, h4, h5⟩ := HR4.out
        exact ⟨h1, h2, g, h3, h4, hb9.blk h5 (by omega)⟩)
      have HS9 := hid hr9
      have Kb9 := hid kr5
      have HT9' := hid ht5
      have hsz9 := Nat.le_trans hsz4 h9.size
      clear hF9 hr9 kr5 ht5 h9 hb9 hbk6
      obtain ⟨iP, zP, hi, hz0, hzs, hz1, hz2⟩ := info_part
      have hpl := partsZ_length VN (t.drop 40) k
      refine wpList_append_part rfl _ _ rfl Try.underlying26 hi hz0 hzs hz1 hz2 rfl HO9.out rfl Kq9.out (p := (rowsZ u 67, rowsZ (u.drop 2144) VN)) (by rw [rowsZ_length]; exact HR9.out) (by rw [rowsZ_length]; exact HS9.out) (by omega) hsz9 ?_
      intro v8 w8 ho8 hg8 hb8
      rw [← HPK.out] at ho8
      obtain ⟨pa8, pn8, pc8, hv8⟩ := ho8.slice
      subst hv8
      have HO8 := hid ho8
      have hkd := HO9.out.kind
      have hlo := HO9.out.lt
      have HB8 := hid (Below.trans HB9.out (hb8.mono (by omega)))
      have Ksh8 := hid (Ksh9.out.low (by omega) hb8)
      have Kr8 := hid (Kr9.out.low (by omega) hb8)
      have Ks8 := hid (Ks9.out.low (by omega) hb8)
      have Kb8 := hid (Kb9.out.low (by omega) hb8)
      have hsz8 := Nat.le_trans hsz9 hb8.size
      clear ho8 hg8 hb8 hkd hlo hi hz0 hzs hz1 hz2 hpl
      go_wp2_with (
        refine wpList_store_cell rfl 26 _ _ rfl bs 33 (.slice pa8 pn8 pc8) rfl rfl rfl rfl _ 28 Ks8.out (by rw [sigC_size HRD.out]; omega) size_ldp ?_
        intro w10 hb10 hk10
        rw [sigC_set HRD.out] at hk10
        have HB10 := hid (hb10.below HB8.out HB8.out.size (by omega))
        have Ksh10 := hid (hb10.blk Ksh8.out (by omega))
        have Kr10 := hid (hb10.blk Kr8.out (by omega))
        have Kb10 := hid (hb10.blk Kb8.out (by omega))
        have Ks10 := hid hk10
        have HO10 := hid (HO8.out.but (by omega) hb10)
        have hsz10 := Nat.le_trans hsz8 hb10.size
        clear hb10 hk10)
      exact ⟨⟨k + 1, ra5, rc5, .slice pa8 pn8 pc8, by omega, by first | rfl | simp, Ksh10.out, Kr10.out, by have h := Kb10.out; rw [Hr4.out, Hr0.out, Hq.out] at h; rw [Nat.succ_mul, HEA.out]; rw [HEA.out] at h; rw [show n - 40 - (k * (2144 + VN * 32) + (2144 + VN * 32)) = n - 40 - k * (2144 + VN * 32) - 67 * 32 - VN * 32 by omega]; exact h, by have h := HT9'.out; rw [Hr4.out, Hr0.out, Hu.out, Hq.out, List.drop_drop] at h; rw [Nat.succ_mul, HEA.out]; rw [HEA.out] at h; rw [show n - 40 - (k * (2144 + VN * 32) + (2144 + VN * 32)) = n - 40 - k * (2144 + VN * 32) - 67 * 32 - VN * 32 by omega]; exact h, Ks10.out, HO10.out, hsz10, HB10.out⟩, by simp [intOf]; omega⟩
    · have hkn : k = LN := by omega
      have hc0 : ¬ (k : Int) < LN := by omega
      rw [hkn] at HO
      obtain ⟨pa9, pn9, pc9, hpv⟩ := HO.out.slice
      subst hpv
      go_wp2_with (first
       | (with_reducible show wpList _ _ _ (⟨some 68, _, _, _, _, _⟩ :: _) _ _; refine wpList_load_blk rfl 28 _ rfl bs rfl _ 28 Kswr.out _ Try.underlying28 rfl 34 size_sig (sigC_size HRD.out) ?_)
       | (with_reducible show wpList _ _ _ (⟨none, _, _, _, _, _⟩ :: _) _ _
          refine wpList_store_blk rfl 28 _ _ rfl (w.heap.size + 1) (sigC G (gotR t) (.slice pa9 pn9 pc9)).toArray rfl rfl _ 28 Krwr.out 34 size_sig zSig_size (sigC_size HRD.out) (sigC_ones _ _ _ rfl) ?_
          intro w9 hb9 hk9
          have HB9 := hid (hb9.below HBwr.out HBwr.out.size (by omega))
          have HK9 := hid hk9
          have HO9 := hid (HO.out.but (by omega) hb9)
          clear hb9 hk9))
      obtain ⟨pa, pc, hpe, hpt⟩ := HO9.out.parts (fun j hj => by rw [partsZ_length] at hj; rw [partsZ_get VN _ hj]; simp only [rowsZ_length]; omega)
      cases hpe
      exact bodyPost_ret (v := .tuple #[.agg (sigC G (gotR t) (.slice pa9 (partsZ VN (t.drop 40) LN).length pc9)).toArray, .int .i64 0]) (results_blk_tmp Try.results10 _ (w.heap.size + 1) rfl _ rfl _ 28 HK9.out _ Try.underlying28 rfl 34 size_sig (sigC_size HRD.out)) rfl ⟨_, _, _, by rw [HGI.out], hpt, HB9.out⟩
end Go.Proofs.Ytkakoiaahgchmaa
