/-
  Two, Drows, Join, Above, Comp, BuildD, Up, LtreeLaws: one text.
-/
import Derived.Test.YthaicocfbmpnmaaDoorLMKeyedRef
import Derived.Test.YthaicocfbmpnmaaDoorLNDigs
import Derived.Test.YthaicocfbmpnmaaDoorLMChain
namespace Go.Proofs.YthaicocfbmpnmaaDoor
open Go.ChangeShapes Go.WideShapes Go.ChangeAt Go.RowKit

/-- what functions that answer two digests hand back, and a value more -/
theorem results_blk2_tmp {P : Program} {w : World} {fn : Func} {p q u : Tmp} {ty : TypeId} (h : fn.results = #[.cell p ty, .cell q ty, .tmp u]) (tmps : Array Value) (b c : Nat) (hp : tmps.getD p undef = .pointer (some ⟨b, 0, none⟩)) (hq : tmps.getD q undef = .pointer (some ⟨c, 0, none⟩)) (v : Value) (hv : tmps.getD u undef = v) (cs ds : Array Value) (T : TypeId) (hk : Blk w b cs T) (hk2 : Blk w c ds T)
    (d : TypeDesc) (hu : P.underlying ty = some d) (hd : d.isRow = true) (n : Nat) (hi : (P.info? ty).map (·.size) = some n) (hs : cs.size = n) (hs2 : ds.size = n) : (results fn tmps).run P w = .ok (.tuple #[.agg cs, .agg ds, v]) w := by
  have hp' : tmps[p]?.getD undef = .pointer (some ⟨b, 0, none⟩) := by simpa using hp
  have hq' : tmps[q]?.getD undef = .pointer (some ⟨c, 0, none⟩) := by simpa using hq
  have hv' : tmps[u]?.getD undef = v := by simpa using hv
  have hl := run_loadVar_row (P := P) w b T ty cs (0, 0) d hk hu (by cases d <;> simp_all) (by rw [hi, hs])
  have hl2 := run_loadVar_row (P := P) w c T ty ds (0, 0) d hk2 hu (by cases d <;> simp_all) (by rw [hi, hs2])
  simp [results, h, hp', hq', hv', asAddr, hl, hl2]
theorem results_blk2 {P : Program} {w : World} {fn : Func} {p q : Tmp} {ty : TypeId} (h : fn.results = #[.cell p ty, .cell q ty]) (tmps : Array Value) (b c : Nat) (hp : tmps.getD p undef = .pointer (some ⟨b, 0, none⟩)) (hq : tmps.getD q undef = .pointer (some ⟨c, 0, none⟩)) (cs ds : Array Value) (T : TypeId) (hk : Blk w b cs T) (hk2 : Blk w c ds T)
    (d : TypeDesc) (hu : P.underlying ty = some d) (hd : d.isRow = true) (n : Nat) (hi : (P.info? ty).map (·.size) = some n) (hs : cs.size = n) (hs2 : ds.size = n) : (results fn tmps).run P w = .ok (.tuple #[.agg cs, .agg ds]) w := by
  have hp' : tmps[p]?.getD undef = .pointer (some ⟨b, 0, none⟩) := by simpa using hp
  have hq' : tmps[q]?.getD undef = .pointer (some ⟨c, 0, none⟩) := by simpa using hq
  have hl := run_loadVar_row (P := P) w b T ty cs (0, 0) d hk hu (by cases d <;> simp_all) (by rw [hi, hs])
  have hl2 := run_loadVar_row (P := P) w c T ty ds (0, 0) d hk2 hu (by cases d <;> simp_all) (by rw [hi, hs2])
  simp [results, h, hp', hq', asAddr, hl, hl2]

/-- a text that a function hands back -/
def TextV (t : List Int) (v : Value) (w : World) : Prop := ∃ a n c, v = .slice a n c ∧ TextAt w a n c t
theorem TextV.below {t : List Int} {v : Value} {w w' : World} (h : TextV t v w) (hb : Below w.heap.size w w') : TextV t v w' := by
  obtain ⟨a, n, c, h1, h2⟩ := h
  exact ⟨a, n, c, h1, h2.below hb⟩
theorem TextV.text {t : List Int} {a : Option Addr} {n c : Nat} {w : World} (h : TextV t (.slice a n c) w) : TextAt w a n c t := by
  obtain ⟨a', n', c', h1, h2⟩ := h
  injection h1 with e1 e2 e3
  subst e1 e2 e3
  exact h2
theorem TextV.of_own {w : World} {base : Nat} {e : TypeId} {v : Value} {bs : List Int} (h : OwnB w base e v bs) : TextV bs v w := by
  obtain ⟨a, c, h1, h2, _⟩ := h.text
  exact ⟨a, _, c, h1, h2⟩

namespace FlowB
theorem store_skips {P : Program} {o : Oper} {A : Act} {w : World} (ty : TypeId) (x y : Operand) (ho : o.op = .store ty x y) (b : Nat) (cells : Array Value) (hx : A.eval x = .pointer (some ⟨b, 0, none⟩)) (hy : A.eval y = .agg cells)
    (cs : Array Value) (T : TypeId) (hk : Blk w b cs T) (n : Nat) (hi : (P.info? ty).map (·.size) = some n) (hs : cs.size = n) (hn : cells.size = n) (h1 : cells.all (·.oneCell') = true) {S : List Nat} {G : World → Prop} (hb : b ∈ S) (hG : ∀ w2, But b w w2 → Blk w2 b cells T → G w2) :
    ∃ w2, (execOp A.eval o).run P w = .ok .skip w2 ∧ ButIn S w w2 ∧ G w2 := by
  obtain ⟨w2, q1, q2, q3⟩ := exec_store_blk ty x y ho b cells hx hy cs T hk n hi hs hn h1
  exact ⟨w2, q1, ButIn.of_but q2 hb, hG w2 q2 q3⟩
end FlowB
end Go.Proofs.YthaicocfbmpnmaaDoor

namespace Go.Proofs.YthaicocfbmpnmaaDoor
open Go.ChangeShapes Go.WideShapes Go.ChangeAt Go.RowKit

theorem flat_take {ds : List (List Int)} (h : ∀ d ∈ ds, d.length = 32) : ∀ (j : Nat), ds.flatten.take (j * 32) = (ds.take j).flatten := by
  induction ds with
  | nil => intro j; simp
  | cons d ds ih =>
    intro j
    have hd := h d (List.mem_cons_self ..)
    cases j with
    | zero => simp
    | succ j =>
      rw [List.flatten_cons, List.take_succ_cons, List.flatten_cons, List.take_append, hd, List.take_of_length_le (by omega), show (j + 1) * 32 - 32 = j * 32 by omega, ih fun x hx => h x (List.mem_cons_of_mem _ hx)]
theorem flat_drop {ds : List (List Int)} (h : ∀ d ∈ ds, d.length = 32) : ∀ (j : Nat), ds.flatten.drop (j * 32) = (ds.drop j).flatten := by
  induction ds with
  | nil => intro j; simp
  | cons d ds ih =>
    intro j
    have hd := h d (List.mem_cons_self ..)
    cases j with
    | zero => simp
    | succ j =>
      rw [List.flatten_cons, List.drop_succ_cons, List.drop_append, hd, List.drop_eq_nil_of_le (by omega), List.nil_append, show (j + 1) * 32 - 32 = j * 32 by omega, ih fun x hx => h x (List.mem_cons_of_mem _ hx)]

/-- digests are laid over a part of a row -/
theorem Blk.lay_digs {w : World} {g : Nat} {ds es : List (List Int)} {T : TypeId} (h : Blk w g (dcs ds) T) (hd : ∀ d ∈ ds, Dg d) (he : ∀ d ∈ es, Dg d) {j : Nat} (hj : j + es.length ≤ ds.length) :
    Blk (w.setCells g (j * 32) (es.flatten.map (Value.int .u8))) g (dcs (ds.take j ++ (es ++ ds.drop (j + es.length)))) T := by
  have hl := flat_length (Dg.lens hd)
  have hl2 := flat_length (Dg.lens he)
  unfold dcs at h ⊢
  have h0 : Blk w g (([] : List Value) ++ (ds.flatten.map (Value.int .u8) ++ [])).toArray T := by simpa using h
  have h1 := Blk.setCells [] (ds.flatten.map (Value.int .u8)) [] (j * 32) (es.flatten.map (Value.int .u8)) h0 (by simp only [List.length_map, hl, hl2]; omega)
  have e : (([] : List Value) ++ (splice (ds.flatten.map (Value.int .u8)) (j * 32) (es.flatten.map (Value.int .u8)) ++ [])) = (ds.take j ++ (es ++ ds.drop (j + es.length))).flatten.map (Value.int .u8) := by
    unfold splice
    rw [List.flatten_append, List.flatten_append, ← flat_take (Dg.lens hd) j, ← flat_drop (Dg.lens hd) (j + es.length)]
    rw [List.length_map, hl2, List.nil_append, List.append_nil, List.map_append, List.map_append, List.map_take, List.map_drop, show j * 32 + es.length * 32 = (j + es.length) * 32 by omega]
  rw [e] at h1
  simpa using h1

/-- where a part of a row of digests begins -/
def cutD (a : Option Addr) (l cap : Nat) : Option Addr := if cap = l then a else a.map (·.add (l * 32))
theorem cutD_zero (a : Option Addr) (cap : Nat) : cutD a 0 cap = a := by
  unfold cutD
  split
  · rfl
  · cases a with
    | none => rfl
    | some a => obtain ⟨x, o, s⟩ := a; cases s <;> simp [Addr.add]
theorem DigsAt.cut {w : World} {a : Option Addr} {len cap : Nat} {ds : List (List Int)} (h : DigsAt w a len cap ds) (l hi : Nat) (hl : l ≤ hi) (hh : hi ≤ len) : DigsAt w (cutD a l cap) (hi - l) (cap - l) ((ds.drop l).take (hi - l)) := by
  obtain ⟨h1, h2, h3, h4, h5⟩ := h
  refine ⟨by simp; omega, by omega, by omega, fun x hx => h4 x (List.mem_of_mem_drop (List.mem_of_mem_take hx)), ?_⟩
  unfold cutD
  rcases h5 with ⟨rfl, rfl, rfl⟩ | ⟨x, o, s, rfl, hc⟩
  · left
    refine ⟨by split <;> rfl, by omega, by omega⟩
  · right
    split
    · exact ⟨x, o, s, rfl, fun j hj => by omega⟩
    · rcases Nat.eq_or_lt_of_le hl with rfl | hlt
      · rcases s with _ | s
        · exact ⟨x, o + l * 32, none, by rw [Option.map_some, Addr.add_mid], fun j hj => by omega⟩
        · cases ha : (⟨x, o, some s⟩ : Addr).add (l * 32) with
          | mk x' o' s' => exact ⟨x', o', s', by simp [ha], fun j hj => by omega⟩
      · obtain ⟨rfl, hx, _⟩ := hc l (by omega)
        refine ⟨x, o + l * 32, none, by rw [Option.map_some, Addr.add_mid], fun j hj => ⟨rfl, hx, ?_⟩⟩
        rw [show o + l * 32 + j * 32 = o + (l + j) * 32 by omega]
        have := (hc (l + j) (by omega)).2.2
        rw [show ((ds.drop l).take (hi - l)).getD j [] = ds.getD (l + j) [] by simp [List.getD_eq_getElem?_getD, show j < hi - l by omega]]
        exact this
theorem DigsAt.head {w : World} {a : Option Addr} {len cap : Nat} {ds : List (List Int)} (h : DigsAt w a len cap ds) (hi : Nat) (hh : hi ≤ len) : DigsAt w a hi cap (ds.take hi) := by
  have := h.cut 0 hi (Nat.zero_le _) hh
  simpa [cutD_zero] using this

section
variable {P : Program} {t e : TypeId}
theorem run_cutd_lh (ht : P.underlying t = some (.slice e)) (hs : (P.info? e).map (·.size) = some 32) (a : Option Addr) (len cap : Nat) (l hi : Int) (w : World) (h0 : 0 ≤ l) (h1 : l ≤ hi) (h2 : hi ≤ cap) :
    (Instr.slice t (.slice a len cap) (some (.int .i64 l)) (some (.int .i64 hi)) none).run P w = .ok (.slice (cutD a l.toNat cap) (hi.toNat - l.toNat) (cap - l.toNat)) w := by
  have he : P.elem t = e := by simp [Program.elem, ht]
  rw [run_slice_lh (w := w) t a len cap (by rw [he]; exact ht) _ _ l hi h0 h1 h2]
  obtain ⟨i, hi1, hi2⟩ := Option.map_eq_some_iff.1 hs
  simp [sizeOf, typeInfo, he, hi1, hi2, sliced, cutD]
theorem run_cutd_h (ht : P.underlying t = some (.slice e)) (hs : (P.info? e).map (·.size) = some 32) (a : Option Addr) (len cap : Nat) (hi : Int) (w : World) (h0 : 0 ≤ hi) (h2 : hi ≤ cap) :
    (Instr.slice t (.slice a len cap) none (some (.int .i64 hi)) none).run P w = .ok (.slice a hi.toNat cap) w := by
  have he : P.elem t = e := by simp [Program.elem, ht]
  rw [run_slice_h (w := w) t a len cap (by rw [he]; exact ht) _ hi h0 h2]
  obtain ⟨i, hi1, hi2⟩ := Option.map_eq_some_iff.1 hs
  have := cutD_zero a cap
  unfold cutD at this
  simp only [Nat.zero_mul] at this
  simp [sizeOf, typeInfo, he, hi1, hi2, sliced, this]
theorem run_cutd_l (ht : P.underlying t = some (.slice e)) (hs : (P.info? e).map (·.size) = some 32) (a : Option Addr) (len cap : Nat) (l : Int) (w : World) (h0 : 0 ≤ l) (h1 : l ≤ len) :
    (Instr.slice t (.slice a len cap) (some (.int .i64 l)) none none).run P w = .ok (.slice (cutD a l.toNat cap) (len - l.toNat) (cap - l.toNat)) w := by
  have he : P.elem t = e := by simp [Program.elem, ht]
  rw [run_slice_l (w := w) t a len cap (by rw [he]; exact ht) _ l h0 h1]
  obtain ⟨i, hi1, hi2⟩ := Option.map_eq_some_iff.1 hs
  simp [sizeOf, typeInfo, he, hi1, hi2, sliced, cutD]

/-- copy, of digests -/
theorem run_copy_digs (w : World) (dT sT ty elem : TypeId) (hu : P.underlying dT = some (.slice elem)) (hs : (P.info? elem).map (·.size) = some 32) {b : Nat} {ds es : List (List Int)} {T : TypeId} (hk : Blk w b (dcs ds) T) (hd : ∀ d ∈ ds, Dg d) (h dLen dCap : Nat) (da : Option Addr) (hda : 0 < dLen → da = some ⟨b, h * 32, none⟩)
    {a : Option Addr} {len cap : Nat} (hT : DigsAt w a len cap es) (hfit : h + dLen ≤ ds.length) : ∃ w', (Builtin.copy_ #[dT, sT] ty #[.slice da dLen dCap, .slice a len cap]).run P w = .ok (.int .i64 (Nat.min len dLen : Nat)) w' ∧ But b w w' ∧
      Blk w' b (dcs (ds.take h ++ (es.take (Nat.min len dLen) ++ ds.drop (h + Nat.min len dLen)))) T := by
  obtain ⟨i, hq, hi⟩ := Option.map_eq_some_iff.1 hs
  rcases Nat.eq_zero_or_pos (Nat.min len dLen) with h0 | h0
  · refine ⟨w, ?_, But.of (Below.refl _ _), ?_⟩
    · have hl : ∀ (x : Addr), (loadCells x 0).run P w = .ok #[] w := fun x => by simpa using run_loadCells_list (P := P) w x [] (by simp)
      cases da <;> cases a <;> simp [Builtin.copy_, run_underlying hu, Builtin.lenOf, Builtin.firstCells, sizeOf, typeInfo, hq, h0, storeCells, hl, goInt]
    · rw [h0]
      simpa using hk
  · have hle : Nat.min len dLen ≤ len := Nat.min_le_left _ _
    have hle2 : Nat.min len dLen ≤ dLen := Nat.min_le_right _ _
    obtain rfl := hda (by omega)
    obtain ⟨x, o, rfl, hx, hc⟩ := hT.at_ (by omega)
    have hea : ∀ d ∈ es.take (Nat.min len dLen), Dg d := fun d hd => hT.each d (List.mem_of_mem_take hd)
    have hel : (es.take (Nat.min len dLen)).length = Nat.min len dLen := by rw [List.length_take, hT.length]; omega
    have hfl := flat_length (Dg.lens hea)
    rw [hel] at hfl
    generalize hm : Nat.min len dLen = m at *
    have hsrc : ∀ j v, ((es.take m).flatten.map (Value.int .u8))[j]? = some v → w.cell? ((⟨x, o, none⟩ : Addr).add j) = some v := fun j v hv => by
      have hj : j < m * 32 := by
        have := (List.getElem?_eq_some_iff.1 hv).1
        rw [List.length_map, hfl] at this
        exact this
      have hjm : j / 32 < m := by omega
      have hjk : j % 32 < 32 := by omega
      have hd2 := hc (j / 32) (by omega) (j % 32) v (by
        rw [List.getElem?_map]
        rw [List.getElem?_map, show j = j / 32 * 32 + j % 32 by omega, flat_at (Dg.lens hea) _ _ (by omega) hjk] at hv
        rw [show (es.take m).getD (j / 32) [] = es.getD (j / 32) [] by simp [List.getD_eq_getElem?_getD, hjm]] at hv
        exact hv)
      rw [Addr.add_mid, show o + j = o + j / 32 * 32 + j % 32 by omega]
      exact hd2
    have hl := run_loadCells_list (P := P) w ⟨x, o, none⟩ _ hsrc
    have hst := run_storeCells_cells (P := P) b (h * 32) ((es.take m).flatten.map (Value.int .u8)) 0 w (fun j hj => by
      rw [List.length_map, hfl] at hj
      rw [hk.cell, Array.getElem?_eq_getElem (by rw [dcs_size (Dg.lens hd)]; omega)]; rfl) (fun j _ => hk.free _) (fun v hv => by
      obtain ⟨y, _, rfl⟩ := List.mem_map.1 hv
      rfl)
    rw [List.length_map, hfl] at hl
    refine ⟨w.setCells b (h * 32) ((es.take m).flatten.map (Value.int .u8)), ?_, But.setCells _ _ _ (But.of (Below.refl _ _)), ?_⟩
    · have hmin : len.min dLen = m := hm
      generalize (es.take m).flatten.map (Value.int .u8) = cs at hl hst ⊢
      simp [Builtin.copy_, run_underlying hu, Builtin.lenOf, Builtin.firstCells, sizeOf, typeInfo, hq, hi, hmin, hl, hst, goInt]
    · have := hk.lay_digs hd hea (j := h) (by omega)
      rw [hel] at this
      exact this
end
theorem wpList_copy_digs {P : Program} {ops : Array Oper} {rest : List Oper} {op : Oper} {act : Act} {w : World} {Q : Exit → Act → World → Prop} (hgd : op.guard = none) (d s : Operand) (dT sT : TypeId)
    (ho : op.op = .call { callee := .builtin .copy, args := #[d, s], argTypes := #[dT, sT] }) (elem : TypeId) (hu : P.underlying dT = some (.slice elem)) (hs : (P.info? elem).map (·.size) = some 32)
    (b h dLen dCap : Nat) (da : Option Addr) (hd : act.eval d = .slice da dLen dCap) (hda : 0 < dLen → da = some ⟨b, h * 32, none⟩) (a : Option Addr) (len cap : Nat) (hse : act.eval s = .slice a len cap) (ds es : List (List Int)) (T : TypeId) (hk : Blk w b (dcs ds) T) (hds : ∀ d ∈ ds, Dg d) (hT : DigsAt w a len cap es) (hfit : h + dLen ≤ ds.length)
    (hn : ∀ w', But b w w' → Blk w' b (dcs (ds.take h ++ (es.take (Nat.min len dLen) ++ ds.drop (h + Nat.min len dLen)))) T → wpList P ops Q rest (act.put op.dst (.int .i64 (Nat.min len dLen : Nat))) w') : wpList P ops Q (op :: rest) act w :=
  wpList_plain hgd fun K hK => by
    obtain ⟨w', hr, h1, h2⟩ := run_copy_digs (P := P) w dT sT op.type elem hu hs hk hds h dLen dCap da hda hT hfit
    unfold Oper.wp execOp
    simp only [ho, resolve, invoke, builtin, Sem.run_bind, Sem.run_pure, Result.andThen_ok, List.map_toArray, List.map_cons, List.map_nil, hd, hse, hr, Oper.upon_value]
    exact hK _ _ (hn w' h1 h2)

theorem info_dig : (Tryd.prog.info? 23).map (fun i => (i.zero, i.size, i.bytes)) = some (some (.agg (zD.map (Value.int .u8)).toArray), 32, 32) := by kernel_rfl
theorem zD_rows (n : Nat) : madeCells (Value.agg (zD.map (Value.int .u8)).toArray).cells (n * 32) = (dcs (List.replicate n zD)) := by
  unfold dcs
  apply Array.ext'
  have hz : (List.replicate n zD).flatten = List.replicate (n * 32) 0 := by
    unfold zD
    rw [List.flatten_replicate_replicate]
  rw [hz]
  apply List.ext_getElem?
  intro j
  simp only [madeCells, Array.toList_map, Array.toList_range, List.map_replicate, List.getElem?_map, List.getElem?_replicate]
  rcases Nat.lt_or_ge j (n * 32) with hj | hj
  · rw [List.getElem?_range hj, if_pos hj]
    have hm : j % 32 < 32 := Nat.mod_lt _ (by omega)
    have hsz : (zD.map (Value.int .u8)).toArray.size = 32 := by rw [List.size_toArray, List.length_map, Dg.zero.len]
    have hc : (zD.map (Value.int .u8)).toArray[j % 32]! = Value.int .u8 0 := by
      rw [getElem!_pos _ _ (by rw [hsz]; exact hm)]
      simp only [zD, List.map_replicate, List.getElem_toArray, List.getElem_replicate]
    show some ((zD.map (Value.int .u8)).toArray[j % (zD.map (Value.int .u8)).toArray.size]!) = _
    rw [hsz, hc]
  · rw [List.getElem?_eq_none (by simpa using hj), if_neg (by omega)]
    rfl
/-- a row of digests is made -/
theorem make_digs (n : Nat) (i : Int) (hi : i = n) (hn : n ≤ 500000) (w0 : World) : (Instr.makeSlice 27 (.int .i64 i) (.int .i64 i)).run Tryd.prog w0 = .ok (.slice (some ⟨w0.heap.size, 0, none⟩) n n) (w0.alloc (.cells (dcs (List.replicate n zD)) 23)) := by
  subst hi
  obtain ⟨i0, hi, hz0, hz1, hz2⟩ := info_parts info_dig
  have hr := run_makeSlice (P := Tryd.prog) w0 27 23 i0 _ Tryd.underlying27 hi hz0 .i64 .i64 n n (by omega) (by omega) (by rw [hz1]; simp; omega) (by rw [hz2]; omega) (by omega)
  rw [hz1, Int.toNat_natCast, zD_rows] at hr
  exact hr
theorem zRow (n : Nat) : ∀ d ∈ List.replicate n zD, Dg d := fun d hd => by
  rw [List.eq_of_mem_replicate hd]; exact Dg.zero
theorem zD_cells32 : (Value.agg (zD.map (Value.int .u8)).toArray).cells.size = 32 := by
  show (zD.map (Value.int .u8)).toArray.size = 32
  rw [List.size_toArray, List.length_map, Dg.zero.len]
end Go.Proofs.YthaicocfbmpnmaaDoor

namespace Go.Proofs.YthaicocfbmpnmaaDoor
open Go.ChangeShapes Go.WideShapes Go.ChangeAt Go.RowKit

@[irreducible] def joinZ (a b pub ad : List Int) : List Int :=
  hZ (atZ pub (setAd ad (ad.getD 5 0) (ad.getD 6 0) 0)) (xorD a (atZ pub (setAd ad (ad.getD 5 0) (ad.getD 6 0) 1))) (xorD b (atZ pub (setAd ad (ad.getD 5 0) (ad.getD 6 0) 2)))
theorem Dg.join (a b pub ad : List Int) : Dg (joinZ a b pub ad) := by unfold joinZ; exact Dg.h _ _ _
end Go.Proofs.YthaicocfbmpnmaaDoor

namespace Go.Proofs.YthaicocfbmpnmaaDoor
open Go.ChangeShapes Go.WideShapes Go.ChangeAt Go.RowKit

theorem andNot_one : ∀ n : Fin 68, bits .andNot .i64 ((n.val : Nat) : Int) 1 = ((n.val - n.val % 2 : Nat) : Int) := by decide +kernel

/-- a digest is stored to a row -/
theorem wpList_store_dig {P : Program} {ops : Array Oper} {rest : List Oper} {op : Oper} {a : Act} {w : World} {Q : Exit → Act → World → Prop} (hgd : op.guard = none) (ty : TypeId) (x y : Operand) (ho : op.op = .store ty x y) (b j : Nat) (d : List Int) (hx : a.eval x = .pointer (some ⟨b, 0 + j * 32, none⟩)) (hy : a.eval y = .agg (d.map (Value.int .u8)).toArray)
    (ds : List (List Int)) (T : TypeId) (hk : Blk w b (dcs ds) T) (hds : ∀ d ∈ ds, Dg d) (hd : Dg d) (hj : j < ds.length) (hi : (P.info? ty).map (·.size) = some 32)
    (h : ∀ w', But b w w' → Blk w' b (dcs (ds.set j d)) T → wpList P ops Q rest (a.put op.dst undef) w') : wpList P ops Q (op :: rest) a w := by
  refine wpList_store_mid hgd ty x y ho b (0 + j * 32) (d.map (Value.int .u8)).toArray hx hy (fun k hk' => ⟨?_, hk.free _⟩) (by rw [hi, hd.size]) (ints_one _ _) ?_
  · rw [hd.size] at hk'
    rw [hk.cell, Array.getElem?_eq_getElem (by rw [dcs_size (Dg.lens hds)]; omega)]; rfl
  · rw [Nat.zero_add]
    exact h _ (But.setCells _ _ _ (But.of (Below.refl _ _))) (hk.set_dig hds hd hj)

def aboveZ (pub ad : List Int) (lev : Int) (ds : List (List Int)) : List (List Int) :=
  ((List.range (ds.length / 2)).map fun (i : Nat) => joinZ (ds.getD (2 * i) []) (ds.getD (2 * i + 1) []) pub (setAd ad lev i 0)) ++ ds.drop (ds.length - ds.length % 2)
theorem aboveZ_length (pub ad : List Int) (lev : Int) (ds : List (List Int)) : (aboveZ pub ad lev ds).length = (ds.length + 1) / 2 := by
  simp only [aboveZ, List.length_append, List.length_map, List.length_range, List.length_drop]
  omega
theorem aboveZ_each {pub ad : List Int} {lev : Int} {ds : List (List Int)} (h : ∀ d ∈ ds, Dg d) : ∀ d ∈ aboveZ pub ad lev ds, Dg d := fun d hd => by
  unfold aboveZ at hd
  rcases List.mem_append.1 hd with hd | hd
  · obtain ⟨i, _, rfl⟩ := List.mem_map.1 hd
    exact Dg.join _ _ _ _
  · exact h d (List.mem_of_mem_drop hd)
/-- the row, while it is filled -/
def fillZ (pub ad : List Int) (lev : Int) (ds : List (List Int)) (k : Nat) : List (List Int) :=
  ((List.range k).map fun (i : Nat) => joinZ (ds.getD (2 * i) []) (ds.getD (2 * i + 1) []) pub (setAd ad lev i 0)) ++ (List.replicate (ds.length / 2 - k) zD ++ ds.drop (ds.length - ds.length % 2))
theorem fillZ_length {pub ad : List Int} {lev : Int} {ds : List (List Int)} {k : Nat} (h : k ≤ ds.length / 2) : (fillZ pub ad lev ds k).length = (ds.length + 1) / 2 := by
  simp only [fillZ, List.length_append, List.length_map, List.length_range, List.length_drop, List.length_replicate]
  omega
theorem fillZ_each {pub ad : List Int} {lev : Int} {ds : List (List Int)} (h : ∀ d ∈ ds, Dg d) (k : Nat) : ∀ d ∈ fillZ pub ad lev ds k, Dg d := fun d hd => by
  unfold fillZ at hd
  rcases List.mem_append.1 hd with hd | hd
  · obtain ⟨i, _, rfl⟩ := List.mem_map.1 hd
    exact Dg.join _ _ _ _
  · rcases List.mem_append.1 hd with hd | hd
    · exact zRow _ d hd
    · exact h d (List.mem_of_mem_drop hd)
theorem fillZ_set {pub ad : List Int} {lev : Int} {ds : List (List Int)} {k : Nat} (h : k < ds.length / 2) : (fillZ pub ad lev ds k).set k (joinZ (ds.getD (2 * k) []) (ds.getD (2 * k + 1) []) pub (setAd ad lev k 0)) = fillZ pub ad lev ds (k + 1) := by
  unfold fillZ
  rw [List.set_append_right _ _ (by simp), show ds.length / 2 - k = (ds.length / 2 - (k + 1)) + 1 by omega, List.replicate_succ, List.range_succ, List.map_append]
  simp
theorem fillZ_zero (pub ad : List Int) (lev : Int) (ds : List (List Int)) : fillZ pub ad lev ds 0 = (List.replicate ((ds.length + 1) / 2) zD).take (ds.length / 2) ++ ((((ds.drop (ds.length - ds.length % 2)).take (ds.length % 2)).take (Nat.min (ds.length % 2) (ds.length % 2))) ++ (List.replicate ((ds.length + 1) / 2) zD).drop (ds.length / 2 + Nat.min (ds.length % 2) (ds.length % 2))) := by
  unfold fillZ
  have hm : Nat.min (ds.length % 2) (ds.length % 2) = ds.length % 2 := Nat.min_self _
  have hd : (ds.drop (ds.length - ds.length % 2)).length = ds.length % 2 := by rw [List.length_drop]; omega
  rw [hm, List.take_replicate, List.drop_replicate, List.take_take, List.take_of_length_le (by rw [hd]; omega), show (ds.length + 1) / 2 - (ds.length / 2 + ds.length % 2) = 0 by omega, show min (ds.length / 2) ((ds.length + 1) / 2) = ds.length / 2 by omega]
  simp
theorem fillZ_done (pub ad : List Int) (lev : Int) (ds : List (List Int)) : fillZ pub ad lev ds (ds.length / 2) = aboveZ pub ad lev ds := by
  unfold fillZ aboveZ
  simp

end Go.Proofs.YthaicocfbmpnmaaDoor

namespace Go.Proofs.YthaicocfbmpnmaaDoor
open Go.ChangeShapes Go.WideShapes Go.ChangeAt Go.RowKit

def compZ (pub ad : List Int) : Nat → Nat → List (List Int) → List Int
  | 0, _, ds => ds.getD 0 []
  | f + 1, lev, ds => if ds.length ≤ 1 then ds.getD 0 [] else compZ pub ad f (lev + 1) (aboveZ pub ad lev ds)
theorem compZ_one (pub ad : List Int) (f lev : Nat) {ds : List (List Int)} (h : ds.length ≤ 1) : compZ pub ad f lev ds = ds.getD 0 [] := by
  cases f with
  | zero => rfl
  | succ f => rw [compZ, if_pos h]
theorem compZ_more (pub ad : List Int) (f lev : Nat) {ds : List (List Int)} (h : 1 < ds.length) : compZ pub ad (f + 1) lev ds = compZ pub ad f (lev + 1) (aboveZ pub ad lev ds) := by
  rw [compZ, if_neg (by omega)]
theorem compZ_dg (pub ad : List Int) : ∀ (f lev : Nat) (ds : List (List Int)), (∀ d ∈ ds, Dg d) → 1 ≤ ds.length → ds.length ≤ f → Dg (compZ pub ad f lev ds)
  | 0, _, ds, h, h1, hf => by omega
  | f + 1, lev, ds, h, h1, hf => by
    by_cases hl : ds.length ≤ 1
    · rw [compZ_one _ _ _ _ hl]; exact Dg.getD h (by omega)
    · rw [compZ_more _ _ _ _ (by omega)]
      exact compZ_dg pub ad f (lev + 1) _ (aboveZ_each h) (by rw [aboveZ_length]; omega) (by rw [aboveZ_length]; omega)

end Go.Proofs.YthaicocfbmpnmaaDoor

namespace Go.Proofs.YthaicocfbmpnmaaDoor
open Go.ChangeShapes Go.WideShapes Go.ChangeAt Go.RowKit

theorem fold_set : ∀ (vs : List Value) (k off : Nat) (acc : Array Value), off + k + vs.length ≤ acc.size → ((vs.zipIdx k).foldl (fun cs (x : Value × Nat) => cs.setIfInBounds (off + x.2) x.1) acc).toList = splice acc.toList (off + k) vs
  | [], k, off, acc, h => by simp [splice]
  | v :: vs, k, off, acc, h => by
    simp only [List.length_cons] at h
    rw [List.zipIdx_cons, List.foldl_cons, fold_set vs (k + 1) off _ (by rw [Array.size_setIfInBounds]; omega)]
    unfold splice
    rw [Array.toList_setIfInBounds, show off + (k + 1) = (off + k) + 1 by omega, List.drop_set_of_lt (by omega), List.length_cons, show off + k + 1 + vs.length = off + k + (vs.length + 1) by omega]
    rw [List.take_succ_eq_append_getElem (by rw [List.length_set, Array.length_toList]; omega), List.take_set_of_le (Nat.le_refl _), List.getElem_set_self]
    simp

theorem fill_dig (cells : Array Value) (ds : List (List Int)) (hc : cells = dcs ds) (hds : ∀ d ∈ ds, Dg d) (x : List Int) (hx : Dg x) (j : Nat) (hj : j < ds.length) (rest : List (Nat × Value)) :
    Instr.fill (fun i => some (i * 32, 32)) cells ((j, .agg (x.map (Value.int .u8)).toArray) :: rest) = Instr.fill (fun i => some (i * 32, 32)) (dcs (ds.set j x)) rest := by
  subst hc
  have hs := dcs_size (Dg.lens hds)
  have hv : (Value.agg (x.map (Value.int .u8)).toArray).cells = (x.map (Value.int .u8)).toArray := rfl
  have hf := fold_set (x.map (Value.int .u8)) 0 (j * 32) (dcs ds) (by rw [List.length_map, hx.len, hs]; omega)
  have he : (((x.map (Value.int .u8)).zipIdx 0).foldl (fun cs (y : Value × Nat) => cs.setIfInBounds (j * 32 + y.2) y.1) (dcs ds)) = dcs (ds.set j x) := by
    apply Array.ext'
    rw [hf, Nat.add_zero]
    unfold dcs
    rw [← flat_set (Dg.lens hds) x hx.len j hj]
    unfold splice
    simp only [List.length_map, List.map_append, List.map_take, List.map_drop]
  rw [Instr.fill]
  simp only [hv, hx.size]
  rw [if_neg (by simp only [ne_eq, not_true_eq_false, decide_false, Bool.false_or, decide_eq_true_eq, hs]; omega)]
  congr 1
  have : ((x.map (Value.int .u8)).toArray).zipIdx = (((x.map (Value.int .u8)).zipIdx 0)).toArray := by simp
  rw [this, List.foldl_toArray']
  · exact he
  · simp

section
variable {P : Program}
set_option maxRecDepth 100000 in
/-- parts put in their places, one behind the other -/
theorem run_build_digs (n : Nat) (parts : List (Nat × Value)) (ds : List (List Int)) (hn : n ≤ 1000) (h0 : 0 < n) (h : Instr.fill (fun i => some (i * 32, 32)) (dcs (List.replicate n zD)) parts = some (dcs ds)) (w : World) :
    (Instr.buildSlice 27 n parts.toArray).run Tryd.prog w = .ok (.slice (some ⟨w.heap.size, 0, none⟩) n n) (w.alloc (.cells (dcs ds) 23 (0, 0))) := by
  obtain ⟨i, hi, _, hz1, _⟩ := info_parts info_dig
  have hm := zD_rows n
  unfold madeCells at hm
  unfold Instr.buildSlice
  have hne : ¬ (n * 32 = 0) := by omega
  have hle : ¬ (16777216 < n * 32) := by omega
  have hl : (zD.map (Value.int .u8)).toArray = #[Value.int .u8 0, Value.int .u8 0, Value.int .u8 0, Value.int .u8 0, Value.int .u8 0, Value.int .u8 0, Value.int .u8 0, Value.int .u8 0, Value.int .u8 0, Value.int .u8 0, Value.int .u8 0, Value.int .u8 0, Value.int .u8 0, Value.int .u8 0, Value.int .u8 0, Value.int .u8 0, Value.int .u8 0, Value.int .u8 0, Value.int .u8 0, Value.int .u8 0, Value.int .u8 0, Value.int .u8 0, Value.int .u8 0, Value.int .u8 0, Value.int .u8 0, Value.int .u8 0, Value.int .u8 0, Value.int .u8 0, Value.int .u8 0, Value.int .u8 0, Value.int .u8 0, Value.int .u8 0] := by kernel_rfl
  rw [hl] at hm
  simp [run_underlying Tryd.underlying27, sizeOf, typeInfo, hi, hz1, hne]
  rw [if_neg hle, hm, h]
  simp [newRow]
theorem dcs_one (x : List Int) : dcs [x] = (x.map (Value.int .u8)).toArray := by simp [dcs]
set_option maxRecDepth 100000 in
theorem run_build_one {x : List Int} (hx : Dg x) (w : World) : (Instr.buildSlice 27 1 #[(0, .agg (x.map (Value.int .u8)).toArray)]).run Tryd.prog w = .ok (.slice (some ⟨w.heap.size, 0, none⟩) 1 1) (w.alloc (.cells (x.map (Value.int .u8)).toArray 23 (0, 0))) := by
  have h := run_build_digs 1 [(0, .agg (x.map (Value.int .u8)).toArray)] [x] (by omega) (by omega) (by
    rw [fill_dig _ (List.replicate 1 zD) rfl (zRow 1) x hx 0 (by simp), show (List.replicate 1 zD).set 0 x = [x] from rfl, Instr.fill]) w
  rw [dcs_one] at h
  exact h
set_option maxRecDepth 100000 in
theorem run_build_three {x y z : List Int} (hx : Dg x) (hy : Dg y) (hz : Dg z) (w : World) : (Instr.buildSlice 27 3 #[(0, .agg (x.map (Value.int .u8)).toArray), (1, .agg (y.map (Value.int .u8)).toArray), (2, .agg (z.map (Value.int .u8)).toArray)]).run Tryd.prog w = .ok (.slice (some ⟨w.heap.size, 0, none⟩) 3 3) (w.alloc (.cells (dcs [x, y, z]) 23 (0, 0))) :=
  run_build_digs 3 [(0, .agg (x.map (Value.int .u8)).toArray), (1, .agg (y.map (Value.int .u8)).toArray), (2, .agg (z.map (Value.int .u8)).toArray)] [x, y, z] (by omega) (by omega) (by
    have h1 : ∀ d ∈ [x, zD, zD], Dg d := by simp [hx, Dg.zero]
    have h2 : ∀ d ∈ [x, y, zD], Dg d := by simp [hx, hy, Dg.zero]
    rw [fill_dig _ (List.replicate 3 zD) rfl (zRow 3) x hx 0 (by simp), show (List.replicate 3 zD).set 0 x = [x, zD, zD] from rfl]
    rw [fill_dig _ [x, zD, zD] rfl h1 y hy 1 (by simp), show [x, zD, zD].set 1 y = [x, y, zD] from rfl]
    rw [fill_dig _ [x, y, zD] rfl h2 z hz 2 (by simp), show [x, y, zD].set 2 z = [x, y, z] from rfl, Instr.fill]) w
set_option maxRecDepth 100000 in
theorem exec_build_one {o : Oper} {A : Act} {w : World} {e : Operand} (ho : o.op = .buildSlice 27 1 #[(0, e)]) {x : List Int} (he : A.eval e = .agg (x.map (Value.int .u8)).toArray) (hx : Dg x) :
    (execOp A.eval o).run Tryd.prog w = .ok (.value (.slice (some ⟨w.heap.size, 0, none⟩) 1 1)) (w.alloc (.cells (x.map (Value.int .u8)).toArray 23 (0, 0))) := by
  unfold execOp
  simp only [ho, List.map_toArray, List.map_cons, List.map_nil, he, Sem.run_bind, run_build_one hx, Result.andThen_ok, Sem.run_pure]
theorem wpList_build_one {ops : Array Oper} {rest : List Oper} {o : Oper} {A : Act} {w : World} {Q : Exit → Act → World → Prop} (hgd : o.guard = none) (e : Operand) (ho : o.op = .buildSlice 27 1 #[(0, e)]) {x : List Int} (he : A.eval e = .agg (x.map (Value.int .u8)).toArray) (hx : Dg x)
    (h : wpList Tryd.prog ops Q rest (A.put o.dst (.slice (some ⟨w.heap.size, 0, none⟩) 1 1)) (w.alloc (.cells (x.map (Value.int .u8)).toArray 23 (0, 0)))) : wpList Tryd.prog ops Q (o :: rest) A w :=
  wpList_plain hgd fun K hK => by
    unfold Oper.wp
    rw [exec_build_one ho he hx, Oper.upon_value]
    exact hK _ _ h
end
theorem guard_dig : Tryd.prog.eqGuardType Tryd.prog.depth 23 = false := by kernel_rfl
/-- two digests are compared, and the outcome is known -/
theorem quiet_cmp {op : Oper} {a : Act} {C : World → Prop} {K : Act → Prop} {bop : BinOp} {tr : TypeId} (x y : Operand) (ho : op.op = .binOp bop 23 x y tr) (xs ys : Array Value) (v : Value) (hx : a.eval x = .agg xs) (hy : a.eval y = .agg ys)
    (hr : ∀ W : World, (binOp bop 23 (.agg xs) (.agg ys)).run Tryd.prog W = .ok v W) (h : K (a.put op.dst v)) : op.quiet Tryd.prog a C K :=
  ⟨v, fun w' _ => by
    unfold Oper.quietAt execOp
    simp only [ho, hx, hy, Sem.run_bind, Sem.run_pure, Result.andThen_ok, run_eqGuard_agg w' bop 23 x y xs ys guard_dig, hr w']
    simp [Oper.quietUpon], h⟩
end Go.Proofs.YthaicocfbmpnmaaDoor

namespace Go.Proofs.YthaicocfbmpnmaaDoor
open Go.ChangeShapes Go.WideShapes Go.ChangeAt Go.RowKit

namespace FlowB
theorem ButIn.of_grown {w w' : World} {v : Value} (h : w.grownBy w' v.ownBlock) : ButIn v.ownBlock.toList w w' :=
  ⟨h.os, h.tape, h.output, h.size, fun k hk hc => h.block k hk (fun e => hc (by rw [← e]; simp))⟩
theorem st_butIn {S : List Nat} {w : World} (obj : Obj) (hS : ∀ g ∈ S, g < w.heap.size) : St (ButIn S) w obj := fun w1 w2 b _ h2 hb h => by
  rw [h2.block b (Array.getElem?_eq_some_iff.1 h).1 (fun e => by have := hS b e; omega)]
  exact h
theorem ButIn.range {S : List Nat} {w w' : World} {b o : Nat} {cs : List Value} (h : ButIn S w w') (hx : b < w.heap.size) (hb : b ∉ S) (k : w.rangeAt b o cs) : w'.rangeAt b o cs := fun i v hv => by
  rw [← k i v hv]
  unfold World.cell?
  rw [h.block b hx hb]
end FlowB
theorem own_low {w : World} {B b : Nat} {e : TypeId} {v : Value} {ds : List (List Int)} (h : OwnD w B e v ds) (hb : b < B) : b ∉ v.ownBlock.toList := fun hm => by
  have := (h.lt b (by simpa using hm)).1
  omega
theorem own_size {w : World} {B : Nat} {e : TypeId} {v : Value} {ds : List (List Int)} (h : OwnD w B e v ds) : ∀ g ∈ v.ownBlock.toList, g < w.heap.size := fun g hm => (h.lt g (by simpa using hm)).2
theorem own_from {w : World} {B : Nat} {e : TypeId} {v : Value} {ds : List (List Int)} (h : OwnD w B e v ds) : ∀ g ∈ v.ownBlock.toList, B ≤ g := fun g hm => (h.lt g (by simpa using hm)).1

end Go.Proofs.YthaicocfbmpnmaaDoor

namespace Go.Proofs.YthaicocfbmpnmaaDoor
open Go.ChangeShapes Go.WideShapes Go.ChangeAt Go.RowKit

def sD : List Int := 7 :: List.replicate 31 0
def zA : List Int := List.replicate 8 0
theorem Dg.seven : Dg sD := ⟨by simp [sD], fun x hx => by
  unfold sD at hx
  rcases List.mem_cons.1 hx with h | h
  · omega
  · have := List.eq_of_mem_replicate h; omega⟩
theorem Aw.zero : Aw zA := ⟨by simp [zA], fun x hx => by have := List.eq_of_mem_replicate hx; omega⟩
theorem dig_one {w : World} {g : Nat} {x : List Int} (hx : Dg x) (k : Blk w g (x.map (Value.int .u8)).toArray 23) : DigsAt w (some ⟨g, 0, none⟩) 1 1 [x] :=
  DigsAt.of_blk (T := 23) (by rw [dcs_one]; exact k) (by simpa using hx) rfl (Nat.le_refl _) (by omega)

end Go.Proofs.YthaicocfbmpnmaaDoor
