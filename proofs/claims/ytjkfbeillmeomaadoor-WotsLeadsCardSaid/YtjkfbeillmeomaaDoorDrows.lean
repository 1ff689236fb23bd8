/-
  Rows of digests, more: cut, copied, made; compared one by one.
-/
import Derived.Test.YtjkfbeillmeomaaDoorTwo
namespace Go.Proofs.YtjkfbeillmeomaaDoor
open Go.ChangeShapes Go.WideShapes Go.ChangeAt Go.RowKit

theorem flat_take {ds : List (List Int)} (h : ∀ d ∈ ds, d.length = 32) : ∀ (j : Nat), ds.flatten.take (j * 32) = (ds.take j).flatten := by
  induction ds with
  | nil => intro j; simp
  | cons d ds ih =>
    intro j
    have hd := h d (List.mem_cons_self ..)
    cases j with
    | zero => simp
    | succ j =>
      rw [List.flatten_cons, List.take_succ_cons, List.flatten_cons, List.take_append, hd, List.take_of_length_le (by omega), show (j + 1) * 32 - 32 = j * 32 by omega, ih fun x hx => h x (List.mem_cons_of_mem _ hx)]
theorem flat_drop {ds : List (List Int)} (h : ∀ d ∈ ds, d.length = 32) : ∀ (j : Nat), ds.flatten.drop (j * 32) = (ds.drop j).flatten := by
  induction ds with
  | nil => intro j; simp
  | cons d ds ih =>
    intro j
    have hd := h d (List.mem_cons_self ..)
    cases j with
    | zero => simp
    | succ j =>
      rw [List.flatten_cons, List.drop_succ_cons, List.drop_append, hd, List.drop_eq_nil_of_le (by omega), List.nil_append, show (j + 1) * 32 - 32 = j * 32 by omega, ih fun x hx => h x (List.mem_cons_of_mem _ hx)]

/-- digests are laid over a part of a row -/
theorem Blk.lay_digs {w : World} {g : Nat} {ds es : List (List Int)} {T : TypeId} (h : Blk w g (dcs ds) T) (hd : ∀ d ∈ ds, Dg d) (he : ∀ d ∈ es, Dg d) {j : Nat} (hj : j + es.length ≤ ds.length) :
    Blk (w.setCells g (j * 32) (es.flatten.map (Value.int .u8))) g (dcs (ds.take j ++ (es ++ ds.drop (j + es.length)))) T := by
  have hl := flat_length (Dg.lens hd)
  have hl2 := flat_length (Dg.lens he)
  unfold dcs at h ⊢
  have h0 : Blk w g (([] : List Value) ++ (ds.flatten.map (Value.int .u8) ++ [])).toArray T := by simpa using h
  have h1 := Blk.setCells [] (ds.flatten.map (Value.int .u8)) [] (j * 32) (es.flatten.map (Value.int .u8)) h0 (by simp only [List.length_map, hl, hl2]; omega)
  have e : (([] : List Value) ++ (splice (ds.flatten.map (Value.int .u8)) (j * 32) (es.flatten.map (Value.int .u8)) ++ [])) = (ds.take j ++ (es ++ ds.drop (j + es.length))).flatten.map (Value.int .u8) := by
    unfold splice
    rw [List.flatten_append, List.flatten_append, ← flat_take (Dg.lens hd) j, ← flat_drop (Dg.lens hd) (j + es.length)]
    rw [List.length_map, hl2, List.nil_append, List.append_nil, List.map_append, List.map_append, List.map_take, List.map_drop, show j * 32 + es.length * 32 = (j + es.length) * 32 by omega]
  rw [e] at h1
  simpa using h1

/-- where a part of a row of digests begins -/
def cutD (a : Option Addr) (l cap : Nat) : Option Addr := if cap = l then a else a.map (·.add (l * 32))
theorem cutD_zero (a : Option Addr) (cap : Nat) : cutD a 0 cap = a := by
  unfold cutD
  split
  · rfl
  · cases a with
    | none => rfl
    | some a => obtain ⟨x, o, s⟩ := a; cases s <;> simp [Addr.add]
theorem DigsAt.cut {w : World} {a : Option Addr} {len cap : Nat} {ds : List (List Int)} (h : DigsAt w a len cap ds) (l hi : Nat) (hl : l ≤ hi) (hh : hi ≤ len) : DigsAt w (cutD a l cap) (hi - l) (cap - l) ((ds.drop l).take (hi - l)) := by
  obtain ⟨h1, h2, h3, h4, h5⟩ := h
  refine ⟨by simp; omega, by omega, by omega, fun x hx => h4 x (List.mem_of_mem_drop (List.mem_of_mem_take hx)), ?_⟩
  unfold cutD
  rcases h5 with ⟨rfl, rfl, rfl⟩ | ⟨x, o, s, rfl, hc⟩
  · left
    refine ⟨by split <;> rfl, by omega, by omega⟩
  · right
    split
    · exact ⟨x, o, s, rfl, fun j hj => by omega⟩
    · rcases Nat.eq_or_lt_of_le hl with rfl | hlt
      · rcases s with _ | s
        · exact ⟨x, o + l * 32, none, by rw [Option.map_some, Addr.add_mid], fun j hj => by omega⟩
        · cases ha : (⟨x, o, some s⟩ : Addr).add (l * 32) with
          | mk x' o' s' => exact ⟨x', o', s', by simp [ha], fun j hj => by omega⟩
      · obtain ⟨rfl, hx, _⟩ := hc l (by omega)
        refine ⟨x, o + l * 32, none, by rw [Option.map_some, Addr.add_mid], fun j hj => ⟨rfl, hx, ?_⟩⟩
        rw [show o + l * 32 + j * 32 = o + (l + j) * 32 by omega]
        have := (hc (l + j) (by omega)).2.2
        rw [show ((ds.drop l).take (hi - l)).getD j [] = ds.getD (l + j) [] by simp [List.getD_eq_getElem?_getD, show j < hi - l by omega]]
        exact this
theorem DigsAt.head {w : World} {a : Option Addr} {len cap : Nat} {ds : List (List Int)} (h : DigsAt w a len cap ds) (hi : Nat) (hh : hi ≤ len) : DigsAt w a hi cap (ds.take hi) := by
  have := h.cut 0 hi (Nat.zero_le _) hh
  simpa [cutD_zero] using this

section
variable {P : Program} {t e : TypeId}
theorem run_cutd_lh (ht : P.underlying t = some (.slice e)) (hs : (P.info? e).map (·.size) = some 32) (a : Option Addr) (len cap : Nat) (l hi : Int) (w : World) (h0 : 0 ≤ l) (h1 : l ≤ hi) (h2 : hi ≤ cap) :
    (Instr.slice t (.slice a len cap) (some (.int .i64 l)) (some (.int .i64 hi)) none).run P w = .ok (.slice (cutD a l.toNat cap) (hi.toNat - l.toNat) (cap - l.toNat)) w := by
  have he : P.elem t = e := by simp [Program.elem, ht]
  rw [run_slice_lh (w := w) t a len cap (by rw [he]; exact ht) _ _ l hi h0 h1 h2]
  obtain ⟨i, hi1, hi2⟩ := Option.map_eq_some_iff.1 hs
  simp [sizeOf, typeInfo, he, hi1, hi2, sliced, cutD]
theorem run_cutd_h (ht : P.underlying t = some (.slice e)) (hs : (P.info? e).map (·.size) = some 32) (a : Option Addr) (len cap : Nat) (hi : Int) (w : World) (h0 : 0 ≤ hi) (h2 : hi ≤ cap) :
    (Instr.slice t (.slice a len cap) none (some (.int .i64 hi)) none).run P w = .ok (.slice a hi.toNat cap) w := by
  have he : P.elem t = e := by simp [Program.elem, ht]
  rw [run_slice_h (w := w) t a len cap (by rw [he]; exact ht) _ hi h0 h2]
  obtain ⟨i, hi1, hi2⟩ := Option.map_eq_some_iff.1 hs
  have := cutD_zero a cap
  unfold cutD at this
  simp only [Nat.zero_mul] at this
  simp [sizeOf, typeInfo, he, hi1, hi2, sliced, this]
theorem run_cutd_l (ht : P.underlying t = some (.slice e)) (hs : (P.info? e).map (·.size) = some 32) (a : Option Addr) (len cap : Nat) (l : Int) (w : World) (h0 : 0 ≤ l) (h1 : l ≤ len) :
    (Instr.slice t (.slice a len cap) (some (.int .i64 l)) none none).run P w = .ok (.slice (cutD a l.toNat cap) (len - l.toNat) (cap - l.toNat)) w := by
  have he : P.elem t = e := by simp [Program.elem, ht]
  rw [run_slice_l (w := w) t a len cap (by rw [he]; exact ht) _ l h0 h1]
  obtain ⟨i, hi1, hi2⟩ := Option.map_eq_some_iff.1 hs
  simp [sizeOf, typeInfo, he, hi1, hi2, sliced, cutD]

/-- copy, of digests -/
theorem run_copy_digs (w : World) (dT sT ty elem : TypeId) (hu : P.underlying dT = some (.slice elem)) (hs : (P.info? elem).map (·.size) = some 32) {b : Nat} {ds es : List (List Int)} {T : TypeId} (hk : Blk w b (dcs ds) T) (hd : ∀ d ∈ ds, Dg d) (h dLen dCap : Nat) (da : Option Addr) (hda : 0 < dLen → da = some ⟨b, h * 32, none⟩)
    {a : Option Addr} {len cap : Nat} (hT : DigsAt w a len cap es) (hfit : h + dLen ≤ ds.length) : ∃ w', (Builtin.copy_ #[dT, sT] ty #[.slice da dLen dCap, .slice a len cap]).run P w = .ok (.int .i64 (Nat.min len dLen : Nat)) w' ∧ But b w w' ∧
      Blk w' b (dcs (ds.take h ++ (es.take (Nat.min len dLen) ++ ds.drop (h + Nat.min len dLen)))) T := by
  obtain ⟨i, hq, hi⟩ := Option.map_eq_some_iff.1 hs
  rcases Nat.eq_zero_or_pos (Nat.min len dLen) with h0 | h0
  · refine ⟨w, ?_, But.of (Below.refl _ _), ?_⟩
    · have hl : ∀ (x : Addr), (loadCells x 0).run P w = .ok #[] w := fun x => by simpa using run_loadCells_list (P := P) w x [] (by simp)
      cases da <;> cases a <;> simp [Builtin.copy_, run_underlying hu, Builtin.lenOf, Builtin.firstCells, sizeOf, typeInfo, hq, h0, storeCells, hl, goInt]
    · rw [h0]
      simpa using hk
  · have hle : Nat.min len dLen ≤ len := Nat.min_le_left _ _
    have hle2 : Nat.min len dLen ≤ dLen := Nat.min_le_right _ _
    obtain rfl := hda (by omega)
    obtain ⟨x, o, rfl, hx, hc⟩ := hT.at_ (by omega)
    have hea : ∀ d ∈ es.take (Nat.min len dLen), Dg d := fun d hd => hT.each d (List.mem_of_mem_take hd)
    have hel : (es.take (Nat.min len dLen)).length = Nat.min len dLen := by rw [List.length_take, hT.length]; omega
    have hfl := flat_length (Dg.lens hea)
    rw [hel] at hfl
    generalize hm : Nat.min len dLen = m at *
    have hsrc : ∀ j v, ((es.take m).flatten.map (Value.int .u8))[j]? = some v → w.cell? ((⟨x, o, none⟩ : Addr).add j) = some v := fun j v hv => by
      have hj : j < m * 32 := by
        have := (List.getElem?_eq_some_iff.1 hv).1
        rw [List.length_map, hfl] at this
        exact this
      have hjm : j / 32 < m := by omega
      have hjk : j % 32 < 32 := by omega
      have hd2 := hc (j / 32) (by omega) (j % 32) v (by
        rw [List.getElem?_map]
        rw [List.getElem?_map, show j = j / 32 * 32 + j % 32 by omega, flat_at (Dg.lens hea) _ _ (by omega) hjk] at hv
        rw [show (es.take m).getD (j / 32) [] = es.getD (j / 32) [] by simp [List.getD_eq_getElem?_getD, hjm]] at hv
        exact hv)
      rw [Addr.add_mid, show o + j = o + j / 32 * 32 + j % 32 by omega]
      exact hd2
    have hl := run_loadCells_list (P := P) w ⟨x, o, none⟩ _ hsrc
    have hst := run_storeCells_cells (P := P) b (h * 32) ((es.take m).flatten.map (Value.int .u8)) 0 w (fun j hj => by
      rw [List.length_map, hfl] at hj
      rw [hk.cell, Array.getElem?_eq_getElem (by rw [dcs_size (Dg.lens hd)]; omega)]; rfl) (fun j _ => hk.free _) (fun v hv => by
      obtain ⟨y, _, rfl⟩ := List.mem_map.1 hv
      rfl)
    rw [List.length_map, hfl] at hl
    refine ⟨w.setCells b (h * 32) ((es.take m).flatten.map (Value.int .u8)), ?_, But.setCells _ _ _ (But.of (Below.refl _ _)), ?_⟩
    · have hmin : len.min dLen = m := hm
      generalize (es.take m).flatten.map (Value.int .u8) = cs at hl hst ⊢
      simp [Builtin.copy_, run_underlying hu, Builtin.lenOf, Builtin.firstCells, sizeOf, typeInfo, hq, hi, hmin, hl, hst, goInt]
    · have := hk.lay_digs hd hea (j := h) (by omega)
      rw [hel] at this
      exact this
end
theorem wpList_copy_digs {P : Program} {ops : Array Oper} {rest : List Oper} {op : Oper} {act : Act} {w : World} {Q : Exit → Act → World → Prop} (hgd : op.guard = none) (d s : Operand) (dT sT : TypeId)
    (ho : op.op = .call { callee := .builtin .copy, args := #[d, s], argTypes := #[dT, sT] }) (elem : TypeId) (hu : P.underlying dT = some (.slice elem)) (hs : (P.info? elem).map (·.size) = some 32)
    (b h dLen dCap : Nat) (da : Option Addr) (hd : act.eval d = .slice da dLen dCap) (hda : 0 < dLen → da = some ⟨b, h * 32, none⟩) (a : Option Addr) (len cap : Nat) (hse : act.eval s = .slice a len cap) (ds es : List (List Int)) (T : TypeId) (hk : Blk w b (dcs ds) T) (hds : ∀ d ∈ ds, Dg d) (hT : DigsAt w a len cap es) (hfit : h + dLen ≤ ds.length)
    (hn : ∀ w', But b w w' → Blk w' b (dcs (ds.take h ++ (es.take (Nat.min len dLen) ++ ds.drop (h + Nat.min len dLen)))) T → wpList P ops Q rest (act.put op.dst (.int .i64 (Nat.min len dLen : Nat))) w') : wpList P ops Q (op :: rest) act w :=
  wpList_plain hgd fun K hK => by
    obtain ⟨w', hr, h1, h2⟩ := run_copy_digs (P := P) w dT sT op.type elem hu hs hk hds h dLen dCap da hda hT hfit
    unfold Oper.wp execOp
    simp only [ho, resolve, invoke, builtin, Sem.run_bind, Sem.run_pure, Result.andThen_ok, List.map_toArray, List.map_cons, List.map_nil, hd, hse, hr, Oper.upon_value]
    exact hK _ _ (hn w' h1 h2)

theorem info_dig : (Tryd.prog.info? 23).map (fun i => (i.zero, i.size, i.bytes)) = some (some (.agg (zD.map (Value.int .u8)).toArray), 32, 32) := by kernel_rfl
theorem zD_rows (n : Nat) : madeCells (Value.agg (zD.map (Value.int .u8)).toArray).cells (n * 32) = (dcs (List.replicate n zD)) := by
  unfold dcs
  apply Array.ext'
  have hz : (List.replicate n zD).flatten = List.replicate (n * 32) 0 := by
    unfold zD
    rw [List.flatten_replicate_replicate]
  rw [hz]
  apply List.ext_getElem?
  intro j
  simp only [madeCells, Array.toList_map, Array.toList_range, List.map_replicate, List.getElem?_map, List.getElem?_replicate]
  rcases Nat.lt_or_ge j (n * 32) with hj | hj
  · rw [List.getElem?_range hj, if_pos hj]
    have hm : j % 32 < 32 := Nat.mod_lt _ (by omega)
    have hsz : (zD.map (Value.int .u8)).toArray.size = 32 := by rw [List.size_toArray, List.length_map, Dg.zero.len]
    have hc : (zD.map (Value.int .u8)).toArray[j % 32]! = Value.int .u8 0 := by
      rw [getElem!_pos _ _ (by rw [hsz]; exact hm)]
      simp only [zD, List.map_replicate, List.getElem_toArray, List.getElem_replicate]
    show some ((zD.map (Value.int .u8)).toArray[j % (zD.map (Value.int .u8)).toArray.size]!) = _
    rw [hsz, hc]
  · rw [List.getElem?_eq_none (by simpa using hj), if_neg (by omega)]
    rfl
/-- a row of digests is made -/
theorem make_digs (n : Nat) (i : Int) (hi : i = n) (hn : n ≤ 500000) (w0 : World) : (Instr.makeSlice 28 (.int .i64 i) (.int .i64 i)).run Tryd.prog w0 = .ok (.slice (some ⟨w0.heap.size, 0, none⟩) n n) (w0.alloc (.cells (dcs (List.replicate n zD)) 23)) := by
  subst hi
  obtain ⟨i0, hi, hz0, hz1, hz2⟩ := info_parts info_dig
  have hr := run_makeSlice (P := Tryd.prog) w0 28 23 i0 _ Tryd.underlying28 hi hz0 .i64 .i64 n n (by omega) (by omega) (by rw [hz1]; simp; omega) (by rw [hz2]; omega) (by omega)
  rw [hz1, Int.toNat_natCast, zD_rows] at hr
  exact hr
theorem zRow (n : Nat) : ∀ d ∈ List.replicate n zD, Dg d := fun d hd => by
  rw [List.eq_of_mem_replicate hd]; exact Dg.zero
theorem zD_cells32 : (Value.agg (zD.map (Value.int .u8)).toArray).cells.size = 32 := by
  show (zD.map (Value.int .u8)).toArray.size = 32
  rw [List.size_toArray, List.length_map, Dg.zero.len]
end Go.Proofs.YtjkfbeillmeomaaDoor
