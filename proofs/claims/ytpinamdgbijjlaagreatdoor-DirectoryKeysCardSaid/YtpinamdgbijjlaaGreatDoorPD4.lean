/-
  Put together, as far as wanted: JPLt JPClimb JPWots JPWotsK.
-/
import Derived.Test.YtpinamdgbijjlaaGreatDoorPD3
namespace Go.Proofs.YtpinamdgbijjlaaGreatDoor
set_option maxRecDepth 100000
open Go.ChangeShapes Go.WideShapes Go.ChangeAt Go.RowKit
/-- a text that a function hands back -/
def TextV (t : List Int) (v : Value) (w : World) : Prop := ∃ a n c, v = .slice a n c ∧ TextAt w a n c t
theorem TextV.of_own {w : World} {base : Nat} {e : TypeId} {v : Value} {bs : List Int} (h : OwnB w base e v bs) : TextV bs v w := by
  obtain ⟨a, c, h1, h2, _⟩ := h.text
  exact ⟨a, _, c, h1, h2⟩
namespace FlowB
end FlowB
end Go.Proofs.YtpinamdgbijjlaaGreatDoor
namespace Go.Proofs.YtpinamdgbijjlaaGreatDoor
set_option maxRecDepth 100000
open Go.ChangeShapes Go.WideShapes Go.ChangeAt Go.RowKit
theorem flat_take {ds : List (List Int)} (h : ∀ d ∈ ds, d.length = 32) : ∀ (j : Nat), ds.flatten.take (j * 32) = (ds.take j).flatten := by
  induction ds with
  | nil => intro j; simp
  | cons d ds ih =>
    intro j
    have hd := h d (List.mem_cons_self ..)
    cases j with
    | zero => simp
    | succ j =>
      rw [List.flatten_cons, List.take_succ_cons, List.flatten_cons, List.take_append, hd, List.take_of_length_le (by omega), show (j + 1) * 32 - 32 = j * 32 by omega, ih fun x hx => h x (List.mem_cons_of_mem _ hx)]
theorem flat_drop {ds : List (List Int)} (h : ∀ d ∈ ds, d.length = 32) : ∀ (j : Nat), ds.flatten.drop (j * 32) = (ds.drop j).flatten := by
  induction ds with
  | nil => intro j; simp
  | cons d ds ih =>
    intro j
    have hd := h d (List.mem_cons_self ..)
    cases j with
    | zero => simp
    | succ j =>
      rw [List.flatten_cons, List.drop_succ_cons, List.drop_append, hd, List.drop_eq_nil_of_le (by omega), List.nil_append, show (j + 1) * 32 - 32 = j * 32 by omega, ih fun x hx => h x (List.mem_cons_of_mem _ hx)]
/-- digests are laid over a part of a row -/
theorem Blk.lay_digs {w : World} {g : Nat} {ds es : List (List Int)} {T : TypeId} (h : Blk w g (dcs ds) T) (hd : ∀ d ∈ ds, Dg d) (he : ∀ d ∈ es, Dg d) {j : Nat} (hj : j + es.length ≤ ds.length) :
    Blk (w.setCells g (j * 32) (es.flatten.map (Value.int .u8))) g (dcs (ds.take j ++ (es ++ ds.drop (j + es.length)))) T := by
  have hl := flat_length (Dg.lens hd)
  have hl2 := flat_length (Dg.lens he)
  unfold dcs at h ⊢
  have h0 : Blk w g (([] : List Value) ++ (ds.flatten.map (Value.int .u8) ++ [])).toArray T := by simpa using h
  have h1 := Blk.setCells [] (ds.flatten.map (Value.int .u8)) [] (j * 32) (es.flatten.map (Value.int .u8)) h0 (by simp only [List.length_map, hl, hl2]; omega)
  have e : (([] : List Value) ++ (splice (ds.flatten.map (Value.int .u8)) (j * 32) (es.flatten.map (Value.int .u8)) ++ [])) = (ds.take j ++ (es ++ ds.drop (j + es.length))).flatten.map (Value.int .u8) := by
    unfold splice
    rw [List.flatten_append, List.flatten_append, ← flat_take (Dg.lens hd) j, ← flat_drop (Dg.lens hd) (j + es.length)]
    rw [List.length_map, hl2, List.nil_append, List.append_nil, List.map_append, List.map_append, List.map_take, List.map_drop, show j * 32 + es.length * 32 = (j + es.length) * 32 by omega]
  rw [e] at h1
  simpa using h1
/-- where a part of a row of digests begins -/
def cutD (a : Option Addr) (l cap : Nat) : Option Addr := if cap = l then a else a.map (·.add (l * 32))
theorem cutD_zero (a : Option Addr) (cap : Nat) : cutD a 0 cap = a := by
  unfold cutD
  split
  · rfl
  · cases a with
    | none => rfl
    | some a => obtain ⟨x, o, s⟩ := a; cases s <;> simp [Addr.add]
theorem DigsAt.cut {w : World} {a : Option Addr} {len cap : Nat} {ds : List (List Int)} (h : DigsAt w a len cap ds) (l hi : Nat) (hl : l ≤ hi) (hh : hi ≤ len) : DigsAt w (cutD a l cap) (hi - l) (cap - l) ((ds.drop l).take (hi - l)) := by
  obtain ⟨h1, h2, h3, h4, h5⟩ := h
  refine ⟨by simp; omega, by omega, by omega, fun x hx => h4 x (List.mem_of_mem_drop (List.mem_of_mem_take hx)), ?_⟩
  unfold cutD
  rcases h5 with ⟨rfl, rfl, rfl⟩ | ⟨x, o, s, rfl, hc⟩
  · left
    refine ⟨by split <;> rfl, by omega, by omega⟩
  · right
    split
    · exact ⟨x, o, s, rfl, fun j hj => by omega⟩
    · rcases Nat.eq_or_lt_of_le hl with rfl | hlt
      · rcases s with _ | s
        · exact ⟨x, o + l * 32, none, by rw [Option.map_some, Addr.add_mid], fun j hj => by omega⟩
        · cases ha : (⟨x, o, some s⟩ : Addr).add (l * 32) with
          | mk x' o' s' => exact ⟨x', o', s', by simp [ha], fun j hj => by omega⟩
      · obtain ⟨rfl, hx, _⟩ := hc l (by omega)
        refine ⟨x, o + l * 32, none, by rw [Option.map_some, Addr.add_mid], fun j hj => ⟨rfl, hx, ?_⟩⟩
        rw [show o + l * 32 + j * 32 = o + (l + j) * 32 by omega]
        have := (hc (l + j) (by omega)).2.2
        rw [show ((ds.drop l).take (hi - l)).getD j [] = ds.getD (l + j) [] by simp [List.getD_eq_getElem?_getD, show j < hi - l by omega]]
        exact this
section
variable {P : Program} {t e : TypeId}
theorem run_cutd_l (ht : P.underlying t = some (.slice e)) (hs : (P.info? e).map (·.size) = some 32) (a : Option Addr) (len cap : Nat) (l : Int) (w : World) (h0 : 0 ≤ l) (h1 : l ≤ len) :
    (Instr.slice t (.slice a len cap) (some (.int .i64 l)) none none).run P w = .ok (.slice (cutD a l.toNat cap) (len - l.toNat) (cap - l.toNat)) w := by
  have he : P.elem t = e := by simp [Program.elem, ht]
  rw [run_slice_l (w := w) t a len cap (by rw [he]; exact ht) _ l h0 h1]
  obtain ⟨i, hi1, hi2⟩ := Option.map_eq_some_iff.1 hs
  simp [sizeOf, typeInfo, he, hi1, hi2, sliced, cutD]
/-- copy, of digests -/
theorem run_copy_digs (w : World) (dT sT ty elem : TypeId) (hu : P.underlying dT = some (.slice elem)) (hs : (P.info? elem).map (·.size) = some 32) {b : Nat} {ds es : List (List Int)} {T : TypeId} (hk : Blk w b (dcs ds) T) (hd : ∀ d ∈ ds, Dg d) (h dLen dCap : Nat) (da : Option Addr) (hda : 0 < dLen → da = some ⟨b, h * 32, none⟩)
    {a : Option Addr} {len cap : Nat} (hT : DigsAt w a len cap es) (hfit : h + dLen ≤ ds.length) : ∃ w', (Builtin.copy_ #[dT, sT] ty #[.slice da dLen dCap, .slice a len cap]).run P w = .ok (.int .i64 (Nat.min len dLen : Nat)) w' ∧ But b w w' ∧
      Blk w' b (dcs (ds.take h ++ (es.take (Nat.min len dLen) ++ ds.drop (h + Nat.min len dLen)))) T := by
  obtain ⟨i, hq, hi⟩ := Option.map_eq_some_iff.1 hs
  rcases Nat.eq_zero_or_pos (Nat.min len dLen) with h0 | h0
  · refine ⟨w, ?_, But.of (Below.refl _ _), ?_⟩
    · have hl : ∀ (x : Addr), (loadCells x 0).run P w = .ok #[] w := fun x => by simpa using run_loadCells_list (P := P) w x [] (by simp)
      cases da <;> cases a <;> simp [Builtin.copy_, run_underlying hu, Builtin.lenOf, Builtin.firstCells, sizeOf, typeInfo, hq, h0, storeCells, hl, goInt]
    · rw [h0]
      simpa using hk
  · have hle : Nat.min len dLen ≤ len := Nat.min_le_left _ _
    have hle2 : Nat.min len dLen ≤ dLen := Nat.min_le_right _ _
    obtain rfl := hda (by omega)
    obtain ⟨x, o, rfl, hx, hc⟩ := hT.at_ (by omega)
    have hea : ∀ d ∈ es.take (Nat.min len dLen), Dg d := fun d hd => hT.each d (List.mem_of_mem_take hd)
    have hel : (es.take (Nat.min len dLen)).length = Nat.min len dLen := by rw [List.length_take, hT.length]; omega
    have hfl := flat_length (Dg.lens hea)
    rw [hel] at hfl
    generalize hm : Nat.min len dLen = m at *
    have hsrc : ∀ j v, ((es.take m).flatten.map (Value.int .u8))[j]? = some v → w.cell? ((⟨x, o, none⟩ : Addr).add j) = some v := fun j v hv => by
      have hj : j < m * 32 := by
        have := (List.getElem?_eq_some_iff.1 hv).1
        rw [List.length_map, hfl] at this
        exact this
      have hjm : j / 32 < m := by omega
      have hjk : j % 32 < 32 := by omega
      have hd2 := hc (j / 32) (by omega) (j % 32) v (by
        rw [List.getElem?_map]
        rw [List.getElem?_map, show j = j / 32 * 32 + j % 32 by omega, flat_at (Dg.lens hea) _ _ (by omega) hjk] at hv
        rw [show (es.take m).getD (j / 32) [] = es.getD (j / 32) [] by simp [List.getD_eq_getElem?_getD, hjm]] at hv
        exact hv)
      rw [Addr.add_mid, show o + j = o + j / 32 * 32 + j % 32 by omega]
      exact hd2
    have hl := run_loadCells_list (P := P) w ⟨x, o, none⟩ _ hsrc
    have hst := run_storeCells_cells (P := P) b (h * 32) ((es.take m).flatten.map (Value.int .u8)) 0 w (fun j hj => by
      rw [List.length_map, hfl] at hj
      rw [hk.cell, Array.getElem?_eq_getElem (by rw [dcs_size (Dg.lens hd)]; omega)]; rfl) (fun j _ => hk.free _) (fun v hv => by
      obtain ⟨y, _, rfl⟩ := List.mem_map.1 hv
      rfl)
    rw [List.length_map, hfl] at hl
    refine ⟨w.setCells b (h * 32) ((es.take m).flatten.map (Value.int .u8)), ?_, But.setCells _ _ _ (But.of (Below.refl _ _)), ?_⟩
    · have hmin : len.min dLen = m := hm
      generalize (es.take m).flatten.map (Value.int .u8) = cs at hl hst ⊢
      simp [Builtin.copy_, run_underlying hu, Builtin.lenOf, Builtin.firstCells, sizeOf, typeInfo, hq, hi, hmin, hl, hst, goInt]
    · have := hk.lay_digs hd hea (j := h) (by omega)
      rw [hel] at this
      exact this
end
theorem wpList_copy_digs {P : Program} {ops : Array Oper} {rest : List Oper} {op : Oper} {act : Act} {w : World} {Q : Exit → Act → World → Prop} (hgd : op.guard = none) (d s : Operand) (dT sT : TypeId)
    (ho : op.op = .call { callee := .builtin .copy, args := #[d, s], argTypes := #[dT, sT] }) (elem : TypeId) (hu : P.underlying dT = some (.slice elem)) (hs : (P.info? elem).map (·.size) = some 32)
    (b h dLen dCap : Nat) (da : Option Addr) (hd : act.eval d = .slice da dLen dCap) (hda : 0 < dLen → da = some ⟨b, h * 32, none⟩) (a : Option Addr) (len cap : Nat) (hse : act.eval s = .slice a len cap) (ds es : List (List Int)) (T : TypeId) (hk : Blk w b (dcs ds) T) (hds : ∀ d ∈ ds, Dg d) (hT : DigsAt w a len cap es) (hfit : h + dLen ≤ ds.length)
    (hn : ∀ w', But b w w' → Blk w' b (dcs (ds.take h ++ (es.take (Nat.min len dLen) ++ ds.drop (h + Nat.min len dLen)))) T → wpList P ops Q rest (act.put op.dst (.int .i64 (Nat.min len dLen : Nat))) w') : wpList P ops Q (op :: rest) act w :=
  wpList_plain hgd fun K hK => by
    obtain ⟨w', hr, h1, h2⟩ := run_copy_digs (P := P) w dT sT op.type elem hu hs hk hds h dLen dCap da hda hT hfit
    unfold Oper.wp execOp
    simp only [ho, resolve, invoke, builtin, Sem.run_bind, Sem.run_pure, Result.andThen_ok, List.map_toArray, List.map_cons, List.map_nil, hd, hse, hr, Oper.upon_value]
    exact hK _ _ (hn w' h1 h2)
theorem info_dig : (Tryz.prog.info? 25).map (fun i => (i.zero, i.size, i.bytes)) = some (some (.agg (zD.map (Value.int .u8)).toArray), 32, 32) := by kernel_rfl
theorem zD_rows (n : Nat) : madeCells (Value.agg (zD.map (Value.int .u8)).toArray).cells (n * 32) = (dcs (List.replicate n zD)) := by
  unfold dcs
  apply Array.ext'
  have hz : (List.replicate n zD).flatten = List.replicate (n * 32) 0 := by
    unfold zD
    rw [List.flatten_replicate_replicate]
  rw [hz]
  apply List.ext_getElem?
  intro j
  simp only [madeCells, Array.toList_map, Array.toList_range, List.map_replicate, List.getElem?_map, List.getElem?_replicate]
  rcases Nat.lt_or_ge j (n * 32) with hj | hj
  · rw [List.getElem?_range hj, if_pos hj]
    have hm : j % 32 < 32 := Nat.mod_lt _ (by omega)
    have hsz : (zD.map (Value.int .u8)).toArray.size = 32 := by rw [List.size_toArray, List.length_map, Dg.zero.len]
    have hc : (zD.map (Value.int .u8)).toArray[j % 32]! = Value.int .u8 0 := by
      rw [getElem!_pos _ _ (by rw [hsz]; exact hm)]
      simp only [zD, List.map_replicate, List.getElem_toArray, List.getElem_replicate]
    show some ((zD.map (Value.int .u8)).toArray[j % (zD.map (Value.int .u8)).toArray.size]!) = _
    rw [hsz, hc]
  · rw [List.getElem?_eq_none (by simpa using hj), if_neg (by omega)]
    rfl
/-- a row of digests is made -/
theorem make_digs (n : Nat) (i : Int) (hi : i = n) (hn : n ≤ 500000) (w0 : World) : (Instr.makeSlice 49 (.int .i64 i) (.int .i64 i)).run Tryz.prog w0 = .ok (.slice (some ⟨w0.heap.size, 0, none⟩) n n) (w0.alloc (.cells (dcs (List.replicate n zD)) 25)) := by
  subst hi
  obtain ⟨i0, hi, hz0, hz1, hz2⟩ := info_parts info_dig
  have hr := run_makeSlice (P := Tryz.prog) w0 49 25 i0 _ Tryz.underlying49 hi hz0 .i64 .i64 n n (by omega) (by omega) (by rw [hz1]; simp; omega) (by rw [hz2]; omega) (by omega)
  rw [hz1, Int.toNat_natCast, zD_rows] at hr
  exact hr
theorem zRow (n : Nat) : ∀ d ∈ List.replicate n zD, Dg d := fun d hd => by
  rw [List.eq_of_mem_replicate hd]; exact Dg.zero
theorem zD_cells32 : (Value.agg (zD.map (Value.int .u8)).toArray).cells.size = 32 := by
  show (zD.map (Value.int .u8)).toArray.size = 32
  rw [List.size_toArray, List.length_map, Dg.zero.len]
end Go.Proofs.YtpinamdgbijjlaaGreatDoor
namespace Go.Proofs.YtpinamdgbijjlaaGreatDoor
set_option maxRecDepth 100000
open Go.ChangeShapes Go.WideShapes Go.ChangeAt Go.RowKit
@[irreducible] def joinZ (a b pub ad : List Int) : List Int :=
  hZ (atZ pub (setAd ad (ad.getD 5 0) (ad.getD 6 0) 0)) (xorD a (atZ pub (setAd ad (ad.getD 5 0) (ad.getD 6 0) 1))) (xorD b (atZ pub (setAd ad (ad.getD 5 0) (ad.getD 6 0) 2)))
theorem Dg.join (a b pub ad : List Int) : Dg (joinZ a b pub ad) := by unfold joinZ; exact Dg.h _ _ _
theorem for_gen (ad : List Int) (q : Int) (w : World) (h : Aw ad) : Calls Tryz.prog 209 #[.agg (ad.map (Value.int .u32)).toArray, .int .u32 q] w fun e w' => e = .returned (.agg ((setAd ad (ad.getD 5 0) (ad.getD 6 0) q).map (Value.int .u32)).toArray) ∧ Below w.heap.size w w' := by
  obtain ⟨a0, a1, a2, a3, a4, a5, a6, a7, rfl⟩ := h.cases
  exact for_any a0 a1 a2 a3 a4 a5 a6 a7 q w
set_option maxHeartbeats 4000000 in
theorem ljoin_any (a b pub ad : List Int) (w : World) (ha : Dg a) (hb : Dg b) (hpub : Dg pub) (had : Aw ad) (tab : ShaTab w) :
    Calls Tryz.prog 186 #[(.agg (a.map (Value.int .u8)).toArray), (.agg (b.map (Value.int .u8)).toArray), (.agg (pub.map (Value.int .u8)).toArray), (.agg (ad.map (Value.int .u32)).toArray)] w fun e w' => e = .returned (.agg ((joinZ a b pub ad).map (Value.int .u8)).toArray) ∧ Below w.heap.size w w' := by
  have HM : Hid (joinZ a b pub ad = hZ (atZ pub (setAd ad (ad.getD 5 0) (ad.getD 6 0) 0)) (xorD a (atZ pub (setAd ad (ad.getD 5 0) (ad.getD 6 0) 1))) (xorD b (atZ pub (setAd ad (ad.getD 5 0) (ad.getD 6 0) 2)))) := hid (by unfold joinZ; rfl)
  have HD := hid (Dg.join a b pub ad)
  have CF := hid (fun (q : Int) (W : World) => for_gen ad q W had)
  have hf := had.get 5
  have hs := had.get 6
  have HA0 := hid (had.set hf hs (show (0 : Int) ≤ 0 ∧ (0 : Int) < 4294967296 by omega))
  have HA1 := hid (had.set hf hs (show (0 : Int) ≤ 1 ∧ (1 : Int) < 4294967296 by omega))
  have HA2 := hid (had.set hf hs (show (0 : Int) ≤ 2 ∧ (2 : Int) < 4294967296 by omega))
  have HQ0 := hid (Dg.at_ pub (setAd ad (ad.getD 5 0) (ad.getD 6 0) 0))
  have HQ1 := hid (Dg.at_ pub (setAd ad (ad.getD 5 0) (ad.getD 6 0) 1))
  have HQ2 := hid (Dg.at_ pub (setAd ad (ad.getD 5 0) (ad.getD 6 0) 2))
  clear hf hs
  generalize ad.getD 5 0 = f at *
  generalize ad.getD 6 0 = s at *
  have b1 := (Below.refl w.heap.size w).alloc (Nat.le_refl _) (.cells (a.map (Value.int .u8)).toArray 25 (0, 0))
  have b2 := b1.alloc b1.size (.cells (b.map (Value.int .u8)).toArray 25 (0, 0))
  have b3 := b2.alloc b2.size (.cells (pub.map (Value.int .u8)).toArray 25 (0, 0))
  have b4 := b3.alloc b3.size (.cells (ad.map (Value.int .u32)).toArray 216 (0, 0))
  have b5 := b4.alloc b4.size (.cells (byteCells 32 []) 25 (0, 0))
  have Ka := hid (((((Blk.new (w := w) (n := w.heap.size) rfl (a.map (Value.int .u8)).toArray 25).old (.cells (b.map (Value.int .u8)).toArray 25 (0, 0))).old (.cells (pub.map (Value.int .u8)).toArray 25 (0, 0))).old (.cells (ad.map (Value.int .u32)).toArray 216 (0, 0))).old (.cells (byteCells 32 []) 25 (0, 0)))
  have Kb := hid ((((Blk.new (w := (w.alloc (.cells (a.map (Value.int .u8)).toArray 25 (0, 0)))) (n := w.heap.size + 1) (by simp only [World.size_alloc]) (b.map (Value.int .u8)).toArray 25).old (.cells (pub.map (Value.int .u8)).toArray 25 (0, 0))).old (.cells (ad.map (Value.int .u32)).toArray 216 (0, 0))).old (.cells (byteCells 32 []) 25 (0, 0)))
  have Kp := hid (((Blk.new (w := ((w.alloc (.cells (a.map (Value.int .u8)).toArray 25 (0, 0))).alloc (.cells (b.map (Value.int .u8)).toArray 25 (0, 0)))) (n := w.heap.size + 1 + 1) (by simp only [World.size_alloc]) (pub.map (Value.int .u8)).toArray 25).old (.cells (ad.map (Value.int .u32)).toArray 216 (0, 0))).old (.cells (byteCells 32 []) 25 (0, 0)))
  have Kad := hid ((Blk.new (w := (((w.alloc (.cells (a.map (Value.int .u8)).toArray 25 (0, 0))).alloc (.cells (b.map (Value.int .u8)).toArray 25 (0, 0))).alloc (.cells (pub.map (Value.int .u8)).toArray 25 (0, 0)))) (n := w.heap.size + 1 + 1 + 1) (by simp only [World.size_alloc]) (ad.map (Value.int .u32)).toArray 216).old (.cells (byteCells 32 []) 25 (0, 0)))
  have Kr0 := hid (Blk.new (w := ((((w.alloc (.cells (a.map (Value.int .u8)).toArray 25 (0, 0))).alloc (.cells (b.map (Value.int .u8)).toArray 25 (0, 0))).alloc (.cells (pub.map (Value.int .u8)).toArray 25 (0, 0))).alloc (.cells (ad.map (Value.int .u32)).toArray 216 (0, 0)))) (n := w.heap.size + 1 + 1 + 1 + 1) (by simp only [World.size_alloc]) (byteCells 32 []) 25)
  have Hb := hid b5
  have HzA := hid zsize
  have hbz := b5.size
  have Hbs := hid (show w.heap.size + 1 + 1 + 1 + 1 + 1 = (((((w.alloc (.cells (a.map (Value.int .u8)).toArray 25 (0, 0))).alloc (.cells (b.map (Value.int .u8)).toArray 25 (0, 0))).alloc (.cells (pub.map (Value.int .u8)).toArray 25 (0, 0))).alloc (.cells (ad.map (Value.int .u32)).toArray 216 (0, 0))).alloc (.cells (byteCells 32 []) 25 (0, 0))).heap.size by simp only [World.size_alloc])
  have Htab := hid tab
  clear b1 b2 b3 b4 b5 tab
  go_enter Tryz.func186, Tryz.ntmps186
  go_wp2_with fail
  refine wp_region_flow 5 [0, 1, 2, 3] [4] [(.b 4, [], [])] (by kernel_rfl) (by kernel_rfl) ?_
  apply Exists.intro
  refine ⟨fun w0 hb0 hF0 => ?_, ?_⟩
  · skip
    have x0 : ∀ w', (∃ x : Ext w0, w' = x.at_) → ∃ T, Blk w' (w.heap.size + 1 + 1) (pub.map (Value.int .u8)).toArray T := fun w' ⟨x, hx⟩ => ⟨_, hx ▸ (Kp.out.below hb0).below x.same⟩
    have x1 : ∀ w', (∃ x : Ext w0, w' = x.at_) → ∃ T, Blk w' (w.heap.size + 1 + 1 + 1) (ad.map (Value.int .u32)).toArray T := fun w' ⟨x, hx⟩ => ⟨_, hx ▸ (Kad.out.below hb0).below x.same⟩
    have c0 := fun e : Ext w0 => CF.out 0 e.at_
    have c1 := fun e : Ext w0 => At_any pub (setAd ad f s 0) e.at_ hpub HA0.out ((Htab.out.below (Below.on Hb.out hb0)).below e.same)
    simp only [pick, List.getElem?_toArray, List.getElem?_cons_succ, List.getElem?_cons_zero, Option.toList_some, List.cons_append, List.nil_append]
    repeat (first | (go_big_quiet_want; refine quiet_load_blk 25 _ rfl (w.heap.size + 1 + 1) rfl _ x0 _ Tryz.underlying25 rfl 32 size_digest hpub.size ?_; go_big_quiet_on; simp only [Act.put, List.setIfInBounds_toArray, List.set_cons_zero, List.set_cons_succ]) | (go_big_quiet_want; refine quiet_load_blk 216 _ rfl (w.heap.size + 1 + 1 + 1) rfl _ x1 _ Tryz.underlying216 rfl 8 sizeAdrs had.size ?_; go_big_quiet_on; simp only [Act.put, List.setIfInBounds_toArray, List.set_cons_zero, List.set_cons_succ]) | go_big_quiet_step (first | (go_at_call 209; with_reducible exact Calls.ext (c0 _)) | (go_at_call 191; with_reducible exact Calls.ext (c1 _))))
    exact wpQuiet_nil rfl
  refine AlChk.one rfl (fun b => .pointer (some ⟨b, 0, none⟩)) (.cells (byteCells 32 []) 25 (0, 0)) rfl (fun w3 hb3 hF3 => by go_simp; rfl) ?_
  refine AlChk.nil ?_
  refine Walk.blk rfl (fun b => .pointer (some ⟨b, 0, none⟩)) (.cells (byteCells 32 []) 25 (0, 0)) (by simp) ?_
  intro bw1 wz hbz_ hFz hgew1 _
  apply Exists.intro
  refine ⟨fun w4 hb4 hF4 => wpQuiet_nil rfl, ?_⟩
  refine AlChk.nil ?_
  refine Walk.fin fun w1 hw1 hFw1 _ => ?_
  simp only [List.drop_succ_cons, List.drop_zero]
  have kbw1 : Blk w1 bw1 (byteCells 32 []) 25 := hFw1.2
  have Kzw1 := hid kbw1
  have hgww1 : w.heap.size ≤ bw1 := Nat.le_trans Hb.out.size hgew1
  clear hbz_ hFz hFw1 kbw1
  have hgsw1 : w.heap.size + 1 + 1 + 1 + 1 + 1 ≤ bw1 := by rw [Hbs.out]; exact hgew1
  have hnaw1 : w.heap.size ≠ bw1 := by omega
  have hnbw1 : w.heap.size + 1 ≠ bw1 := by omega
  have hnpw1 : w.heap.size + 1 + 1 ≠ bw1 := by omega
  have hnadw1 : w.heap.size + 1 + 1 + 1 ≠ bw1 := by omega
  have hnr0w1 : w.heap.size + 1 + 1 + 1 + 1 ≠ bw1 := by omega
  have HBw1 := hid (Below.on Hb.out hw1)
  have hsw1 := HBw1.out.size
  have Kaw1 := hid (Ka.out.below hw1)
  have Kbw1 := hid (Kb.out.below hw1)
  have Kpw1 := hid (Kp.out.below hw1)
  have Kadw1 := hid (Kad.out.below hw1)
  have Kr0w1 := hid (Kr0.out.below hw1)
  clear hw1
  generalize hQ0 : atZ pub (setAd ad f s 0) = Q0 at *
  go_wp2_with (
        refine wpList_store_blk rfl 25 _ _ rfl bw1 (Q0.map (Value.int .u8)).toArray rfl rfl _ 25 Kzw1.out 32 size_digest HzA.out HQ0.out.size (ints_one _ _) ?_
        intro w2 hbw2 hkw2
        have HBw2 := hid (hbw2.below HBw1.out HBw1.out.size hgww1)
        have hsw2 := HBw2.out.size
        have Kxw2 := hid hkw2
        have Kaw2 := hid (hbw2.blk Kaw1.out hnaw1)
        have Kbw2 := hid (hbw2.blk Kbw1.out hnbw1)
        have Kpw2 := hid (hbw2.blk Kpw1.out hnpw1)
        have Kadw2 := hid (hbw2.blk Kadw1.out hnadw1)
        have Kr0w2 := hid (hbw2.blk Kr0w1.out hnr0w1)
        clear hbw2 hkw2)
  simp only [Act.put, List.setIfInBounds_toArray, List.set_cons_zero, List.set_cons_succ]
  refine wp_region_flow 5 [0, 1, 2, 3] [4] [(.b 4, [], [])] (by kernel_rfl) (by kernel_rfl) ?_
  apply Exists.intro
  refine ⟨fun w0 hb0 hF0 => ?_, ?_⟩
  · skip
    have x0 : ∀ w', (∃ x : Ext w0, w' = x.at_) → ∃ T, Blk w' (w.heap.size + 1 + 1) (pub.map (Value.int .u8)).toArray T := fun w' ⟨x, hx⟩ => ⟨_, hx ▸ (Kpw2.out.below hb0).below x.same⟩
    have x1 : ∀ w', (∃ x : Ext w0, w' = x.at_) → ∃ T, Blk w' (w.heap.size + 1 + 1 + 1) (ad.map (Value.int .u32)).toArray T := fun w' ⟨x, hx⟩ => ⟨_, hx ▸ (Kadw2.out.below hb0).below x.same⟩
    have c0 := fun e : Ext w0 => CF.out 1 e.at_
    have c1 := fun e : Ext w0 => At_any pub (setAd ad f s 1) e.at_ hpub HA1.out ((Htab.out.below (Below.on HBw2.out hb0)).below e.same)
    simp only [pick, List.getElem?_toArray, List.getElem?_cons_succ, List.getElem?_cons_zero, Option.toList_some, List.cons_append, List.nil_append]
    repeat (first | (go_big_quiet_want; refine quiet_load_blk 25 _ rfl (w.heap.size + 1 + 1) rfl _ x0 _ Tryz.underlying25 rfl 32 size_digest hpub.size ?_; go_big_quiet_on; simp only [Act.put, List.setIfInBounds_toArray, List.set_cons_zero, List.set_cons_succ]) | (go_big_quiet_want; refine quiet_load_blk 216 _ rfl (w.heap.size + 1 + 1 + 1) rfl _ x1 _ Tryz.underlying216 rfl 8 sizeAdrs had.size ?_; go_big_quiet_on; simp only [Act.put, List.setIfInBounds_toArray, List.set_cons_zero, List.set_cons_succ]) | go_big_quiet_step (first | (go_at_call 209; with_reducible exact Calls.ext (c0 _)) | (go_at_call 191; with_reducible exact Calls.ext (c1 _))))
    exact wpQuiet_nil rfl
  refine AlChk.one rfl (fun b => .pointer (some ⟨b, 0, none⟩)) (.cells (byteCells 32 []) 25 (0, 0)) rfl (fun w3 hb3 hF3 => by go_simp; rfl) ?_
  refine AlChk.nil ?_
  refine Walk.blk rfl (fun b => .pointer (some ⟨b, 0, none⟩)) (.cells (byteCells 32 []) 25 (0, 0)) (by simp) ?_
  intro bw3 wz hbz_ hFz hgew3 _
  apply Exists.intro
  refine ⟨fun w4 hb4 hF4 => wpQuiet_nil rfl, ?_⟩
  refine AlChk.nil ?_
  refine Walk.fin fun w3 hw3 hFw3 _ => ?_
  simp only [List.drop_succ_cons, List.drop_zero]
  have kbw3 : Blk w3 bw3 (byteCells 32 []) 25 := hFw3.2
  have Kzw3 := hid kbw3
  have hgww3 : w.heap.size ≤ bw3 := Nat.le_trans HBw2.out.size hgew3
  clear hbz_ hFz hFw3 kbw3
  have hnaw3 : w.heap.size ≠ bw3 := by have := Kaw2.out.lt; omega
  have hnbw3 : w.heap.size + 1 ≠ bw3 := by have := Kbw2.out.lt; omega
  have hnpw3 : w.heap.size + 1 + 1 ≠ bw3 := by have := Kpw2.out.lt; omega
  have hnadw3 : w.heap.size + 1 + 1 + 1 ≠ bw3 := by have := Kadw2.out.lt; omega
  have hnr0w3 : w.heap.size + 1 + 1 + 1 + 1 ≠ bw3 := by have := Kr0w2.out.lt; omega
  have hnxw3 : bw1 ≠ bw3 := by have := Kxw2.out.lt; omega
  have HBw3 := hid (Below.on HBw2.out hw3)
  have hsw3 := HBw3.out.size
  have Kaw3 := hid (Kaw2.out.below hw3)
  have Kbw3 := hid (Kbw2.out.below hw3)
  have Kpw3 := hid (Kpw2.out.below hw3)
  have Kadw3 := hid (Kadw2.out.below hw3)
  have Kr0w3 := hid (Kr0w2.out.below hw3)
  have Kxw3 := hid (Kxw2.out.below hw3)
  clear hw3
  generalize hQ1 : atZ pub (setAd ad f s 1) = Q1 at *
  go_wp2_with (
        refine wpList_store_blk rfl 25 _ _ rfl bw3 (Q1.map (Value.int .u8)).toArray rfl rfl _ 25 Kzw3.out 32 size_digest HzA.out HQ1.out.size (ints_one _ _) ?_
        intro w4 hbw4 hkw4
        have HBw4 := hid (hbw4.below HBw3.out HBw3.out.size hgww3)
        have hsw4 := HBw4.out.size
        have Kyw4 := hid hkw4
        have Kaw4 := hid (hbw4.blk Kaw3.out hnaw3)
        have Kbw4 := hid (hbw4.blk Kbw3.out hnbw3)
        have Kpw4 := hid (hbw4.blk Kpw3.out hnpw3)
        have Kadw4 := hid (hbw4.blk Kadw3.out hnadw3)
        have Kr0w4 := hid (hbw4.blk Kr0w3.out hnr0w3)
        have Kxw4 := hid (hbw4.blk Kxw3.out hnxw3)
        clear hbw4 hkw4)
  simp only [Act.put, List.setIfInBounds_toArray, List.set_cons_zero, List.set_cons_succ]
  refine wp_region_flow 5 [0, 1, 2, 3] [4] [(.b 4, [], [])] (by kernel_rfl) (by kernel_rfl) ?_
  apply Exists.intro
  refine ⟨fun w0 hb0 hF0 => ?_, ?_⟩
  · skip
    have x0 : ∀ w', (∃ x : Ext w0, w' = x.at_) → ∃ T, Blk w' (w.heap.size + 1 + 1) (pub.map (Value.int .u8)).toArray T := fun w' ⟨x, hx⟩ => ⟨_, hx ▸ (Kpw4.out.below hb0).below x.same⟩
    have x1 : ∀ w', (∃ x : Ext w0, w' = x.at_) → ∃ T, Blk w' (w.heap.size + 1 + 1 + 1) (ad.map (Value.int .u32)).toArray T := fun w' ⟨x, hx⟩ => ⟨_, hx ▸ (Kadw4.out.below hb0).below x.same⟩
    have c0 := fun e : Ext w0 => CF.out 2 e.at_
    have c1 := fun e : Ext w0 => At_any pub (setAd ad f s 2) e.at_ hpub HA2.out ((Htab.out.below (Below.on HBw4.out hb0)).below e.same)
    simp only [pick, List.getElem?_toArray, List.getElem?_cons_succ, List.getElem?_cons_zero, Option.toList_some, List.cons_append, List.nil_append]
    repeat (first | (go_big_quiet_want; refine quiet_load_blk 25 _ rfl (w.heap.size + 1 + 1) rfl _ x0 _ Tryz.underlying25 rfl 32 size_digest hpub.size ?_; go_big_quiet_on; simp only [Act.put, List.setIfInBounds_toArray, List.set_cons_zero, List.set_cons_succ]) | (go_big_quiet_want; refine quiet_load_blk 216 _ rfl (w.heap.size + 1 + 1 + 1) rfl _ x1 _ Tryz.underlying216 rfl 8 sizeAdrs had.size ?_; go_big_quiet_on; simp only [Act.put, List.setIfInBounds_toArray, List.set_cons_zero, List.set_cons_succ]) | go_big_quiet_step (first | (go_at_call 209; with_reducible exact Calls.ext (c0 _)) | (go_at_call 191; with_reducible exact Calls.ext (c1 _))))
    exact wpQuiet_nil rfl
  refine AlChk.one rfl (fun b => .pointer (some ⟨b, 0, none⟩)) (.cells (byteCells 32 []) 25 (0, 0)) rfl (fun w3 hb3 hF3 => by go_simp; rfl) ?_
  refine AlChk.nil ?_
  refine Walk.blk rfl (fun b => .pointer (some ⟨b, 0, none⟩)) (.cells (byteCells 32 []) 25 (0, 0)) (by simp) ?_
  intro bw5 wz hbz_ hFz hgew5 _
  apply Exists.intro
  refine ⟨fun w4 hb4 hF4 => wpQuiet_nil rfl, ?_⟩
  refine AlChk.nil ?_
  refine Walk.fin fun w5 hw5 hFw5 _ => ?_
  simp only [List.drop_succ_cons, List.drop_zero]
  have kbw5 : Blk w5 bw5 (byteCells 32 []) 25 := hFw5.2
  have Kzw5 := hid kbw5
  have hgww5 : w.heap.size ≤ bw5 := Nat.le_trans HBw4.out.size hgew5
  clear hbz_ hFz hFw5 kbw5
  have hnaw5 : w.heap.size ≠ bw5 := by have := Kaw4.out.lt; omega
  have hnbw5 : w.heap.size + 1 ≠ bw5 := by have := Kbw4.out.lt; omega
  have hnpw5 : w.heap.size + 1 + 1 ≠ bw5 := by have := Kpw4.out.lt; omega
  have hnadw5 : w.heap.size + 1 + 1 + 1 ≠ bw5 := by have := Kadw4.out.lt; omega
  have hnr0w5 : w.heap.size + 1 + 1 + 1 + 1 ≠ bw5 := by have := Kr0w4.out.lt; omega
  have hnxw5 : bw1 ≠ bw5 := by have := Kxw4.out.lt; omega
  have hnyw5 : bw3 ≠ bw5 := by have := Kyw4.out.lt; omega
  have HBw5 := hid (Below.on HBw4.out hw5)
  have hsw5 := HBw5.out.size
  have Kaw5 := hid (Kaw4.out.below hw5)
  have Kbw5 := hid (Kbw4.out.below hw5)
  have Kpw5 := hid (Kpw4.out.below hw5)
  have Kadw5 := hid (Kadw4.out.below hw5)
  have Kr0w5 := hid (Kr0w4.out.below hw5)
  have Kxw5 := hid (Kxw4.out.below hw5)
  have Kyw5 := hid (Kyw4.out.below hw5)
  clear hw5
  generalize hQ2 : atZ pub (setAd ad f s 2) = Q2 at *
  go_wp2_with (
        refine wpList_store_blk rfl 25 _ _ rfl bw5 (Q2.map (Value.int .u8)).toArray rfl rfl _ 25 Kzw5.out 32 size_digest HzA.out HQ2.out.size (ints_one _ _) ?_
        intro w6 hbw6 hkw6
        have HBw6 := hid (hbw6.below HBw5.out HBw5.out.size hgww5)
        have hsw6 := HBw6.out.size
        have Kzw6 := hid hkw6
        have Kaw6 := hid (hbw6.blk Kaw5.out hnaw5)
        have Kbw6 := hid (hbw6.blk Kbw5.out hnbw5)
        have Kpw6 := hid (hbw6.blk Kpw5.out hnpw5)
        have Kadw6 := hid (hbw6.blk Kadw5.out hnadw5)
        have Kr0w6 := hid (hbw6.blk Kr0w5.out hnr0w5)
        have Kxw6 := hid (hbw6.blk Kxw5.out hnxw5)
        have Kyw6 := hid (hbw6.blk Kyw5.out hnyw5)
        clear hbw6 hkw6)
  simp only [Act.put, List.setIfInBounds_toArray, List.set_cons_zero, List.set_cons_succ]
  refine wp_region_flow 8 (List.range 8) [] [] (by kernel_rfl) (by kernel_rfl) ?_
  apply Exists.intro
  refine ⟨fun w0 hb0 hF0 => ?_, ?_⟩
  · skip
    have x0 : ∀ w', (∃ x : Ext w0, w' = x.at_) → ∃ T, Blk w' (bw1) (Q0.map (Value.int .u8)).toArray T := fun w' ⟨x, hx⟩ => ⟨_, hx ▸ (Kxw6.out.below hb0).below x.same⟩
    have x1 : ∀ w', (∃ x : Ext w0, w' = x.at_) → ∃ T, Blk w' (w.heap.size) (a.map (Value.int .u8)).toArray T := fun w' ⟨x, hx⟩ => ⟨_, hx ▸ (Kaw6.out.below hb0).below x.same⟩
    have x2 : ∀ w', (∃ x : Ext w0, w' = x.at_) → ∃ T, Blk w' (bw3) (Q1.map (Value.int .u8)).toArray T := fun w' ⟨x, hx⟩ => ⟨_, hx ▸ (Kyw6.out.below hb0).below x.same⟩
    have x3 : ∀ w', (∃ x : Ext w0, w' = x.at_) → ∃ T, Blk w' (w.heap.size + 1) (b.map (Value.int .u8)).toArray T := fun w' ⟨x, hx⟩ => ⟨_, hx ▸ (Kbw6.out.below hb0).below x.same⟩
    have x4 : ∀ w', (∃ x : Ext w0, w' = x.at_) → ∃ T, Blk w' (bw5) (Q2.map (Value.int .u8)).toArray T := fun w' ⟨x, hx⟩ => ⟨_, hx ▸ (Kzw6.out.below hb0).below x.same⟩
    have c0 := fun e : Ext w0 => Mask_any a Q1 e.at_ ha HQ1.out
    have c1 := fun e : Ext w0 => Mask_any b Q2 e.at_ hb HQ2.out
    have c2 := fun e : Ext w0 => H_any Q0 (xorD a Q1) (xorD b Q2) e.at_ HQ0.out (ha.xor HQ1.out) (hb.xor HQ2.out) ((Htab.out.below (Below.on HBw6.out hb0)).below e.same)
    rw [← HM.out] at c2
    simp only [pick, List.range, List.range.loop, List.getElem?_toArray, List.getElem?_cons_succ, List.getElem?_cons_zero, Option.toList_some, List.cons_append, List.nil_append]
    repeat (first | (go_big_quiet_want; refine quiet_load_blk 25 _ rfl (bw1) rfl _ x0 _ Tryz.underlying25 rfl 32 size_digest HQ0.out.size ?_; go_big_quiet_on; simp only [Act.put, List.setIfInBounds_toArray, List.set_cons_zero, List.set_cons_succ]) | (go_big_quiet_want; refine quiet_load_blk 25 _ rfl (w.heap.size) rfl _ x1 _ Tryz.underlying25 rfl 32 size_digest ha.size ?_; go_big_quiet_on; simp only [Act.put, List.setIfInBounds_toArray, List.set_cons_zero, List.set_cons_succ]) | (go_big_quiet_want; refine quiet_load_blk 25 _ rfl (bw3) rfl _ x2 _ Tryz.underlying25 rfl 32 size_digest HQ1.out.size ?_; go_big_quiet_on; simp only [Act.put, List.setIfInBounds_toArray, List.set_cons_zero, List.set_cons_succ]) | (go_big_quiet_want; refine quiet_load_blk 25 _ rfl (w.heap.size + 1) rfl _ x3 _ Tryz.underlying25 rfl 32 size_digest hb.size ?_; go_big_quiet_on; simp only [Act.put, List.setIfInBounds_toArray, List.set_cons_zero, List.set_cons_succ]) | (go_big_quiet_want; refine quiet_load_blk 25 _ rfl (bw5) rfl _ x4 _ Tryz.underlying25 rfl 32 size_digest HQ2.out.size ?_; go_big_quiet_on; simp only [Act.put, List.setIfInBounds_toArray, List.set_cons_zero, List.set_cons_succ]) | go_big_quiet_step (first | (go_at_call 211; with_reducible exact Calls.ext (c0 _)) | (go_at_call 211; with_reducible exact Calls.ext (c1 _)) | (go_at_call 210; with_reducible exact Calls.ext (c2 _))))
    exact wpQuiet_nil rfl
  refine AlChk.nil ?_
  refine Walk.fin fun w7 hw7 _ _ => ?_
  simp only [List.drop_succ_cons, List.drop_zero]
  have HBw7 := hid (Below.on HBw6.out hw7)
  have hsw7 := HBw7.out.size
  have Kaw7 := hid (Kaw6.out.below hw7)
  have Kbw7 := hid (Kbw6.out.below hw7)
  have Kpw7 := hid (Kpw6.out.below hw7)
  have Kadw7 := hid (Kadw6.out.below hw7)
  have Kr0w7 := hid (Kr0w6.out.below hw7)
  have Kxw7 := hid (Kxw6.out.below hw7)
  have Kyw7 := hid (Kyw6.out.below hw7)
  have Kzw7 := hid (Kzw6.out.below hw7)
  clear hw7
  generalize hR : joinZ a b pub ad = R at *
  go_wp2_with (refine wpList_store_blk rfl 25 _ _ rfl (w.heap.size + 1 + 1 + 1 + 1) _ rfl rfl _ 25 Kr0w7.out 32 size_digest HzA.out HD.out.size (ints_one _ _) ?_; intro wr hbutr hkr)
  exact bodyPost_ret (v := (.agg (R.map (Value.int .u8)).toArray)) (results_blk Tryz.results186 _ (w.heap.size + 1 + 1 + 1 + 1) rfl _ 25 hkr _ Tryz.underlying25 rfl 32 size_digest HD.out.size) rfl ⟨by rw [hR], hbutr.below HBw7.out HBw7.out.size (by omega)⟩
set_option maxHeartbeats 4000000 in
theorem refjoin_any (a b pub ad : List Int) (w : World) (ha : Dg a) (hb : Dg b) (hpub : Dg pub) (had : Aw ad) :
    Calls Tryz.prog 165 #[(.agg (a.map (Value.int .u8)).toArray), (.agg (b.map (Value.int .u8)).toArray), (.agg (pub.map (Value.int .u8)).toArray), (.agg (ad.map (Value.int .u32)).toArray)] w fun e w' => e = .returned (.agg ((joinZ a b pub ad).map (Value.int .u8)).toArray) ∧ Below w.heap.size w w' := by
  have HM : Hid (joinZ a b pub ad = hZ (atZ pub (setAd ad (ad.getD 5 0) (ad.getD 6 0) 0)) (xorD a (atZ pub (setAd ad (ad.getD 5 0) (ad.getD 6 0) 1))) (xorD b (atZ pub (setAd ad (ad.getD 5 0) (ad.getD 6 0) 2)))) := hid (by unfold joinZ; rfl)
  have HD := hid (Dg.join a b pub ad)
  have CF := hid (fun (q : Int) (W : World) => refat_list ad (ad.getD 5 0) (ad.getD 6 0) q W had)
  have hc5 : ∀ W : World, Blk W (w.heap.size + 1 + 1 + 1) (ad.map (Value.int .u32)).toArray 216 → W.cell? ⟨w.heap.size + 1 + 1 + 1, 5, none⟩ = some (.int .u32 (ad.getD 5 0)) := fun W k => by
    rw [k.cell]
    have := had.len
    simp [List.getD_eq_getElem?_getD, show 5 < ad.length by omega]
  have Hc5 := hid hc5
  have hc6 : ∀ W : World, Blk W (w.heap.size + 1 + 1 + 1) (ad.map (Value.int .u32)).toArray 216 → W.cell? ⟨w.heap.size + 1 + 1 + 1, 6, none⟩ = some (.int .u32 (ad.getD 6 0)) := fun W k => by
    rw [k.cell]
    have := had.len
    simp [List.getD_eq_getElem?_getD, show 6 < ad.length by omega]
  have Hc6 := hid hc6
  clear hc5 hc6
  have hf := had.get 5
  have hs := had.get 6
  have HA0 := hid (had.set hf hs (show (0 : Int) ≤ 0 ∧ (0 : Int) < 4294967296 by omega))
  have HA1 := hid (had.set hf hs (show (0 : Int) ≤ 1 ∧ (1 : Int) < 4294967296 by omega))
  have HA2 := hid (had.set hf hs (show (0 : Int) ≤ 2 ∧ (2 : Int) < 4294967296 by omega))
  have HQ0 := hid (Dg.at_ pub (setAd ad (ad.getD 5 0) (ad.getD 6 0) 0))
  have HQ1 := hid (Dg.at_ pub (setAd ad (ad.getD 5 0) (ad.getD 6 0) 1))
  have HQ2 := hid (Dg.at_ pub (setAd ad (ad.getD 5 0) (ad.getD 6 0) 2))
  clear hf hs
  generalize ad.getD 5 0 = f at *
  generalize ad.getD 6 0 = s at *
  have b1 := (Below.refl w.heap.size w).alloc (Nat.le_refl _) (.cells (a.map (Value.int .u8)).toArray 25 (0, 0))
  have b2 := b1.alloc b1.size (.cells (b.map (Value.int .u8)).toArray 25 (0, 0))
  have b3 := b2.alloc b2.size (.cells (pub.map (Value.int .u8)).toArray 25 (0, 0))
  have b4 := b3.alloc b3.size (.cells (ad.map (Value.int .u32)).toArray 216 (0, 0))
  have b5 := b4.alloc b4.size (.cells (byteCells 32 []) 25 (0, 0))
  have Ka := hid (((((Blk.new (w := w) (n := w.heap.size) rfl (a.map (Value.int .u8)).toArray 25).old (.cells (b.map (Value.int .u8)).toArray 25 (0, 0))).old (.cells (pub.map (Value.int .u8)).toArray 25 (0, 0))).old (.cells (ad.map (Value.int .u32)).toArray 216 (0, 0))).old (.cells (byteCells 32 []) 25 (0, 0)))
  have Kb := hid ((((Blk.new (w := (w.alloc (.cells (a.map (Value.int .u8)).toArray 25 (0, 0)))) (n := w.heap.size + 1) (by simp only [World.size_alloc]) (b.map (Value.int .u8)).toArray 25).old (.cells (pub.map (Value.int .u8)).toArray 25 (0, 0))).old (.cells (ad.map (Value.int .u32)).toArray 216 (0, 0))).old (.cells (byteCells 32 []) 25 (0, 0)))
  have Kp := hid (((Blk.new (w := ((w.alloc (.cells (a.map (Value.int .u8)).toArray 25 (0, 0))).alloc (.cells (b.map (Value.int .u8)).toArray 25 (0, 0)))) (n := w.heap.size + 1 + 1) (by simp only [World.size_alloc]) (pub.map (Value.int .u8)).toArray 25).old (.cells (ad.map (Value.int .u32)).toArray 216 (0, 0))).old (.cells (byteCells 32 []) 25 (0, 0)))
  have Kad := hid ((Blk.new (w := (((w.alloc (.cells (a.map (Value.int .u8)).toArray 25 (0, 0))).alloc (.cells (b.map (Value.int .u8)).toArray 25 (0, 0))).alloc (.cells (pub.map (Value.int .u8)).toArray 25 (0, 0)))) (n := w.heap.size + 1 + 1 + 1) (by simp only [World.size_alloc]) (ad.map (Value.int .u32)).toArray 216).old (.cells (byteCells 32 []) 25 (0, 0)))
  have Kr0 := hid (Blk.new (w := ((((w.alloc (.cells (a.map (Value.int .u8)).toArray 25 (0, 0))).alloc (.cells (b.map (Value.int .u8)).toArray 25 (0, 0))).alloc (.cells (pub.map (Value.int .u8)).toArray 25 (0, 0))).alloc (.cells (ad.map (Value.int .u32)).toArray 216 (0, 0)))) (n := w.heap.size + 1 + 1 + 1 + 1) (by simp only [World.size_alloc]) (byteCells 32 []) 25)
  have Hb := hid b5
  have HzA := hid zsize
  have hbz := b5.size
  have Hbs := hid (show w.heap.size + 1 + 1 + 1 + 1 + 1 = (((((w.alloc (.cells (a.map (Value.int .u8)).toArray 25 (0, 0))).alloc (.cells (b.map (Value.int .u8)).toArray 25 (0, 0))).alloc (.cells (pub.map (Value.int .u8)).toArray 25 (0, 0))).alloc (.cells (ad.map (Value.int .u32)).toArray 216 (0, 0))).alloc (.cells (byteCells 32 []) 25 (0, 0))).heap.size by simp only [World.size_alloc])
  clear b1 b2 b3 b4 b5
  go_enter Tryz.func165, Tryz.ntmps165
  go_wp2_with fail
  refine wp_region_flow 9 [0, 1, 2, 3, 4, 5, 6, 7] [8] [(.b 8, [], [])] (by kernel_rfl) (by kernel_rfl) ?_
  apply Exists.intro
  refine ⟨fun w0 hb0 hF0 => ?_, ?_⟩
  · skip
    have x0 : ∀ w', (∃ x : Ext w0, w' = x.at_) → ∃ T, Blk w' (w.heap.size + 1 + 1) (pub.map (Value.int .u8)).toArray T := fun w' ⟨x, hx⟩ => ⟨_, hx ▸ (Kp.out.below hb0).below x.same⟩
    have x1 : ∀ w', (∃ x : Ext w0, w' = x.at_) → ∃ T, Blk w' (w.heap.size + 1 + 1 + 1) (ad.map (Value.int .u32)).toArray T := fun w' ⟨x, hx⟩ => ⟨_, hx ▸ (Kad.out.below hb0).below x.same⟩
    have c0 := fun e : Ext w0 => CF.out 0 e.at_
    have c1 := fun e : Ext w0 => refAt_any pub (setAd ad f s 0) e.at_ hpub HA0.out
    have c5 : ∀ e : Ext w0, e.at_.cell? ⟨w.heap.size + 1 + 1 + 1, 5, none⟩ = some (.int .u32 f) := fun e => Hc5.out _ ((Kad.out.below hb0).below e.same)
    have c6 : ∀ e : Ext w0, e.at_.cell? ⟨w.heap.size + 1 + 1 + 1, 6, none⟩ = some (.int .u32 s) := fun e => Hc6.out _ ((Kad.out.below hb0).below e.same)
    simp only [pick, List.getElem?_toArray, List.getElem?_cons_succ, List.getElem?_cons_zero, Option.toList_some, List.cons_append, List.nil_append]
    repeat (first | (go_big_quiet_want; refine quiet_load_blk 25 _ rfl (w.heap.size + 1 + 1) rfl _ x0 _ Tryz.underlying25 rfl 32 size_digest hpub.size ?_; go_big_quiet_on; simp only [Act.put, List.setIfInBounds_toArray, List.set_cons_zero, List.set_cons_succ]) | (go_big_quiet_want; refine quiet_load_blk 216 _ rfl (w.heap.size + 1 + 1 + 1) rfl _ x1 _ Tryz.underlying216 rfl 8 sizeAdrs had.size ?_; go_big_quiet_on; simp only [Act.put, List.setIfInBounds_toArray, List.set_cons_zero, List.set_cons_succ]) | go_big_quiet_step (first | (go_at_call 166; with_reducible exact Calls.ext (c0 _)) | (go_at_call 197; with_reducible exact Calls.ext (c1 _))))
    exact wpQuiet_nil rfl
  refine AlChk.one rfl (fun b => .pointer (some ⟨b, 0, none⟩)) (.cells (byteCells 32 []) 25 (0, 0)) rfl (fun w3 hb3 hF3 => by go_simp; rfl) ?_
  refine AlChk.nil ?_
  refine Walk.blk rfl (fun b => .pointer (some ⟨b, 0, none⟩)) (.cells (byteCells 32 []) 25 (0, 0)) (by simp) ?_
  intro bw1 wz hbz_ hFz hgew1 _
  apply Exists.intro
  refine ⟨fun w4 hb4 hF4 => wpQuiet_nil rfl, ?_⟩
  refine AlChk.nil ?_
  refine Walk.fin fun w1 hw1 hFw1 _ => ?_
  simp only [List.drop_succ_cons, List.drop_zero]
  have kbw1 : Blk w1 bw1 (byteCells 32 []) 25 := hFw1.2
  have Kzw1 := hid kbw1
  have hgww1 : w.heap.size ≤ bw1 := Nat.le_trans Hb.out.size hgew1
  clear hbz_ hFz hFw1 kbw1
  have hgsw1 : w.heap.size + 1 + 1 + 1 + 1 + 1 ≤ bw1 := by rw [Hbs.out]; exact hgew1
  have hnaw1 : w.heap.size ≠ bw1 := by omega
  have hnbw1 : w.heap.size + 1 ≠ bw1 := by omega
  have hnpw1 : w.heap.size + 1 + 1 ≠ bw1 := by omega
  have hnadw1 : w.heap.size + 1 + 1 + 1 ≠ bw1 := by omega
  have hnr0w1 : w.heap.size + 1 + 1 + 1 + 1 ≠ bw1 := by omega
  have HBw1 := hid (Below.on Hb.out hw1)
  have hsw1 := HBw1.out.size
  have Kaw1 := hid (Ka.out.below hw1)
  have Kbw1 := hid (Kb.out.below hw1)
  have Kpw1 := hid (Kp.out.below hw1)
  have Kadw1 := hid (Kad.out.below hw1)
  have Kr0w1 := hid (Kr0.out.below hw1)
  clear hw1
  generalize hQ0 : atZ pub (setAd ad f s 0) = Q0 at *
  go_wp2_with (
        refine wpList_store_blk rfl 25 _ _ rfl bw1 (Q0.map (Value.int .u8)).toArray rfl rfl _ 25 Kzw1.out 32 size_digest HzA.out HQ0.out.size (ints_one _ _) ?_
        intro w2 hbw2 hkw2
        have HBw2 := hid (hbw2.below HBw1.out HBw1.out.size hgww1)
        have hsw2 := HBw2.out.size
        have Kxw2 := hid hkw2
        have Kaw2 := hid (hbw2.blk Kaw1.out hnaw1)
        have Kbw2 := hid (hbw2.blk Kbw1.out hnbw1)
        have Kpw2 := hid (hbw2.blk Kpw1.out hnpw1)
        have Kadw2 := hid (hbw2.blk Kadw1.out hnadw1)
        have Kr0w2 := hid (hbw2.blk Kr0w1.out hnr0w1)
        clear hbw2 hkw2)
  simp only [Act.put, List.setIfInBounds_toArray, List.set_cons_zero, List.set_cons_succ]
  refine wp_region_flow 9 [0, 1, 2, 3, 4, 5, 6, 7] [8] [(.b 8, [], [])] (by kernel_rfl) (by kernel_rfl) ?_
  apply Exists.intro
  refine ⟨fun w0 hb0 hF0 => ?_, ?_⟩
  · skip
    have x0 : ∀ w', (∃ x : Ext w0, w' = x.at_) → ∃ T, Blk w' (w.heap.size + 1 + 1) (pub.map (Value.int .u8)).toArray T := fun w' ⟨x, hx⟩ => ⟨_, hx ▸ (Kpw2.out.below hb0).below x.same⟩
    have x1 : ∀ w', (∃ x : Ext w0, w' = x.at_) → ∃ T, Blk w' (w.heap.size + 1 + 1 + 1) (ad.map (Value.int .u32)).toArray T := fun w' ⟨x, hx⟩ => ⟨_, hx ▸ (Kadw2.out.below hb0).below x.same⟩
    have c0 := fun e : Ext w0 => CF.out 1 e.at_
    have c1 := fun e : Ext w0 => refAt_any pub (setAd ad f s 1) e.at_ hpub HA1.out
    have c5 : ∀ e : Ext w0, e.at_.cell? ⟨w.heap.size + 1 + 1 + 1, 5, none⟩ = some (.int .u32 f) := fun e => Hc5.out _ ((Kadw2.out.below hb0).below e.same)
    have c6 : ∀ e : Ext w0, e.at_.cell? ⟨w.heap.size + 1 + 1 + 1, 6, none⟩ = some (.int .u32 s) := fun e => Hc6.out _ ((Kadw2.out.below hb0).below e.same)
    simp only [pick, List.getElem?_toArray, List.getElem?_cons_succ, List.getElem?_cons_zero, Option.toList_some, List.cons_append, List.nil_append]
    repeat (first | (go_big_quiet_want; refine quiet_load_blk 25 _ rfl (w.heap.size + 1 + 1) rfl _ x0 _ Tryz.underlying25 rfl 32 size_digest hpub.size ?_; go_big_quiet_on; simp only [Act.put, List.setIfInBounds_toArray, List.set_cons_zero, List.set_cons_succ]) | (go_big_quiet_want; refine quiet_load_blk 216 _ rfl (w.heap.size + 1 + 1 + 1) rfl _ x1 _ Tryz.underlying216 rfl 8 sizeAdrs had.size ?_; go_big_quiet_on; simp only [Act.put, List.setIfInBounds_toArray, List.set_cons_zero, List.set_cons_succ]) | go_big_quiet_step (first | (go_at_call 166; with_reducible exact Calls.ext (c0 _)) | (go_at_call 197; with_reducible exact Calls.ext (c1 _))))
    exact wpQuiet_nil rfl
  refine AlChk.one rfl (fun b => .pointer (some ⟨b, 0, none⟩)) (.cells (byteCells 32 []) 25 (0, 0)) rfl (fun w3 hb3 hF3 => by go_simp; rfl) ?_
  refine AlChk.nil ?_
  refine Walk.blk rfl (fun b => .pointer (some ⟨b, 0, none⟩)) (.cells (byteCells 32 []) 25 (0, 0)) (by simp) ?_
  intro bw3 wz hbz_ hFz hgew3 _
  apply Exists.intro
  refine ⟨fun w4 hb4 hF4 => wpQuiet_nil rfl, ?_⟩
  refine AlChk.nil ?_
  refine Walk.fin fun w3 hw3 hFw3 _ => ?_
  simp only [List.drop_succ_cons, List.drop_zero]
  have kbw3 : Blk w3 bw3 (byteCells 32 []) 25 := hFw3.2
  have Kzw3 := hid kbw3
  have hgww3 : w.heap.size ≤ bw3 := Nat.le_trans HBw2.out.size hgew3
  clear hbz_ hFz hFw3 kbw3
  have hnaw3 : w.heap.size ≠ bw3 := by have := Kaw2.out.lt; omega
  have hnbw3 : w.heap.size + 1 ≠ bw3 := by have := Kbw2.out.lt; omega
  have hnpw3 : w.heap.size + 1 + 1 ≠ bw3 := by have := Kpw2.out.lt; omega
  have hnadw3 : w.heap.size + 1 + 1 + 1 ≠ bw3 := by have := Kadw2.out.lt; omega
  have hnr0w3 : w.heap.size + 1 + 1 + 1 + 1 ≠ bw3 := by have := Kr0w2.out.lt; omega
  have hnxw3 : bw1 ≠ bw3 := by have := Kxw2.out.lt; omega
  have HBw3 := hid (Below.on HBw2.out hw3)
  have hsw3 := HBw3.out.size
  have Kaw3 := hid (Kaw2.out.below hw3)
  have Kbw3 := hid (Kbw2.out.below hw3)
  have Kpw3 := hid (Kpw2.out.below hw3)
  have Kadw3 := hid (Kadw2.out.below hw3)
  have Kr0w3 := hid (Kr0w2.out.below hw3)
  have Kxw3 := hid (Kxw2.out.below hw3)
  clear hw3
  generalize hQ1 : atZ pub (setAd ad f s 1) = Q1 at *
  go_wp2_with (
        refine wpList_store_blk rfl 25 _ _ rfl bw3 (Q1.map (Value.int .u8)).toArray rfl rfl _ 25 Kzw3.out 32 size_digest HzA.out HQ1.out.size (ints_one _ _) ?_
        intro w4 hbw4 hkw4
        have HBw4 := hid (hbw4.below HBw3.out HBw3.out.size hgww3)
        have hsw4 := HBw4.out.size
        have Kyw4 := hid hkw4
        have Kaw4 := hid (hbw4.blk Kaw3.out hnaw3)
        have Kbw4 := hid (hbw4.blk Kbw3.out hnbw3)
        have Kpw4 := hid (hbw4.blk Kpw3.out hnpw3)
        have Kadw4 := hid (hbw4.blk Kadw3.out hnadw3)
        have Kr0w4 := hid (hbw4.blk Kr0w3.out hnr0w3)
        have Kxw4 := hid (hbw4.blk Kxw3.out hnxw3)
        clear hbw4 hkw4)
  simp only [Act.put, List.setIfInBounds_toArray, List.set_cons_zero, List.set_cons_succ]
  refine wp_region_flow 9 [0, 1, 2, 3, 4, 5, 6, 7] [8] [(.b 8, [], [])] (by kernel_rfl) (by kernel_rfl) ?_
  apply Exists.intro
  refine ⟨fun w0 hb0 hF0 => ?_, ?_⟩
  · skip
    have x0 : ∀ w', (∃ x : Ext w0, w' = x.at_) → ∃ T, Blk w' (w.heap.size + 1 + 1) (pub.map (Value.int .u8)).toArray T := fun w' ⟨x, hx⟩ => ⟨_, hx ▸ (Kpw4.out.below hb0).below x.same⟩
    have x1 : ∀ w', (∃ x : Ext w0, w' = x.at_) → ∃ T, Blk w' (w.heap.size + 1 + 1 + 1) (ad.map (Value.int .u32)).toArray T := fun w' ⟨x, hx⟩ => ⟨_, hx ▸ (Kadw4.out.below hb0).below x.same⟩
    have c0 := fun e : Ext w0 => CF.out 2 e.at_
    have c1 := fun e : Ext w0 => refAt_any pub (setAd ad f s 2) e.at_ hpub HA2.out
    have c5 : ∀ e : Ext w0, e.at_.cell? ⟨w.heap.size + 1 + 1 + 1, 5, none⟩ = some (.int .u32 f) := fun e => Hc5.out _ ((Kadw4.out.below hb0).below e.same)
    have c6 : ∀ e : Ext w0, e.at_.cell? ⟨w.heap.size + 1 + 1 + 1, 6, none⟩ = some (.int .u32 s) := fun e => Hc6.out _ ((Kadw4.out.below hb0).below e.same)
    simp only [pick, List.getElem?_toArray, List.getElem?_cons_succ, List.getElem?_cons_zero, Option.toList_some, List.cons_append, List.nil_append]
    repeat (first | (go_big_quiet_want; refine quiet_load_blk 25 _ rfl (w.heap.size + 1 + 1) rfl _ x0 _ Tryz.underlying25 rfl 32 size_digest hpub.size ?_; go_big_quiet_on; simp only [Act.put, List.setIfInBounds_toArray, List.set_cons_zero, List.set_cons_succ]) | (go_big_quiet_want; refine quiet_load_blk 216 _ rfl (w.heap.size + 1 + 1 + 1) rfl _ x1 _ Tryz.underlying216 rfl 8 sizeAdrs had.size ?_; go_big_quiet_on; simp only [Act.put, List.setIfInBounds_toArray, List.set_cons_zero, List.set_cons_succ]) | go_big_quiet_step (first | (go_at_call 166; with_reducible exact Calls.ext (c0 _)) | (go_at_call 197; with_reducible exact Calls.ext (c1 _))))
    exact wpQuiet_nil rfl
  refine AlChk.one rfl (fun b => .pointer (some ⟨b, 0, none⟩)) (.cells (byteCells 32 []) 25 (0, 0)) rfl (fun w3 hb3 hF3 => by go_simp; rfl) ?_
  refine AlChk.nil ?_
  refine Walk.blk rfl (fun b => .pointer (some ⟨b, 0, none⟩)) (.cells (byteCells 32 []) 25 (0, 0)) (by simp) ?_
  intro bw5 wz hbz_ hFz hgew5 _
  apply Exists.intro
  refine ⟨fun w4 hb4 hF4 => wpQuiet_nil rfl, ?_⟩
  refine AlChk.nil ?_
  refine Walk.fin fun w5 hw5 hFw5 _ => ?_
  simp only [List.drop_succ_cons, List.drop_zero]
  have kbw5 : Blk w5 bw5 (byteCells 32 []) 25 := hFw5.2
  have Kzw5 := hid kbw5
  have hgww5 : w.heap.size ≤ bw5 := Nat.le_trans HBw4.out.size hgew5
  clear hbz_ hFz hFw5 kbw5
  have hnaw5 : w.heap.size ≠ bw5 := by have := Kaw4.out.lt; omega
  have hnbw5 : w.heap.size + 1 ≠ bw5 := by have := Kbw4.out.lt; omega
  have hnpw5 : w.heap.size + 1 + 1 ≠ bw5 := by have := Kpw4.out.lt; omega
  have hnadw5 : w.heap.size + 1 + 1 + 1 ≠ bw5 := by have := Kadw4.out.lt; omega
  have hnr0w5 : w.heap.size + 1 + 1 + 1 + 1 ≠ bw5 := by have := Kr0w4.out.lt; omega
  have hnxw5 : bw1 ≠ bw5 := by have := Kxw4.out.lt; omega
  have hnyw5 : bw3 ≠ bw5 := by have := Kyw4.out.lt; omega
  have HBw5 := hid (Below.on HBw4.out hw5)
  have hsw5 := HBw5.out.size
  have Kaw5 := hid (Kaw4.out.below hw5)
  have Kbw5 := hid (Kbw4.out.below hw5)
  have Kpw5 := hid (Kpw4.out.below hw5)
  have Kadw5 := hid (Kadw4.out.below hw5)
  have Kr0w5 := hid (Kr0w4.out.below hw5)
  have Kxw5 := hid (Kxw4.out.below hw5)
  have Kyw5 := hid (Kyw4.out.below hw5)
  clear hw5
  generalize hQ2 : atZ pub (setAd ad f s 2) = Q2 at *
  go_wp2_with (
        refine wpList_store_blk rfl 25 _ _ rfl bw5 (Q2.map (Value.int .u8)).toArray rfl rfl _ 25 Kzw5.out 32 size_digest HzA.out HQ2.out.size (ints_one _ _) ?_
        intro w6 hbw6 hkw6
        have HBw6 := hid (hbw6.below HBw5.out HBw5.out.size hgww5)
        have hsw6 := HBw6.out.size
        have Kzw6 := hid hkw6
        have Kaw6 := hid (hbw6.blk Kaw5.out hnaw5)
        have Kbw6 := hid (hbw6.blk Kbw5.out hnbw5)
        have Kpw6 := hid (hbw6.blk Kpw5.out hnpw5)
        have Kadw6 := hid (hbw6.blk Kadw5.out hnadw5)
        have Kr0w6 := hid (hbw6.blk Kr0w5.out hnr0w5)
        have Kxw6 := hid (hbw6.blk Kxw5.out hnxw5)
        have Kyw6 := hid (hbw6.blk Kyw5.out hnyw5)
        clear hbw6 hkw6)
  simp only [Act.put, List.setIfInBounds_toArray, List.set_cons_zero, List.set_cons_succ]
  refine wp_region_flow 8 (List.range 8) [] [] (by kernel_rfl) (by kernel_rfl) ?_
  apply Exists.intro
  refine ⟨fun w0 hb0 hF0 => ?_, ?_⟩
  · skip
    have x0 : ∀ w', (∃ x : Ext w0, w' = x.at_) → ∃ T, Blk w' (bw1) (Q0.map (Value.int .u8)).toArray T := fun w' ⟨x, hx⟩ => ⟨_, hx ▸ (Kxw6.out.below hb0).below x.same⟩
    have x1 : ∀ w', (∃ x : Ext w0, w' = x.at_) → ∃ T, Blk w' (w.heap.size) (a.map (Value.int .u8)).toArray T := fun w' ⟨x, hx⟩ => ⟨_, hx ▸ (Kaw6.out.below hb0).below x.same⟩
    have x2 : ∀ w', (∃ x : Ext w0, w' = x.at_) → ∃ T, Blk w' (bw3) (Q1.map (Value.int .u8)).toArray T := fun w' ⟨x, hx⟩ => ⟨_, hx ▸ (Kyw6.out.below hb0).below x.same⟩
    have x3 : ∀ w', (∃ x : Ext w0, w' = x.at_) → ∃ T, Blk w' (w.heap.size + 1) (b.map (Value.int .u8)).toArray T := fun w' ⟨x, hx⟩ => ⟨_, hx ▸ (Kbw6.out.below hb0).below x.same⟩
    have x4 : ∀ w', (∃ x : Ext w0, w' = x.at_) → ∃ T, Blk w' (bw5) (Q2.map (Value.int .u8)).toArray T := fun w' ⟨x, hx⟩ => ⟨_, hx ▸ (Kzw6.out.below hb0).below x.same⟩
    have c0 := fun e : Ext w0 => refMask_any a Q1 e.at_ ha HQ1.out
    have c1 := fun e : Ext w0 => refMask_any b Q2 e.at_ hb HQ2.out
    have c2 := fun e : Ext w0 => refH_any Q0 (xorD a Q1) (xorD b Q2) e.at_ HQ0.out (ha.xor HQ1.out) (hb.xor HQ2.out)
    rw [← HM.out] at c2
    simp only [pick, List.range, List.range.loop, List.getElem?_toArray, List.getElem?_cons_succ, List.getElem?_cons_zero, Option.toList_some, List.cons_append, List.nil_append]
    repeat (first | (go_big_quiet_want; refine quiet_load_blk 25 _ rfl (bw1) rfl _ x0 _ Tryz.underlying25 rfl 32 size_digest HQ0.out.size ?_; go_big_quiet_on; simp only [Act.put, List.setIfInBounds_toArray, List.set_cons_zero, List.set_cons_succ]) | (go_big_quiet_want; refine quiet_load_blk 25 _ rfl (w.heap.size) rfl _ x1 _ Tryz.underlying25 rfl 32 size_digest ha.size ?_; go_big_quiet_on; simp only [Act.put, List.setIfInBounds_toArray, List.set_cons_zero, List.set_cons_succ]) | (go_big_quiet_want; refine quiet_load_blk 25 _ rfl (bw3) rfl _ x2 _ Tryz.underlying25 rfl 32 size_digest HQ1.out.size ?_; go_big_quiet_on; simp only [Act.put, List.setIfInBounds_toArray, List.set_cons_zero, List.set_cons_succ]) | (go_big_quiet_want; refine quiet_load_blk 25 _ rfl (w.heap.size + 1) rfl _ x3 _ Tryz.underlying25 rfl 32 size_digest hb.size ?_; go_big_quiet_on; simp only [Act.put, List.setIfInBounds_toArray, List.set_cons_zero, List.set_cons_succ]) | (go_big_quiet_want; refine quiet_load_blk 25 _ rfl (bw5) rfl _ x4 _ Tryz.underlying25 rfl 32 size_digest HQ2.out.size ?_; go_big_quiet_on; simp only [Act.put, List.setIfInBounds_toArray, List.set_cons_zero, List.set_cons_succ]) | go_big_quiet_step (first | (go_at_call 199; with_reducible exact Calls.ext (c0 _)) | (go_at_call 199; with_reducible exact Calls.ext (c1 _)) | (go_at_call 198; with_reducible exact Calls.ext (c2 _))))
    exact wpQuiet_nil rfl
  refine AlChk.nil ?_
  refine Walk.fin fun w7 hw7 _ _ => ?_
  simp only [List.drop_succ_cons, List.drop_zero]
  have HBw7 := hid (Below.on HBw6.out hw7)
  have hsw7 := HBw7.out.size
  have Kaw7 := hid (Kaw6.out.below hw7)
  have Kbw7 := hid (Kbw6.out.below hw7)
  have Kpw7 := hid (Kpw6.out.below hw7)
  have Kadw7 := hid (Kadw6.out.below hw7)
  have Kr0w7 := hid (Kr0w6.out.below hw7)
  have Kxw7 := hid (Kxw6.out.below hw7)
  have Kyw7 := hid (Kyw6.out.below hw7)
  have Kzw7 := hid (Kzw6.out.below hw7)
  clear hw7
  generalize hR : joinZ a b pub ad = R at *
  go_wp2_with (refine wpList_store_blk rfl 25 _ _ rfl (w.heap.size + 1 + 1 + 1 + 1) _ rfl rfl _ 25 Kr0w7.out 32 size_digest HzA.out HD.out.size (ints_one _ _) ?_; intro wr hbutr hkr)
  exact bodyPost_ret (v := (.agg (R.map (Value.int .u8)).toArray)) (results_blk Tryz.results165 _ (w.heap.size + 1 + 1 + 1 + 1) rfl _ 25 hkr _ Tryz.underlying25 rfl 32 size_digest HD.out.size) rfl ⟨by rw [hR], hbutr.below HBw7.out HBw7.out.size (by omega)⟩
end Go.Proofs.YtpinamdgbijjlaaGreatDoor
namespace Go.Proofs.YtpinamdgbijjlaaGreatDoor
set_option maxRecDepth 100000
open Go.ChangeShapes Go.WideShapes Go.ChangeAt Go.RowKit
theorem andNot_one : ∀ n : Fin 68, bits .andNot .i64 ((n.val : Nat) : Int) 1 = ((n.val - n.val % 2 : Nat) : Int) := by decide +kernel
/-- a digest is stored to a row -/
theorem wpList_store_dig {P : Program} {ops : Array Oper} {rest : List Oper} {op : Oper} {a : Act} {w : World} {Q : Exit → Act → World → Prop} (hgd : op.guard = none) (ty : TypeId) (x y : Operand) (ho : op.op = .store ty x y) (b j : Nat) (d : List Int) (hx : a.eval x = .pointer (some ⟨b, 0 + j * 32, none⟩)) (hy : a.eval y = .agg (d.map (Value.int .u8)).toArray)
    (ds : List (List Int)) (T : TypeId) (hk : Blk w b (dcs ds) T) (hds : ∀ d ∈ ds, Dg d) (hd : Dg d) (hj : j < ds.length) (hi : (P.info? ty).map (·.size) = some 32)
    (h : ∀ w', But b w w' → Blk w' b (dcs (ds.set j d)) T → wpList P ops Q rest (a.put op.dst undef) w') : wpList P ops Q (op :: rest) a w := by
  refine wpList_store_mid hgd ty x y ho b (0 + j * 32) (d.map (Value.int .u8)).toArray hx hy (fun k hk' => ⟨?_, hk.free _⟩) (by rw [hi, hd.size]) (ints_one _ _) ?_
  · rw [hd.size] at hk'
    rw [hk.cell, Array.getElem?_eq_getElem (by rw [dcs_size (Dg.lens hds)]; omega)]; rfl
  · rw [Nat.zero_add]
    exact h _ (But.setCells _ _ _ (But.of (Below.refl _ _))) (hk.set_dig hds hd hj)
def aboveZ (pub ad : List Int) (lev : Int) (ds : List (List Int)) : List (List Int) :=
  ((List.range (ds.length / 2)).map fun (i : Nat) => joinZ (ds.getD (2 * i) []) (ds.getD (2 * i + 1) []) pub (setAd ad lev i 0)) ++ ds.drop (ds.length - ds.length % 2)
theorem aboveZ_length (pub ad : List Int) (lev : Int) (ds : List (List Int)) : (aboveZ pub ad lev ds).length = (ds.length + 1) / 2 := by
  simp only [aboveZ, List.length_append, List.length_map, List.length_range, List.length_drop]
  omega
theorem aboveZ_each {pub ad : List Int} {lev : Int} {ds : List (List Int)} (h : ∀ d ∈ ds, Dg d) : ∀ d ∈ aboveZ pub ad lev ds, Dg d := fun d hd => by
  unfold aboveZ at hd
  rcases List.mem_append.1 hd with hd | hd
  · obtain ⟨i, _, rfl⟩ := List.mem_map.1 hd
    exact Dg.join _ _ _ _
  · exact h d (List.mem_of_mem_drop hd)
/-- the row, while it is filled -/
def fillZ (pub ad : List Int) (lev : Int) (ds : List (List Int)) (k : Nat) : List (List Int) :=
  ((List.range k).map fun (i : Nat) => joinZ (ds.getD (2 * i) []) (ds.getD (2 * i + 1) []) pub (setAd ad lev i 0)) ++ (List.replicate (ds.length / 2 - k) zD ++ ds.drop (ds.length - ds.length % 2))
theorem fillZ_length {pub ad : List Int} {lev : Int} {ds : List (List Int)} {k : Nat} (h : k ≤ ds.length / 2) : (fillZ pub ad lev ds k).length = (ds.length + 1) / 2 := by
  simp only [fillZ, List.length_append, List.length_map, List.length_range, List.length_drop, List.length_replicate]
  omega
theorem fillZ_each {pub ad : List Int} {lev : Int} {ds : List (List Int)} (h : ∀ d ∈ ds, Dg d) (k : Nat) : ∀ d ∈ fillZ pub ad lev ds k, Dg d := fun d hd => by
  unfold fillZ at hd
  rcases List.mem_append.1 hd with hd | hd
  · obtain ⟨i, _, rfl⟩ := List.mem_map.1 hd
    exact Dg.join _ _ _ _
  · rcases List.mem_append.1 hd with hd | hd
    · exact zRow _ d hd
    · exact h d (List.mem_of_mem_drop hd)
theorem fillZ_set {pub ad : List Int} {lev : Int} {ds : List (List Int)} {k : Nat} (h : k < ds.length / 2) : (fillZ pub ad lev ds k).set k (joinZ (ds.getD (2 * k) []) (ds.getD (2 * k + 1) []) pub (setAd ad lev k 0)) = fillZ pub ad lev ds (k + 1) := by
  unfold fillZ
  rw [List.set_append_right _ _ (by simp), show ds.length / 2 - k = (ds.length / 2 - (k + 1)) + 1 by omega, List.replicate_succ, List.range_succ, List.map_append]
  simp
theorem fillZ_zero (pub ad : List Int) (lev : Int) (ds : List (List Int)) : fillZ pub ad lev ds 0 = (List.replicate ((ds.length + 1) / 2) zD).take (ds.length / 2) ++ ((((ds.drop (ds.length - ds.length % 2)).take (ds.length % 2)).take (Nat.min (ds.length % 2) (ds.length % 2))) ++ (List.replicate ((ds.length + 1) / 2) zD).drop (ds.length / 2 + Nat.min (ds.length % 2) (ds.length % 2))) := by
  unfold fillZ
  have hm : Nat.min (ds.length % 2) (ds.length % 2) = ds.length % 2 := Nat.min_self _
  have hd : (ds.drop (ds.length - ds.length % 2)).length = ds.length % 2 := by rw [List.length_drop]; omega
  rw [hm, List.take_replicate, List.drop_replicate, List.take_take, List.take_of_length_le (by rw [hd]; omega), show (ds.length + 1) / 2 - (ds.length / 2 + ds.length % 2) = 0 by omega, show min (ds.length / 2) ((ds.length + 1) / 2) = ds.length / 2 by omega]
  simp
theorem fillZ_done (pub ad : List Int) (lev : Int) (ds : List (List Int)) : fillZ pub ad lev ds (ds.length / 2) = aboveZ pub ad lev ds := by
  unfold fillZ aboveZ
  simp
set_option maxHeartbeats 4000000 in
theorem above_any (na : Option Addr) (n nc : Nat) (ds : List (List Int)) (pub ad : List Int) (lev : Int) (w : World) (hN : DigsAt w na n nc ds) (hn : 2 ≤ n ∧ n ≤ 67) (hpub : Dg pub) (had : Aw ad) (hlev : 0 ≤ lev ∧ lev < 4294967296) (tab : ShaTab w) :
    Calls Tryz.prog 192 #[.slice na n nc, (.agg (pub.map (Value.int .u8)).toArray), (.agg (ad.map (Value.int .u32)).toArray), .int .u32 lev] w fun e w' => ∃ v, e = .returned v ∧ Below w.heap.size w w' ∧ OwnD w' w.heap.size 25 v (aboveZ pub ad lev ds) := by
  have HN := hid hN
  have hle := hN.le
  have hmx := hN.max
  have Hnl := hid hN.length
  have hand := andNot_one ⟨n, by omega⟩
  obtain ⟨hn0, hn1⟩ := hn
  clear hN
  have b1 := (Below.refl w.heap.size w).alloc (Nat.le_refl _) (.cells (pub.map (Value.int .u8)).toArray 25 (0, 0))
  have b2 := b1.alloc b1.size (.cells (ad.map (Value.int .u32)).toArray 216 (0, 0))
  have Kp := hid ((Blk.new (w := w) (n := w.heap.size) rfl (pub.map (Value.int .u8)).toArray 25).old (.cells (ad.map (Value.int .u32)).toArray 216 (0, 0)))
  have Kad := hid (Blk.new (w := (w.alloc (.cells (pub.map (Value.int .u8)).toArray 25 (0, 0)))) (n := w.heap.size + 1) (by simp only [World.size_alloc]) (ad.map (Value.int .u32)).toArray 216)
  have Hb := hid b2
  have HzA := hid zsize
  have hbz := b2.size
  have Hbs := hid (show w.heap.size + 1 + 1 = ((w.alloc (.cells (pub.map (Value.int .u8)).toArray 25 (0, 0))).alloc (.cells (ad.map (Value.int .u32)).toArray 216 (0, 0))).heap.size by simp only [World.size_alloc])
  have Htab := hid tab
  clear b1 b2 tab
  have hb2 := Hb.out
  have b3 := hb2.alloc hb2.size (.cells (dcs (List.replicate ((n + 1) / 2) zD)) 25 (0, 0))
  have Kg3 := hid (Blk.new (w := ((w.alloc (.cells (pub.map (Value.int .u8)).toArray 25 (0, 0))).alloc (.cells (ad.map (Value.int .u32)).toArray 216 (0, 0)))) (n := (w.heap.size + 1 + 1)) (by simp only [World.size_alloc]) (dcs (List.replicate ((n + 1) / 2) zD)) 25)
  have Kp3 := hid (Kp.out.old (.cells (dcs (List.replicate ((n + 1) / 2) zD)) 25 (0, 0)))
  have Ka3 := hid (Kad.out.old (.cells (dcs (List.replicate ((n + 1) / 2) zD)) 25 (0, 0)))
  have Hb3 := hid b3
  have HN3 := hid (HN.out.below b3)
  clear b3 hb2
  have hmk := fun W : World => make_digs ((n + 1) / 2) (((n : Int) + 1) / 2) (by omega) (by omega) W
  have hc1 : ∀ W : World, (Instr.slice 49 (.slice (some ⟨(w.heap.size + 1 + 1), 0, none⟩) ((n + 1) / 2) ((n + 1) / 2)) (some (.int .i64 ((n : Int) / 2))) none none).run Tryz.prog W = .ok (.slice (cutD (some ⟨(w.heap.size + 1 + 1), 0, none⟩) (n / 2) ((n + 1) / 2)) (n % 2) ((n + 1) / 2 - n / 2)) W := fun W => by
    have := run_cutd_l (P := Tryz.prog) Tryz.underlying49 size_digest (some ⟨(w.heap.size + 1 + 1), 0, none⟩) ((n + 1) / 2) ((n + 1) / 2) ((n : Int) / 2) W (by omega) (by omega)
    rw [show ((n : Int) / 2).toNat = n / 2 by omega, show (n + 1) / 2 - n / 2 = n % 2 by omega] at this
    rw [this, show (n + 1) / 2 - n / 2 = n % 2 by omega]
  have hc2 : ∀ W : World, (Instr.slice 49 (.slice na n nc) (some (.int .i64 ((n - n % 2 : Nat) : Int))) none none).run Tryz.prog W = .ok (.slice (cutD na (n - n % 2) nc) (n % 2) (nc - (n - n % 2))) W := fun W => by
    have := run_cutd_l (P := Tryz.prog) Tryz.underlying49 size_digest na n nc ((n - n % 2 : Nat) : Int) W (by omega) (by omega)
    rw [Int.toNat_natCast, show n - (n - n % 2) = n % 2 by omega] at this
    exact this
  have hda : 0 < n % 2 → cutD (some ⟨(w.heap.size + 1 + 1), 0, none⟩) (n / 2) ((n + 1) / 2) = some ⟨(w.heap.size + 1 + 1), n / 2 * 32, none⟩ := fun h => by
    unfold cutD
    rw [if_neg (by omega), Option.map_some, Addr.add_mid, Nat.zero_add]
  have hDt := HN3.out.cut (n - n % 2) n (by omega) (Nat.le_refl _)
  rw [show n - (n - n % 2) = n % 2 by omega] at hDt
  have HDt := hid hDt
  have Hda := hid hda
  clear hDt hda
  generalize hdA : cutD (some ⟨(w.heap.size + 1 + 1), 0, none⟩) (n / 2) ((n + 1) / 2) = dA at *
  generalize hsA : cutD na (n - n % 2) nc = sA at *
  clear hdA hsA
  go_enter Tryz.func192, Tryz.ntmps192
  go_wp2_with fail
  refine wp_region_flow 10 (List.range 10) [] [] (by kernel_rfl) (by kernel_rfl) ?_
  apply Exists.intro
  refine ⟨fun w0 hb0 hF0 => ?_, ?_⟩
  · simp only [pick, List.range, List.range.loop, List.getElem?_toArray, List.getElem?_cons_succ, List.getElem?_cons_zero, Option.toList_some, List.cons_append, List.nil_append]
    repeat (go_big_quiet_step (fail))
    exact wpQuiet_nil rfl
  refine AlChk.nil ?_
  refine Walk.fin fun w1 h1 _ _ => ?_
  simp only [List.drop_succ_cons, List.drop_zero]
  have Kg1 := hid (Kg3.out.below h1)
  have Kp1 := hid (Kp3.out.below h1)
  have Ka1 := hid (Ka3.out.below h1)
  have HB1 := hid (Below.on Hb3.out h1)
  have HD1 := hid (HDt.out.below h1)
  clear h1
  go_wp2_with (
    refine wpList_copy_digs rfl _ _ _ _ rfl 25 Tryz.underlying49 size_digest (w.heap.size + 1 + 1) (n / 2) (n % 2) ((n + 1) / 2 - n / 2) dA rfl Hda.out sA (n % 2) (nc - (n - n % 2)) rfl _ _ 25 Kg1.out (zRow _) HD1.out (by rw [List.length_replicate]; omega) ?_
    intro w2 hb2 hk2
    have Kg2 := hid hk2
    have HB2 := hid (hb2.below HB1.out HB1.out.size (by omega))
    have Kp2 := hid (hb2.blk Kp1.out (by omega))
    have Ka2 := hid (hb2.blk Ka1.out (by omega))
    clear hb2 hk2)
  have HF0 := hid (fillZ_zero pub ad lev ds)
  rw [Hnl.out] at HF0
  rw [← HF0.out] at Kg2
  have HE := hid HN.out.each
  go_loopw [30] (fun v wr => ∃ k : Nat, k ≤ n / 2 ∧ v = .int .i64 k ∧ Blk wr (w.heap.size + 1 + 1) (dcs (fillZ pub ad lev ds k)) 25 ∧ Blk wr (w.heap.size) (pub.map (Value.int .u8)).toArray 25 ∧ Blk wr (w.heap.size + 1) (ad.map (Value.int .u32)).toArray 216 ∧ Below w.heap.size w wr) (fun v _ => n / 2 - (intOf v).toNat)
  case atStart => exact ⟨0, Nat.zero_le _, rfl, Kg2.out, Kp2.out, Ka2.out, HB2.out⟩
  case round =>
    clear Kg2 Kp2 Ka2 HB2 Kg1 Kp1 Ka1 HB1 HD1 Kg3 Kp3 Ka3 Hb3 HDt
    obtain ⟨k, hk, rfl, kg, kp, ka, bel⟩ := hrel
    have Kg := hid kg
    have Kp := hid kp
    have Ka := hid ka
    have HB := hid bel
    clear kg kp ka bel
    by_cases hlt : k < n / 2
    · have hkl : k < ds.length / 2 := by rw [Hnl.out]; exact hlt
      have HS := hid (fillZ_set (pub := pub) (ad := ad) (lev := lev) hkl)
      have HDk := hid (HN.out.get (j := 2 * k) (by omega))
      have HDl := hid (HN.out.get (j := 2 * k + 1) (by omega))
      have HNr := HN.out.below HB.out
      obtain ⟨xs, xo, rfl, hxs, hcell⟩ := HNr.at_ (by omega)
      have Hck := hid (hcell (2 * k) (by omega))
      have Hcl := hid (hcell (2 * k + 1) (by omega))
      have HJ := hid (Dg.join (ds.getD (2 * k) []) (ds.getD (2 * k + 1) []) pub (setAd ad lev k 0))
      have HAt := hid (had.set hlev (show 0 ≤ (k : Int) ∧ (k : Int) < 4294967296 by omega) (show (0 : Int) ≤ 0 ∧ (0 : Int) < 4294967296 by omega))
      have hfl := fillZ_length (pub := pub) (ad := ad) (lev := lev) (Nat.le_of_lt hkl)
      rw [Hnl.out] at hfl
      have Hfl := hid hfl
      clear hcell HNr hfl
      generalize hX : ds.getD (2 * k) [] = X at *
      generalize hY : ds.getD (2 * k + 1) [] = Y at *
      generalize hJ : joinZ X Y pub (setAd ad lev k 0) = J at *
      go_wp2_with fail
      refine wp_region_flow 21 (List.range 21) [] [] (by kernel_rfl) (by kernel_rfl) ?_
      apply Exists.intro
      refine ⟨fun w0 hb0 hF0 => ?_, ?_⟩
      · skip
        have x0 : ∀ w', (∃ x : Ext w0, w' = x.at_) → ∃ T, Blk w' (w.heap.size) (pub.map (Value.int .u8)).toArray T := fun w' ⟨x, hx⟩ => ⟨_, hx ▸ (Kp.out.below hb0).below x.same⟩
        have x1 : ∀ w', (∃ x : Ext w0, w' = x.at_) → ∃ T, Blk w' (w.heap.size + 1) (ad.map (Value.int .u32)).toArray T := fun w' ⟨x, hx⟩ => ⟨_, hx ▸ (Ka.out.below hb0).below x.same⟩
        have x2 : ∀ w', (∃ x : Ext w0, w' = x.at_) → w'.rangeAt xs (xo + 2 * k * 32) (X.map (Value.int .u8)) := fun w' ⟨x, hx⟩ => hx ▸ rangeAt_below (rangeAt_below Hck.out hxs hb0) (Nat.lt_of_lt_of_le hxs hb0.size) x.same
        have x3 : ∀ w', (∃ x : Ext w0, w' = x.at_) → w'.rangeAt xs (xo + (2 * k + 1) * 32) (Y.map (Value.int .u8)) := fun w' ⟨x, hx⟩ => hx ▸ rangeAt_below (rangeAt_below Hcl.out hxs hb0) (Nat.lt_of_lt_of_le hxs hb0.size) x.same
        have c0 := fun e : Ext w0 => at_list ad lev k e.at_ had
        have c1 := fun e : Ext w0 => ljoin_any X Y pub (setAd ad lev k 0) e.at_ HDk.out HDl.out hpub HAt.out ((Htab.out.below (Below.on HB.out hb0)).below e.same)
        rw [hJ] at c1
        simp only [pick, List.range, List.range.loop, List.getElem?_toArray, List.getElem?_cons_succ, List.getElem?_cons_zero, Option.toList_some, List.cons_append, List.nil_append]
        repeat (first | (go_big_quiet_want; refine quiet_load_blk 25 _ rfl (w.heap.size) rfl _ x0 _ Tryz.underlying25 rfl 32 size_digest hpub.size ?_; go_big_quiet_on; simp only [Act.put, List.setIfInBounds_toArray, List.set_cons_zero, List.set_cons_succ]) | (go_big_quiet_want; refine quiet_load_blk 216 _ rfl (w.heap.size + 1) rfl _ x1 _ Tryz.underlying216 rfl 8 sizeAdrs had.size ?_; go_big_quiet_on; simp only [Act.put, List.setIfInBounds_toArray, List.set_cons_zero, List.set_cons_succ]) | (go_big_quiet_want; refine quiet_index_digs 49 _ _ rfl Tryz.underlying49 size_digest xs xo n nc rfl _ _ rfl (2 * k) (by omega) (by omega) ?_; go_big_quiet_on; simp only [Act.put, List.setIfInBounds_toArray, List.set_cons_zero, List.set_cons_succ]) | (go_big_quiet_want; refine quiet_index_digs 49 _ _ rfl Tryz.underlying49 size_digest xs xo n nc rfl _ _ rfl (2 * k + 1) (by omega) (by omega) ?_; go_big_quiet_on; simp only [Act.put, List.setIfInBounds_toArray, List.set_cons_zero, List.set_cons_succ]) | (go_big_quiet_want; refine quiet_index_digs 49 _ _ rfl Tryz.underlying49 size_digest (w.heap.size + 1 + 1) 0 ((n + 1) / 2) ((n + 1) / 2) rfl _ _ rfl k rfl (by omega) ?_; go_big_quiet_on; simp only [Act.put, List.setIfInBounds_toArray, List.set_cons_zero, List.set_cons_succ]) | (go_big_quiet_want; refine quiet_load_mid 25 _ rfl xs (xo + 2 * k * 32) rfl _ x2 _ Tryz.underlying25 rfl (by rw [List.length_map, HDk.out.len]; exact size_digest) ?_; go_big_quiet_on; simp only [Act.put, List.setIfInBounds_toArray, List.set_cons_zero, List.set_cons_succ]) | (go_big_quiet_want; refine quiet_load_mid 25 _ rfl xs (xo + (2 * k + 1) * 32) rfl _ x3 _ Tryz.underlying25 rfl (by rw [List.length_map, HDl.out.len]; exact size_digest) ?_; go_big_quiet_on; simp only [Act.put, List.setIfInBounds_toArray, List.set_cons_zero, List.set_cons_succ]) | go_big_quiet_step (first | (go_at_call 187; with_reducible exact Calls.ext (c0 _)) | (go_at_call 186; with_reducible exact Calls.ext (c1 _))))
        exact wpQuiet_nil rfl
      refine AlChk.nil ?_
      refine Walk.fin fun w5 h5 _ _ => ?_
      simp only [List.drop_succ_cons, List.drop_zero]
      have Kg5 := hid (Kg.out.below h5)
      have Kp5 := hid (Kp.out.below h5)
      have Ka5 := hid (Ka.out.below h5)
      have HB5 := hid (Below.on HB.out h5)
      clear h5
      go_wp2_with (
        refine wpList_store_dig rfl _ _ _ rfl (w.heap.size + 1 + 1) k J rfl rfl _ 25 Kg5.out (fillZ_each HE.out k) HJ.out (by rw [Hfl.out]; omega) size_digest ?_
        intro w6 hb6 hk6
        rw [HS.out] at hk6
        have H6 := hid (And.intro hk6 (And.intro (hb6.blk Kp5.out (by omega)) (And.intro (hb6.blk Ka5.out (by omega)) (hb6.below HB5.out HB5.out.size (by omega)))))
        clear hb6 hk6)
      exact ⟨⟨k + 1, by omega, by go_num, H6.out.1, H6.out.2.1, H6.out.2.2.1, H6.out.2.2.2⟩, by simp [intOf]; omega⟩
    · have hkn : k = n / 2 := by omega
      subst hkn
      have hdn := fillZ_done pub ad lev ds
      rw [Hnl.out] at hdn
      rw [hdn] at Kg
      have hal := aboveZ_length pub ad lev ds
      rw [Hnl.out] at hal
      have Hres := hid (And.intro HB.out (OwnD.of_blk (base := w.heap.size) Kg.out (by omega) hal (by omega) (aboveZ_each HE.out)))
      clear hdn hal Kg Kp Ka HB
      go_wp2_with fail
      go_ret
      exact ⟨_, rfl, Hres.out⟩
end Go.Proofs.YtpinamdgbijjlaaGreatDoor
namespace Go.Proofs.YtpinamdgbijjlaaGreatDoor
set_option maxRecDepth 100000
open Go.ChangeShapes Go.WideShapes Go.ChangeAt Go.RowKit
def compZ (pub ad : List Int) : Nat → Nat → List (List Int) → List Int
  | 0, _, ds => ds.getD 0 []
  | f + 1, lev, ds => if ds.length ≤ 1 then ds.getD 0 [] else compZ pub ad f (lev + 1) (aboveZ pub ad lev ds)
theorem compZ_one (pub ad : List Int) (f lev : Nat) {ds : List (List Int)} (h : ds.length ≤ 1) : compZ pub ad f lev ds = ds.getD 0 [] := by
  cases f with
  | zero => rfl
  | succ f => rw [compZ, if_pos h]
theorem compZ_more (pub ad : List Int) (f lev : Nat) {ds : List (List Int)} (h : 1 < ds.length) : compZ pub ad (f + 1) lev ds = compZ pub ad f (lev + 1) (aboveZ pub ad lev ds) := by
  rw [compZ, if_neg (by omega)]
theorem compZ_dg (pub ad : List Int) : ∀ (f lev : Nat) (ds : List (List Int)), (∀ d ∈ ds, Dg d) → 1 ≤ ds.length → ds.length ≤ f → Dg (compZ pub ad f lev ds)
  | 0, _, ds, h, h1, hf => by omega
  | f + 1, lev, ds, h, h1, hf => by
    by_cases hl : ds.length ≤ 1
    · rw [compZ_one _ _ _ _ hl]; exact Dg.getD h (by omega)
    · rw [compZ_more _ _ _ _ (by omega)]
      exact compZ_dg pub ad f (lev + 1) _ (aboveZ_each h) (by rw [aboveZ_length]; omega) (by rw [aboveZ_length]; omega)
set_option maxHeartbeats 4000000 in
theorem compress_good (na : Option Addr) (n nc : Nat) (ds : List (List Int)) (pub ad : List Int) (w : World) (hN : DigsAt w na n nc ds) (hn : 1 ≤ n ∧ n ≤ 67) (hpub : Dg pub) (had : Aw ad) (tab : ShaTab w) :
    Calls Tryz.prog 160 #[.slice na n nc, (.agg (pub.map (Value.int .u8)).toArray), (.agg (ad.map (Value.int .u32)).toArray)] w fun e w' => e = .returned (.tuple #[(.agg ((compZ pub ad n 0 ds).map (Value.int .u8)).toArray), .int .i64 0]) ∧ Below w.heap.size w w' := by
  have HN := hid hN
  have hle := hN.le
  have hmx := hN.max
  have Hnl := hid hN.length
  obtain ⟨hn0, hn1⟩ := hn
  clear hN
  have b1 := (Below.refl w.heap.size w).alloc (Nat.le_refl _) (.cells (pub.map (Value.int .u8)).toArray 25 (0, 0))
  have b2 := b1.alloc b1.size (.cells (ad.map (Value.int .u32)).toArray 216 (0, 0))
  have b3 := b2.alloc b2.size (.cells (byteCells 32 []) 25 (0, 0))
  have Kp := hid (((Blk.new (w := w) (n := w.heap.size) rfl (pub.map (Value.int .u8)).toArray 25).old (.cells (ad.map (Value.int .u32)).toArray 216 (0, 0))).old (.cells (byteCells 32 []) 25 (0, 0)))
  have Kad := hid ((Blk.new (w := (w.alloc (.cells (pub.map (Value.int .u8)).toArray 25 (0, 0)))) (n := w.heap.size + 1) (by simp only [World.size_alloc]) (ad.map (Value.int .u32)).toArray 216).old (.cells (byteCells 32 []) 25 (0, 0)))
  have Kr0 := hid (Blk.new (w := ((w.alloc (.cells (pub.map (Value.int .u8)).toArray 25 (0, 0))).alloc (.cells (ad.map (Value.int .u32)).toArray 216 (0, 0)))) (n := w.heap.size + 1 + 1) (by simp only [World.size_alloc]) (byteCells 32 []) 25)
  have Hb := hid b3
  have HzA := hid zsize
  have hbz := b3.size
  have Hbs := hid (show w.heap.size + 1 + 1 + 1 = (((w.alloc (.cells (pub.map (Value.int .u8)).toArray 25 (0, 0))).alloc (.cells (ad.map (Value.int .u32)).toArray 216 (0, 0))).alloc (.cells (byteCells 32 []) 25 (0, 0))).heap.size by simp only [World.size_alloc])
  have Htab := hid tab
  clear b1 b2 b3 tab
  have hb2 := Hb.out
  have b3 := hb2.alloc hb2.size (.cells (dcs (List.replicate n zD)) 25 (0, 0))
  have Kg3 := hid (Blk.new (w := (((w.alloc (.cells (pub.map (Value.int .u8)).toArray 25 (0, 0))).alloc (.cells (ad.map (Value.int .u32)).toArray 216 (0, 0))).alloc (.cells (byteCells 32 []) 25 (0, 0)))) (n := (w.heap.size + 1 + 1 + 1)) (by simp only [World.size_alloc]) (dcs (List.replicate n zD)) 25)
  have Kp3 := hid (Kp.out.old (.cells (dcs (List.replicate n zD)) 25 (0, 0)))
  have Ka3 := hid (Kad.out.old (.cells (dcs (List.replicate n zD)) 25 (0, 0)))
  have Kr3 := hid (Kr0.out.old (.cells (dcs (List.replicate n zD)) 25 (0, 0)))
  have Hb3 := hid b3
  have HN3 := hid (HN.out.below b3)
  clear b3 hb2
  have hmk := fun W : World => make_digs n n rfl (by omega) W
  have hq0 : ¬ ((n : Int) = 0) := by omega
  have hq1 : ¬ ((67 : Int) < n) := by omega
  go_enter Tryz.func160, Tryz.ntmps160
  go_wp2_with (
    refine wpList_copy_digs rfl _ _ _ _ rfl 25 Tryz.underlying49 size_digest (w.heap.size + 1 + 1 + 1) 0 n n (some ⟨(w.heap.size + 1 + 1 + 1), 0, none⟩) rfl (fun _ => rfl) na n nc rfl _ _ 25 Kg3.out (zRow _) HN3.out (by rw [List.length_replicate]; omega) ?_
    intro w2 hb2 hk2
    have Kg2 := hid hk2
    have HB2 := hid (hb2.below Hb3.out Hb3.out.size (by omega))
    have Kp2 := hid (hb2.blk Kp3.out (by omega))
    have Ka2 := hid (hb2.blk Ka3.out (by omega))
    have Kr2 := hid (hb2.blk Kr3.out (by omega))
    clear hb2 hk2)
  have hrow : (List.replicate n zD).take 0 ++ (ds.take (Nat.min n n) ++ (List.replicate n zD).drop (0 + Nat.min n n)) = ds := by
    rw [show Nat.min n n = n from Nat.min_self n, List.take_zero, List.nil_append, List.take_of_length_le (by rw [Hnl.out]; exact Nat.le_refl _), List.drop_eq_nil_of_le (by rw [List.length_replicate]; omega), List.append_nil]
  rw [hrow] at Kg2
  have HD0 := hid (DigsAt.of_blk Kg2.out HN.out.each Hnl.out (Nat.le_refl _) (by omega))
  have HR0 := hid (rfl : compZ pub ad n 0 ds = compZ pub ad n 0 ds)
  clear hrow Kg2
  go_loopw [8, 9] (fun v lv wr => ∃ (f lev m : Nat) (a : Option Addr) (c : Nat) (row : List (List Int)), v = .slice a m c ∧ lv = .int .u32 lev ∧ lev + f = n ∧ 1 ≤ m ∧ m ≤ f ∧ DigsAt wr a m c row ∧ compZ pub ad f lev row = compZ pub ad n 0 ds ∧ Blk wr (w.heap.size) (pub.map (Value.int .u8)).toArray 25 ∧ Blk wr (w.heap.size + 1) (ad.map (Value.int .u32)).toArray 216 ∧ Blk wr (w.heap.size + 1 + 1) (byteCells 32 []) 25 ∧ Below w.heap.size w wr) (fun v _ _ => match v with | .slice _ m _ => m | _ => 0)
  case atStart => exact ⟨n, 0, n, _, _, ds, rfl, rfl, by omega, by omega, Nat.le_refl _, HD0.out, rfl, Kp2.out, Ka2.out, Kr2.out, HB2.out⟩
  case round =>
    clear Kp2 Ka2 Kr2 HB2 HD0 HR0 Kg3 Kp3 Ka3 Kr3 Hb3 HN3
    obtain ⟨f, lev, m, a, c, row, rfl, rfl, hlf, hm1, hmf, hD, hR, kp, ka, kr, bel⟩ := hrel
    have HD := hid hD
    have HR := hid hR
    have Kp := hid kp
    have Ka := hid ka
    have Kr := hid kr
    have HB := hid bel
    have hml := hD.length
    have Hml := hid hml
    clear hD hR kp ka kr bel hml
    by_cases hlt : 1 < m
    · obtain ⟨f, rfl⟩ : ∃ g, f = g + 1 := ⟨f - 1, by omega⟩
      have hmi : (1 : Int) < m := by omega
      have CA := hid (fun (t : ShaTab wr) => above_any a m c row pub ad lev wr HD.out ⟨by omega, by omega⟩ hpub had ⟨by omega, by omega⟩ t)
      go_wp2_with (first | (refine wpList_load_blk rfl 25 _ rfl (w.heap.size) rfl _ 25 Kp.out _ Tryz.underlying25 rfl 32 size_digest hpub.size ?_) | (refine wpList_load_blk rfl 216 _ rfl (w.heap.size + 1) rfl _ 216 Ka.out _ Tryz.underlying216 rfl 8 sizeAdrs had.size ?_))
      refine (CA.out (Htab.out.below HB.out)).mono ?_
      rintro e w4 ⟨v, rfl, b4, o4⟩
      obtain ⟨a4, c4, rfl, hD4, _⟩ := o4.digs
      have hal := aboveZ_length pub ad lev row
      rw [Hml.out] at hal
      rw [hal] at hD4 ⊢
      have hR4 := compZ_more pub ad f lev (ds := row) (by rw [Hml.out]; exact hlt)
      rw [HR.out] at hR4
      have H4 := hid (And.intro hD4 (And.intro hR4.symm (And.intro (Kp.out.below b4) (And.intro (Ka.out.below b4) (And.intro (Kr.out.below b4) (Below.on HB.out b4))))))
      clear hD4 o4 b4 hal hR4
      go_wp2_with fail
      exact ⟨⟨f, lev + 1, (m + 1) / 2, a4, c4, _, rfl, by go_num, by omega, by omega, by omega, H4.out.1, H4.out.2.1, H4.out.2.2.1, H4.out.2.2.2.1, H4.out.2.2.2.2.1, H4.out.2.2.2.2.2⟩, by simp; omega⟩
    · have hm : m = 1 := by omega
      subst hm
      have hone := compZ_one pub ad f lev (ds := row) (by rw [Hml.out]; exact Nat.le_refl _)
      rw [HR.out] at hone
      have HX := hid (HD.out.get (j := 0) (by omega))
      obtain ⟨xs, xo, rfl, hxs, hcell⟩ := HD.out.at_ (by omega)
      have Hc := hid (hcell 0 (by omega))
      have HOne := hid hone
      clear hone hcell HD
      generalize hX : row.getD 0 [] = X at *
      go_wp2_with (first
       | (refine wpList_index_digs rfl 49 _ _ rfl Tryz.underlying49 size_digest xs xo 1 c rfl _ _ rfl 0 rfl (by omega) ?_)
       | (refine wpList_load_mid rfl 25 _ rfl xs (xo + 0 * 32) rfl _ _ Hc.out Tryz.underlying25 rfl (by rw [List.length_map, HX.out.len]; exact size_digest) ?_)
       | (refine wpList_store_blk rfl 25 _ _ rfl (w.heap.size + 1 + 1) _ rfl rfl _ 25 Kr.out 32 size_digest HzA.out HX.out.size (ints_one _ _) ?_; intro w7 hbut7 hk7))
      exact bodyPost_ret (v := .tuple #[(.agg (X.map (Value.int .u8)).toArray), .int .i64 0]) (results_blk_tmp Tryz.results160 _ (w.heap.size + 1 + 1) rfl _ rfl _ 25 hk7 _ Tryz.underlying25 rfl 32 size_digest HX.out.size) rfl ⟨by rw [HOne.out], hbut7.below HB.out HB.out.size (by omega)⟩
end Go.Proofs.YtpinamdgbijjlaaGreatDoor
namespace Go.Proofs.YtpinamdgbijjlaaGreatDoor
set_option maxRecDepth 100000
open Go.ChangeShapes Go.WideShapes Go.ChangeAt Go.RowKit
theorem fold_set : ∀ (vs : List Value) (k off : Nat) (acc : Array Value), off + k + vs.length ≤ acc.size → ((vs.zipIdx k).foldl (fun cs (x : Value × Nat) => cs.setIfInBounds (off + x.2) x.1) acc).toList = splice acc.toList (off + k) vs
  | [], k, off, acc, h => by simp [splice]
  | v :: vs, k, off, acc, h => by
    simp only [List.length_cons] at h
    rw [List.zipIdx_cons, List.foldl_cons, fold_set vs (k + 1) off _ (by rw [Array.size_setIfInBounds]; omega)]
    unfold splice
    rw [Array.toList_setIfInBounds, show off + (k + 1) = (off + k) + 1 by omega, List.drop_set_of_lt (by omega), List.length_cons, show off + k + 1 + vs.length = off + k + (vs.length + 1) by omega]
    rw [List.take_succ_eq_append_getElem (by rw [List.length_set, Array.length_toList]; omega), List.take_set_of_le (Nat.le_refl _), List.getElem_set_self]
    simp
theorem fill_dig (cells : Array Value) (ds : List (List Int)) (hc : cells = dcs ds) (hds : ∀ d ∈ ds, Dg d) (x : List Int) (hx : Dg x) (j : Nat) (hj : j < ds.length) (rest : List (Nat × Value)) :
    Instr.fill (fun i => some (i * 32, 32)) cells ((j, .agg (x.map (Value.int .u8)).toArray) :: rest) = Instr.fill (fun i => some (i * 32, 32)) (dcs (ds.set j x)) rest := by
  subst hc
  have hs := dcs_size (Dg.lens hds)
  have hv : (Value.agg (x.map (Value.int .u8)).toArray).cells = (x.map (Value.int .u8)).toArray := rfl
  have hf := fold_set (x.map (Value.int .u8)) 0 (j * 32) (dcs ds) (by rw [List.length_map, hx.len, hs]; omega)
  have he : (((x.map (Value.int .u8)).zipIdx 0).foldl (fun cs (y : Value × Nat) => cs.setIfInBounds (j * 32 + y.2) y.1) (dcs ds)) = dcs (ds.set j x) := by
    apply Array.ext'
    rw [hf, Nat.add_zero]
    unfold dcs
    rw [← flat_set (Dg.lens hds) x hx.len j hj]
    unfold splice
    simp only [List.length_map, List.map_append, List.map_take, List.map_drop]
  rw [Instr.fill]
  simp only [hv, hx.size]
  rw [if_neg (by simp only [ne_eq, not_true_eq_false, decide_false, Bool.false_or, decide_eq_true_eq, hs]; omega)]
  congr 1
  have : ((x.map (Value.int .u8)).toArray).zipIdx = (((x.map (Value.int .u8)).zipIdx 0)).toArray := by simp
  rw [this, List.foldl_toArray']
  · exact he
  · simp
section
variable {P : Program}
/-- parts put in their places, one behind the other -/
theorem run_build_digs (n : Nat) (parts : List (Nat × Value)) (ds : List (List Int)) (hn : n ≤ 1000) (h0 : 0 < n) (h : Instr.fill (fun i => some (i * 32, 32)) (dcs (List.replicate n zD)) parts = some (dcs ds)) (w : World) :
    (Instr.buildSlice 49 n parts.toArray).run Tryz.prog w = .ok (.slice (some ⟨w.heap.size, 0, none⟩) n n) (w.alloc (.cells (dcs ds) 25 (0, 0))) := by
  obtain ⟨i, hi, _, hz1, _⟩ := info_parts info_dig
  have hm := zD_rows n
  unfold madeCells at hm
  unfold Instr.buildSlice
  have hne : ¬ (n * 32 = 0) := by omega
  have hle : ¬ (16777216 < n * 32) := by omega
  have hl : (zD.map (Value.int .u8)).toArray = #[Value.int .u8 0, Value.int .u8 0, Value.int .u8 0, Value.int .u8 0, Value.int .u8 0, Value.int .u8 0, Value.int .u8 0, Value.int .u8 0, Value.int .u8 0, Value.int .u8 0, Value.int .u8 0, Value.int .u8 0, Value.int .u8 0, Value.int .u8 0, Value.int .u8 0, Value.int .u8 0, Value.int .u8 0, Value.int .u8 0, Value.int .u8 0, Value.int .u8 0, Value.int .u8 0, Value.int .u8 0, Value.int .u8 0, Value.int .u8 0, Value.int .u8 0, Value.int .u8 0, Value.int .u8 0, Value.int .u8 0, Value.int .u8 0, Value.int .u8 0, Value.int .u8 0, Value.int .u8 0] := by kernel_rfl
  rw [hl] at hm
  simp [run_underlying Tryz.underlying49, sizeOf, typeInfo, hi, hz1, hne]
  rw [if_neg hle, hm, h]
  simp [newRow]
theorem dcs_one (x : List Int) : dcs [x] = (x.map (Value.int .u8)).toArray := by simp [dcs]
theorem run_build_one {x : List Int} (hx : Dg x) (w : World) : (Instr.buildSlice 49 1 #[(0, .agg (x.map (Value.int .u8)).toArray)]).run Tryz.prog w = .ok (.slice (some ⟨w.heap.size, 0, none⟩) 1 1) (w.alloc (.cells (x.map (Value.int .u8)).toArray 25 (0, 0))) := by
  have h := run_build_digs 1 [(0, .agg (x.map (Value.int .u8)).toArray)] [x] (by omega) (by omega) (by
    rw [fill_dig _ (List.replicate 1 zD) rfl (zRow 1) x hx 0 (by simp), show (List.replicate 1 zD).set 0 x = [x] from rfl, Instr.fill]) w
  rw [dcs_one] at h
  exact h
theorem exec_build_one {o : Oper} {A : Act} {w : World} {e : Operand} (ho : o.op = .buildSlice 49 1 #[(0, e)]) {x : List Int} (he : A.eval e = .agg (x.map (Value.int .u8)).toArray) (hx : Dg x) :
    (execOp A.eval o).run Tryz.prog w = .ok (.value (.slice (some ⟨w.heap.size, 0, none⟩) 1 1)) (w.alloc (.cells (x.map (Value.int .u8)).toArray 25 (0, 0))) := by
  unfold execOp
  simp only [ho, List.map_toArray, List.map_cons, List.map_nil, he, Sem.run_bind, run_build_one hx, Result.andThen_ok, Sem.run_pure]
theorem wpList_build_one {ops : Array Oper} {rest : List Oper} {o : Oper} {A : Act} {w : World} {Q : Exit → Act → World → Prop} (hgd : o.guard = none) (e : Operand) (ho : o.op = .buildSlice 49 1 #[(0, e)]) {x : List Int} (he : A.eval e = .agg (x.map (Value.int .u8)).toArray) (hx : Dg x)
    (h : wpList Tryz.prog ops Q rest (A.put o.dst (.slice (some ⟨w.heap.size, 0, none⟩) 1 1)) (w.alloc (.cells (x.map (Value.int .u8)).toArray 25 (0, 0)))) : wpList Tryz.prog ops Q (o :: rest) A w :=
  wpList_plain hgd fun K hK => by
    unfold Oper.wp
    rw [exec_build_one ho he hx, Oper.upon_value]
    exact hK _ _ h
end
end Go.Proofs.YtpinamdgbijjlaaGreatDoor
namespace Go.Proofs.YtpinamdgbijjlaaGreatDoor
set_option maxRecDepth 100000
open Go.ChangeShapes Go.WideShapes Go.ChangeAt Go.RowKit
namespace FlowB
theorem ButIn.of_grown {w w' : World} {v : Value} (h : w.grownBy w' v.ownBlock) : ButIn v.ownBlock.toList w w' :=
  ⟨h.os, h.tape, h.output, h.size, fun k hk hc => h.block k hk (fun e => hc (by rw [← e]; simp))⟩
theorem st_butIn {S : List Nat} {w : World} (obj : Obj) (hS : ∀ g ∈ S, g < w.heap.size) : St (ButIn S) w obj := fun w1 w2 b _ h2 hb h => by
  rw [h2.block b (Array.getElem?_eq_some_iff.1 h).1 (fun e => by have := hS b e; omega)]
  exact h
theorem ButIn.range {S : List Nat} {w w' : World} {b o : Nat} {cs : List Value} (h : ButIn S w w') (hx : b < w.heap.size) (hb : b ∉ S) (k : w.rangeAt b o cs) : w'.rangeAt b o cs := fun i v hv => by
  rw [← k i v hv]
  unfold World.cell?
  rw [h.block b hx hb]
end FlowB
theorem own_low {w : World} {B b : Nat} {e : TypeId} {v : Value} {ds : List (List Int)} (h : OwnD w B e v ds) (hb : b < B) : b ∉ v.ownBlock.toList := fun hm => by
  have := (h.lt b (by simpa using hm)).1
  omega
theorem own_size {w : World} {B : Nat} {e : TypeId} {v : Value} {ds : List (List Int)} (h : OwnD w B e v ds) : ∀ g ∈ v.ownBlock.toList, g < w.heap.size := fun g hm => (h.lt g (by simpa using hm)).2
theorem own_from {w : World} {B : Nat} {e : TypeId} {v : Value} {ds : List (List Int)} (h : OwnD w B e v ds) : ∀ g ∈ v.ownBlock.toList, B ≤ g := fun g hm => (h.lt g (by simpa using hm)).1
set_option maxHeartbeats 4000000 in
theorem up_more (pub ad : List Int) (hpub : Dg pub) (had : Aw ad) (f lev : Nat) (ds : List (List Int)) (a : Option Addr) (n c : Nat) (w : World) (hN : DigsAt w a n c ds) (hn : 2 ≤ n) (hf : n ≤ f + 1) (hl : lev + f ≤ 100)
    (ih : ∀ (ds : List (List Int)) (a : Option Addr) (n c : Nat) (w : World), DigsAt w a n c ds → 1 ≤ n → n ≤ f → Calls Tryz.prog 196 #[.slice a n c, .int .u32 ((lev + 1 : Nat) : Int), (.agg (pub.map (Value.int .u8)).toArray), (.agg (ad.map (Value.int .u32)).toArray)] w fun e w' => e = .returned (.agg ((compZ pub ad f (lev + 1) ds).map (Value.int .u8)).toArray) ∧ Below w.heap.size w w') :
    Calls Tryz.prog 196 #[.slice a n c, .int .u32 lev, (.agg (pub.map (Value.int .u8)).toArray), (.agg (ad.map (Value.int .u32)).toArray)] w fun e w' => e = .returned (.agg ((compZ pub ad (f + 1) lev ds).map (Value.int .u8)).toArray) ∧ Below w.heap.size w w' := by
  have HN := hid hN
  have hle := hN.le
  have hmx := hN.max
  have Hnl := hid hN.length
  have Hih := hid ih
  have hq1 : ¬ ((n : Int) = 1) := by omega
  have hq1b : ((n : Int) == 1) = false := by simpa using hq1
  have HDr := hid (compZ_dg pub ad (f + 1) lev ds hN.each (by rw [hN.length]; omega) (by rw [hN.length]; omega))
  clear hN ih
  have b1 := (Below.refl w.heap.size w).alloc (Nat.le_refl _) (.cells (pub.map (Value.int .u8)).toArray 25 (0, 0))
  have b2 := b1.alloc b1.size (.cells (ad.map (Value.int .u32)).toArray 216 (0, 0))
  have b3 := b2.alloc b2.size (.cells (byteCells 32 []) 25 (0, 0))
  have Kp := hid (((Blk.new (w := w) (n := w.heap.size) rfl (pub.map (Value.int .u8)).toArray 25).old (.cells (ad.map (Value.int .u32)).toArray 216 (0, 0))).old (.cells (byteCells 32 []) 25 (0, 0)))
  have Kad := hid ((Blk.new (w := (w.alloc (.cells (pub.map (Value.int .u8)).toArray 25 (0, 0)))) (n := w.heap.size + 1) (by simp only [World.size_alloc]) (ad.map (Value.int .u32)).toArray 216).old (.cells (byteCells 32 []) 25 (0, 0)))
  have Kr0 := hid (Blk.new (w := ((w.alloc (.cells (pub.map (Value.int .u8)).toArray 25 (0, 0))).alloc (.cells (ad.map (Value.int .u32)).toArray 216 (0, 0)))) (n := w.heap.size + 1 + 1) (by simp only [World.size_alloc]) (byteCells 32 []) 25)
  have Hb := hid b3
  have HzA := hid zsize
  have hbz := b3.size
  have Hbs := hid (show w.heap.size + 1 + 1 + 1 = (((w.alloc (.cells (pub.map (Value.int .u8)).toArray 25 (0, 0))).alloc (.cells (ad.map (Value.int .u32)).toArray 216 (0, 0))).alloc (.cells (byteCells 32 []) 25 (0, 0))).heap.size by simp only [World.size_alloc])
  clear b1 b2 b3
  have hs0 := Hb.out.size
  go_enter Tryz.func196, Tryz.ntmps196
  go_wp2_with fail
  have HO0 := hid (OwnD.nil (((w.alloc (.cells (pub.map (Value.int .u8)).toArray 25 (0, 0))).alloc (.cells (ad.map (Value.int .u32)).toArray 216 (0, 0))).alloc (.cells (byteCells 32 []) 25 (0, 0))) (w.heap.size + 1 + 1 + 1) 25)
  go_loopw [9, 10] (fun v iv wr => ∃ k : Nat, k ≤ n / 2 ∧ iv = .int .i64 (2 * (k : Int)) ∧ OwnD wr (w.heap.size + 1 + 1 + 1) 25 v ((List.range k).map fun (i : Nat) => joinZ (ds.getD (2 * i) []) (ds.getD (2 * i + 1) []) pub (setAd ad lev i 0)) ∧ Blk wr (w.heap.size) (pub.map (Value.int .u8)).toArray 25 ∧ Blk wr (w.heap.size + 1) (ad.map (Value.int .u32)).toArray 216 ∧ Blk wr (w.heap.size + 1 + 1) (byteCells 32 []) 25 ∧ Below w.heap.size w wr ∧ (w.heap.size + 1 + 1 + 1) ≤ wr.heap.size) (fun _ iv _ => n - (intOf iv).toNat)
  case atStart => exact ⟨0, Nat.zero_le _, rfl, HO0.out, Kp.out, Kad.out, Kr0.out, Hb.out, by rw [Hbs.out]; exact Nat.le_refl _⟩
  case round =>
    clear HO0 Kp Kad Kr0 Hb
    obtain ⟨k, hk, rfl, ho, kp, ka, kr, bel, hsz⟩ := hrel
    have HO := hid ho
    have Kp := hid kp
    have Ka := hid ka
    have Kr := hid kr
    have HB := hid bel
    clear ho kp ka kr bel
    by_cases hlt : k < n / 2
    · have hc0 : (2 * (k : Int)) + 1 < n := by omega
      have HDk := hid (HN.out.get (j := 2 * k) (by omega))
      have HDl := hid (HN.out.get (j := 2 * k + 1) (by omega))
      have HNr := HN.out.below HB.out
      obtain ⟨xs, xo, rfl, hxs, hcell⟩ := HNr.at_ (by omega)
      have hxw : xs < w.heap.size := by
        obtain ⟨x', o', he, hx', _⟩ := HN.out.at_ (by omega)
        injection he with he
        injection he with he
        rw [he]; exact hx'
      have Hck := hid (hcell (2 * k) (by omega))
      have Hcl := hid (hcell (2 * k + 1) (by omega))
      have HAt := hid (had.set (f := lev) (s := k) (p := 0) (by omega) (by omega) (by omega))
      have HJ := hid (Dg.join (ds.getD (2 * k) []) (ds.getD (2 * k + 1) []) pub (setAd ad lev k 0))
      have HL : Hid (((List.range (k + 1)).map fun (i : Nat) => joinZ (ds.getD (2 * i) []) (ds.getD (2 * i + 1) []) pub (setAd ad lev i 0)) = ((List.range k).map fun (i : Nat) => joinZ (ds.getD (2 * i) []) (ds.getD (2 * i + 1) []) pub (setAd ad lev i 0)) ++ [joinZ (ds.getD (2 * k) []) (ds.getD (2 * k + 1) []) pub (setAd ad lev k 0)]) := hid (by rw [List.range_succ, List.map_append]; rfl)
      have HLl := hid (show (((List.range k).map fun (i : Nat) => joinZ (ds.getD (2 * i) []) (ds.getD (2 * i + 1) []) pub (setAd ad lev i 0))).length = k by simp)
      obtain ⟨i0, hi, hz0, hz1, hz2⟩ := info_parts info_dig
      clear hcell HNr
      generalize hX : ds.getD (2 * k) [] = X at *
      generalize hY : ds.getD (2 * k + 1) [] = Y at *
      generalize hJ : joinZ X Y pub (setAd ad lev k 0) = J at *
      generalize hL : ((List.range k).map fun (i : Nat) => joinZ (ds.getD (2 * i) []) (ds.getD (2 * i + 1) []) pub (setAd ad lev i 0)) = L at *
      go_wp2_with fail
      refine FlowB.wp_region_butIn (u9.ownBlock.toList) (fun wz => OwnD wz (w.heap.size + 1 + 1 + 1) 25 u9 L) 20 (List.range 18) [18] [(.b 18, [], []), (.c 19, [], [])] (by kernel_rfl) (by kernel_rfl) HO.out (fun _ _ h hb => h.below hb) ?_
      apply Exists.intro
      refine ⟨fun w0 hb0 hF0 => ?_, ?_⟩
      · skip
        have x0 : ∀ w', (∃ x : Ext w0, w' = x.at_) → ∃ T, Blk w' (w.heap.size) (pub.map (Value.int .u8)).toArray T := fun w' ⟨x, hx⟩ => ⟨_, hx ▸ (hb0.blk Kp.out (own_low HO.out (by omega))).below x.same⟩
        have x1 : ∀ w', (∃ x : Ext w0, w' = x.at_) → ∃ T, Blk w' (w.heap.size + 1) (ad.map (Value.int .u32)).toArray T := fun w' ⟨x, hx⟩ => ⟨_, hx ▸ (hb0.blk Ka.out (own_low HO.out (by omega))).below x.same⟩
        have x2 : ∀ w', (∃ x : Ext w0, w' = x.at_) → w'.rangeAt xs (xo + 2 * k * 32) (X.map (Value.int .u8)) := fun w' ⟨x, hx⟩ => hx ▸ rangeAt_below (hb0.range hxs (own_low HO.out (by omega)) Hck.out) (Nat.lt_of_lt_of_le hxs hb0.size) x.same
        have x3 : ∀ w', (∃ x : Ext w0, w' = x.at_) → w'.rangeAt xs (xo + (2 * k + 1) * 32) (Y.map (Value.int .u8)) := fun w' ⟨x, hx⟩ => hx ▸ rangeAt_below (hb0.range hxs (own_low HO.out (by omega)) Hcl.out) (Nat.lt_of_lt_of_le hxs hb0.size) x.same
        have c0 := fun e : Ext w0 => refat_list ad lev k 0 e.at_ had
        have c1 := fun e : Ext w0 => refjoin_any X Y pub (setAd ad lev k 0) e.at_ HDk.out HDl.out hpub HAt.out
        rw [hJ] at c1
        simp only [pick, List.range, List.range.loop, List.getElem?_toArray, List.getElem?_cons_succ, List.getElem?_cons_zero, Option.toList_some, List.cons_append, List.nil_append]
        repeat (first | (go_big_quiet_want; refine quiet_load_blk 25 _ rfl (w.heap.size) rfl _ x0 _ Tryz.underlying25 rfl 32 size_digest hpub.size ?_; go_big_quiet_on; simp only [Act.put, List.setIfInBounds_toArray, List.set_cons_zero, List.set_cons_succ]) | (go_big_quiet_want; refine quiet_load_blk 216 _ rfl (w.heap.size + 1) rfl _ x1 _ Tryz.underlying216 rfl 8 sizeAdrs had.size ?_; go_big_quiet_on; simp only [Act.put, List.setIfInBounds_toArray, List.set_cons_zero, List.set_cons_succ]) | (go_big_quiet_want; refine quiet_index_digs 49 _ _ rfl Tryz.underlying49 size_digest xs xo n c rfl _ _ rfl (2 * k) (by omega) (by omega) ?_; go_big_quiet_on; simp only [Act.put, List.setIfInBounds_toArray, List.set_cons_zero, List.set_cons_succ]) | (go_big_quiet_want; refine quiet_index_digs 49 _ _ rfl Tryz.underlying49 size_digest xs xo n c rfl _ _ rfl (2 * k + 1) (by omega) (by omega) ?_; go_big_quiet_on; simp only [Act.put, List.setIfInBounds_toArray, List.set_cons_zero, List.set_cons_succ]) | (go_big_quiet_want; refine quiet_load_mid 25 _ rfl xs (xo + 2 * k * 32) rfl _ x2 _ Tryz.underlying25 rfl (by rw [List.length_map, HDk.out.len]; exact size_digest) ?_; go_big_quiet_on; simp only [Act.put, List.setIfInBounds_toArray, List.set_cons_zero, List.set_cons_succ]) | (go_big_quiet_want; refine quiet_load_mid 25 _ rfl xs (xo + (2 * k + 1) * 32) rfl _ x3 _ Tryz.underlying25 rfl (by rw [List.length_map, HDl.out.len]; exact size_digest) ?_; go_big_quiet_on; simp only [Act.put, List.setIfInBounds_toArray, List.set_cons_zero, List.set_cons_succ]) | go_big_quiet_step (first | (go_at_call 166; with_reducible exact Calls.ext (c0 _)) | (go_at_call 165; with_reducible exact Calls.ext (c1 _))))
        exact wpQuiet_nil rfl
      refine FlowB.AlChk.one rfl (fun b => .slice (some ⟨b, 0, none⟩) 1 1) (.cells (J.map (Value.int .u8)).toArray 25 (0, 0)) rfl (FlowB.st_butIn _ (own_size HO.out)) (fun w2 hb2 hF2 => exec_build_one rfl rfl HJ.out) ?_
      refine FlowB.AlChk.nil ?_
      refine FlowB.Walk.blk rfl (fun b => .slice (some ⟨b, 0, none⟩) 1 1) (.cells (J.map (Value.int .u8)).toArray 25 (0, 0)) (by simp) ?_
      intro b9 w2 hb2 hF2 hge9 _
      apply Exists.intro
      refine ⟨fun w2 hb2 hF2 => wpQuiet_nil rfl, ?_⟩
      refine FlowB.AlChk.nil ?_
      refine FlowB.Walk.does rfl (fun _ _ => True) (fun v w' => OwnD w' (w.heap.size + 1 + 1 + 1) 25 v (L ++ [J])) (fun v w' w'' _ h _ => h) (fun v w' w'' h k => h.below k) rfl (fun w2 hb2 hF2 hG2 => ?_) ?_
      · have k9 : Blk w2 b9 (J.map (Value.int .u8)).toArray 25 := hF2.2
        obtain ⟨v', w', hr, q2, q3, q4⟩ := run_append_dig (P := Tryz.prog) _ Tryz.underlying49 hi hz0 zD_cells32 hz1 hz2 hG2 k9 HJ.out (by rw [HLl.out]; omega) (Nat.le_trans hsz hb2.size)
        exact ⟨v', w', FlowB.exec_append rfl rfl rfl hr, FlowB.ButIn.of_grown q3, trivial, q2⟩
      rintro v3 w3 hb3 hF3 _
      apply Exists.intro
      refine ⟨fun w2 hb2 hF2 => wpQuiet_nil rfl, ?_⟩
      refine FlowB.AlChk.nil ?_
      refine FlowB.Walk.fin fun w4 h4 _ hG4 => ?_
      simp only [List.drop_succ_cons, List.drop_zero]
      have HG4 := hid hG4
      rw [← HL.out] at HG4
      have H4 := hid (And.intro (h4.blk Kp.out (own_low HO.out (by omega))) (And.intro (h4.blk Ka.out (own_low HO.out (by omega))) (And.intro (h4.blk Kr.out (own_low HO.out (by omega))) (And.intro (h4.below HB.out HB.out.size (fun b hb => by have := own_from HO.out b hb; omega)) (Nat.le_trans hsz h4.size)))))
      clear h4 hG4
      go_wp2_with fail
      refine ⟨⟨k + 1, by omega, ?_, HG4.out, H4.out.1, H4.out.2.1, H4.out.2.2.1, H4.out.2.2.2.1, H4.out.2.2.2.2⟩, by simp [intOf]; omega⟩
      rw [show (2 * (k : Int) + 2) = 2 * ((k + 1 : Nat) : Int) by omega]
    · have hkn : k = n / 2 := by omega
      subst hkn
      have hc0 : ¬ ((2 * ((n / 2 : Nat) : Int)) + 1 < n) := by omega
      have HLl := hid (show (((List.range (n / 2)).map fun (i : Nat) => joinZ (ds.getD (2 * i) []) (ds.getD (2 * i + 1) []) pub (setAd ad lev i 0))).length = n / 2 by simp)
      have HMore := hid (compZ_more pub ad f lev (ds := ds) (by rw [Hnl.out]; omega))
      have HE := hid HN.out.each
      have hal := aboveZ_length pub ad lev ds
      rw [Hnl.out] at hal
      have Hal := hid hal
      clear hal
      by_cases hodd : n % 2 = 1
      · have hoi : (n : Int) % 2 = 1 := by omega
        have HAb : Hid (aboveZ pub ad lev ds = ((List.range (n / 2)).map fun (i : Nat) => joinZ (ds.getD (2 * i) []) (ds.getD (2 * i + 1) []) pub (setAd ad lev i 0)) ++ [ds.getD (n - 1) []]) := hid (by
          unfold aboveZ
          rw [Hnl.out, hodd, List.drop_eq_getElem_cons (by rw [Hnl.out]; omega), List.drop_eq_nil_of_le (by rw [Hnl.out]; omega)]
          simp [List.getD_eq_getElem?_getD, show n - 1 < ds.length by rw [Hnl.out]; omega])
        have HX := hid (HN.out.get (j := n - 1) (by omega))
        have HNr := HN.out.below HB.out
        obtain ⟨xs, xo, rfl, hxs, hcell⟩ := HNr.at_ (by omega)
        have Hc := hid (hcell (n - 1) (by omega))
        obtain ⟨i0, hi, hz0, hz1, hz2⟩ := info_parts info_dig
        clear hcell HNr
        generalize hX : ds.getD (n - 1) [] = X at *
        generalize hL : ((List.range (n / 2)).map fun (i : Nat) => joinZ (ds.getD (2 * i) []) (ds.getD (2 * i + 1) []) pub (setAd ad lev i 0)) = L at *
        have HO1 := hid (HO.out.below ((Below.refl wr.heap.size wr).alloc (Nat.le_refl _) (.cells (X.map (Value.int .u8)).toArray 25 (0, 0))))
        have HK1 := hid (Blk.new (w := wr) rfl (X.map (Value.int .u8)).toArray 25)
        have HBa := hid (HB.out.alloc HB.out.size (.cells (X.map (Value.int .u8)).toArray 25 (0, 0)))
        have Kpa := hid (Kp.out.old (.cells (X.map (Value.int .u8)).toArray 25 (0, 0)))
        have Kaa := hid (Ka.out.old (.cells (X.map (Value.int .u8)).toArray 25 (0, 0)))
        have Kra := hid (Kr.out.old (.cells (X.map (Value.int .u8)).toArray 25 (0, 0)))
        go_wp2_with (first
         | (refine wpList_index_digs rfl 49 _ _ rfl Tryz.underlying49 size_digest xs xo n c rfl _ _ rfl (n - 1) (by omega) (by omega) ?_)
         | (refine wpList_load_mid rfl 25 _ rfl xs (xo + (n - 1) * 32) rfl _ _ Hc.out Tryz.underlying25 rfl (by rw [List.length_map, HX.out.len]; exact size_digest) ?_)
         | (refine wpList_build_one rfl _ rfl rfl HX.out ?_)
         | (
          at_builtin
          refine wpList_append_dig rfl _ _ rfl Tryz.underlying49 hi hz0 zD_cells32 hz1 hz2 rfl HO1.out rfl HK1.out HX.out (by rw [HLl.out]; omega) (by rw [World.size_alloc]; omega) ?_
          intro v5 w5 own5 hg5 b5
          have Ho5 := hid own5
          have HB5 := hid (HBa.out.trans (b5.mono (by omega)))
          have Kp5 := hid (Kpa.out.belowB (by omega) b5)
          have Ka5 := hid (Kaa.out.belowB (by omega) b5)
          have Kr5 := hid (Kra.out.belowB (by omega) b5)
          clear own5 hg5 b5)
         | (refine wpList_load_blk rfl 25 _ rfl (w.heap.size) rfl _ 25 Kp5.out _ Tryz.underlying25 rfl 32 size_digest hpub.size ?_)
         | (refine wpList_load_blk rfl 216 _ rfl (w.heap.size + 1) rfl _ 216 Ka5.out _ Tryz.underlying216 rfl 8 sizeAdrs had.size ?_))
        rw [← HAb.out] at Ho5
        obtain ⟨a5, c5, hv5, hD5, _⟩ := Ho5.out.digs
        rw [Hal.out] at hv5 hD5
        subst hv5
        have hC := Hih.out (aboveZ pub ad lev ds) a5 ((n + 1) / 2) c5 w5 hD5 (by omega) (by omega)
        rw [← HMore.out] at hC
        have HC := hid hC
        clear hC hD5
        refine HC.out.mono ?_
        rintro e w6 ⟨rfl, b6⟩
        have HB6 := hid (Below.on HB5.out b6)
        have Kr6 := hid (Kr5.out.below b6)
        clear b6
        generalize hR : compZ pub ad (f + 1) lev ds = R at *
        go_wp2_with (refine wpList_store_blk rfl 25 _ _ rfl (w.heap.size + 1 + 1) _ rfl rfl _ 25 Kr6.out 32 size_digest HzA.out HDr.out.size (ints_one _ _) ?_; intro w7 hbut7 hk7)
        exact bodyPost_ret (v := (.agg (R.map (Value.int .u8)).toArray)) (results_blk Tryz.results196 _ (w.heap.size + 1 + 1) rfl _ 25 hk7 _ Tryz.underlying25 rfl 32 size_digest HDr.out.size) rfl ⟨by rw [hR], hbut7.below HB6.out HB6.out.size (by omega)⟩
      · have hoi : ¬ ((n : Int) % 2 = 1) := by omega
        have HAb : Hid (aboveZ pub ad lev ds = ((List.range (n / 2)).map fun (i : Nat) => joinZ (ds.getD (2 * i) []) (ds.getD (2 * i + 1) []) pub (setAd ad lev i 0))) := hid (by
          unfold aboveZ
          rw [Hnl.out, show n % 2 = 0 by omega, List.drop_eq_nil_of_le (by rw [Hnl.out]; omega), List.append_nil])
        rw [← HAb.out] at HO
        obtain ⟨a5, c5, hv5, hD5, _⟩ := HO.out.digs
        rw [Hal.out] at hv5 hD5
        subst hv5
        have hC := Hih.out (aboveZ pub ad lev ds) a5 ((n + 1) / 2) c5 wr hD5 (by omega) (by omega)
        rw [← HMore.out] at hC
        have HC := hid hC
        clear hC hD5
        go_wp2_with (first | (refine wpList_load_blk rfl 25 _ rfl (w.heap.size) rfl _ 25 Kp.out _ Tryz.underlying25 rfl 32 size_digest hpub.size ?_) | (refine wpList_load_blk rfl 216 _ rfl (w.heap.size + 1) rfl _ 216 Ka.out _ Tryz.underlying216 rfl 8 sizeAdrs had.size ?_))
        refine HC.out.mono ?_
        rintro e w6 ⟨rfl, b6⟩
        have HB6 := hid (Below.on HB.out b6)
        have Kr6 := hid (Kr.out.below b6)
        clear b6
        generalize hR : compZ pub ad (f + 1) lev ds = R at *
        go_wp2_with (refine wpList_store_blk rfl 25 _ _ rfl (w.heap.size + 1 + 1) _ rfl rfl _ 25 Kr6.out 32 size_digest HzA.out HDr.out.size (ints_one _ _) ?_; intro w7 hbut7 hk7)
        exact bodyPost_ret (v := (.agg (R.map (Value.int .u8)).toArray)) (results_blk Tryz.results196 _ (w.heap.size + 1 + 1) rfl _ 25 hk7 _ Tryz.underlying25 rfl 32 size_digest HDr.out.size) rfl ⟨by rw [hR], hbut7.below HB6.out HB6.out.size (by omega)⟩
set_option maxHeartbeats 4000000 in
theorem up_one (pub ad : List Int) (f lev : Nat) (ds : List (List Int)) (a : Option Addr) (c : Nat) (w : World) (hN : DigsAt w a 1 c ds) :
    Calls Tryz.prog 196 #[.slice a 1 c, .int .u32 lev, (.agg (pub.map (Value.int .u8)).toArray), (.agg (ad.map (Value.int .u32)).toArray)] w fun e w' => e = .returned (.agg ((compZ pub ad f lev ds).map (Value.int .u8)).toArray) ∧ Below w.heap.size w w' := by
  have hone := compZ_one pub ad f lev (ds := ds) (by rw [hN.length]; exact Nat.le_refl _)
  rw [hone]
  have HX := hid (hN.get (j := 0) (by omega))
  have HN := hid hN
  clear hN hone
  have b1 := (Below.refl w.heap.size w).alloc (Nat.le_refl _) (.cells (pub.map (Value.int .u8)).toArray 25 (0, 0))
  have b2 := b1.alloc b1.size (.cells (ad.map (Value.int .u32)).toArray 216 (0, 0))
  have b3 := b2.alloc b2.size (.cells (byteCells 32 []) 25 (0, 0))
  have Kp := hid (((Blk.new (w := w) (n := w.heap.size) rfl (pub.map (Value.int .u8)).toArray 25).old (.cells (ad.map (Value.int .u32)).toArray 216 (0, 0))).old (.cells (byteCells 32 []) 25 (0, 0)))
  have Kad := hid ((Blk.new (w := (w.alloc (.cells (pub.map (Value.int .u8)).toArray 25 (0, 0)))) (n := w.heap.size + 1) (by simp only [World.size_alloc]) (ad.map (Value.int .u32)).toArray 216).old (.cells (byteCells 32 []) 25 (0, 0)))
  have Kr0 := hid (Blk.new (w := ((w.alloc (.cells (pub.map (Value.int .u8)).toArray 25 (0, 0))).alloc (.cells (ad.map (Value.int .u32)).toArray 216 (0, 0)))) (n := w.heap.size + 1 + 1) (by simp only [World.size_alloc]) (byteCells 32 []) 25)
  have Hb := hid b3
  have HzA := hid zsize
  have hbz := b3.size
  have Hbs := hid (show w.heap.size + 1 + 1 + 1 = (((w.alloc (.cells (pub.map (Value.int .u8)).toArray 25 (0, 0))).alloc (.cells (ad.map (Value.int .u32)).toArray 216 (0, 0))).alloc (.cells (byteCells 32 []) 25 (0, 0))).heap.size by simp only [World.size_alloc])
  clear b1 b2 b3
  have HN1 := HN.out.below Hb.out
  obtain ⟨xs, xo, rfl, hxs, hcell⟩ := HN1.at_ (by omega)
  have Hc := hid (hcell 0 (by omega))
  clear HN1 hcell
  generalize ds.getD 0 [] = X at *
  go_enter Tryz.func196, Tryz.ntmps196
  go_wp2_with (first
   | (refine wpList_index_digs rfl 49 _ _ rfl Tryz.underlying49 size_digest xs xo 1 c rfl _ _ rfl 0 rfl (by omega) ?_)
   | (refine wpList_load_mid rfl 25 _ rfl xs (xo + 0 * 32) rfl _ _ Hc.out Tryz.underlying25 rfl (by rw [List.length_map, HX.out.len]; exact size_digest) ?_)
   | (refine wpList_store_blk rfl 25 _ _ rfl (w.heap.size + 1 + 1) _ rfl rfl _ 25 Kr0.out 32 size_digest HzA.out HX.out.size (ints_one _ _) ?_; intro w7 hbut7 hk7))
  exact bodyPost_ret (v := (.agg (X.map (Value.int .u8)).toArray)) (results_blk Tryz.results196 _ (w.heap.size + 1 + 1) rfl _ 25 hk7 _ Tryz.underlying25 rfl 32 size_digest HX.out.size) rfl ⟨rfl, hbut7.below Hb.out Hb.out.size (by omega)⟩
theorem up_any (pub ad : List Int) (hpub : Dg pub) (had : Aw ad) : ∀ (f lev : Nat) (ds : List (List Int)) (a : Option Addr) (n c : Nat) (w : World), DigsAt w a n c ds → 1 ≤ n → n ≤ f → lev + f ≤ 100 →
    Calls Tryz.prog 196 #[.slice a n c, .int .u32 lev, (.agg (pub.map (Value.int .u8)).toArray), (.agg (ad.map (Value.int .u32)).toArray)] w fun e w' => e = .returned (.agg ((compZ pub ad f lev ds).map (Value.int .u8)).toArray) ∧ Below w.heap.size w w'
  | 0, _, _, _, _, _, _, _, h1, h2, _ => by omega
  | f + 1, lev, ds, a, n, c, w, hN, h1, h2, h3 => by
    by_cases hn : 2 ≤ n
    · exact up_more pub ad hpub had f lev ds a n c w hN hn h2 (by omega) (fun ds a n c w hN h1 h2 => up_any pub ad hpub had f (lev + 1) ds a n c w hN h1 h2 (by omega))
    · obtain rfl : n = 1 := by omega
      exact up_one pub ad (f + 1) lev ds a c w hN
set_option maxHeartbeats 4000000 in
theorem refcompress_any (na : Option Addr) (n nc : Nat) (ds : List (List Int)) (pub ad : List Int) (w : World) (hN : DigsAt w na n nc ds) (hn : 1 ≤ n ∧ n ≤ 67) (hpub : Dg pub) (had : Aw ad) :
    Calls Tryz.prog 164 #[.slice na n nc, (.agg (pub.map (Value.int .u8)).toArray), (.agg (ad.map (Value.int .u32)).toArray)] w fun e w' => e = .returned (.agg ((compZ pub ad n 0 ds).map (Value.int .u8)).toArray) ∧ Below w.heap.size w w' := by
  have HD := hid (compZ_dg pub ad n 0 ds hN.each (by rw [hN.length]; omega) (by rw [hN.length]; exact Nat.le_refl _))
  have HN := hid hN
  have C := hid (fun (W : World) (h : DigsAt W na n nc ds) => up_any pub ad hpub had n 0 ds na n nc W h hn.1 (Nat.le_refl _) (by omega))
  clear hN
  generalize compZ pub ad n 0 ds = R at *
  have b1 := (Below.refl w.heap.size w).alloc (Nat.le_refl _) (.cells (pub.map (Value.int .u8)).toArray 25 (0, 0))
  have b2 := b1.alloc b1.size (.cells (ad.map (Value.int .u32)).toArray 216 (0, 0))
  have b3 := b2.alloc b2.size (.cells (byteCells 32 []) 25 (0, 0))
  have Kp := hid (((Blk.new (w := w) (n := w.heap.size) rfl (pub.map (Value.int .u8)).toArray 25).old (.cells (ad.map (Value.int .u32)).toArray 216 (0, 0))).old (.cells (byteCells 32 []) 25 (0, 0)))
  have Kad := hid ((Blk.new (w := (w.alloc (.cells (pub.map (Value.int .u8)).toArray 25 (0, 0)))) (n := w.heap.size + 1) (by simp only [World.size_alloc]) (ad.map (Value.int .u32)).toArray 216).old (.cells (byteCells 32 []) 25 (0, 0)))
  have Kr0 := hid (Blk.new (w := ((w.alloc (.cells (pub.map (Value.int .u8)).toArray 25 (0, 0))).alloc (.cells (ad.map (Value.int .u32)).toArray 216 (0, 0)))) (n := w.heap.size + 1 + 1) (by simp only [World.size_alloc]) (byteCells 32 []) 25)
  have Hb := hid b3
  have HzA := hid zsize
  have hbz := b3.size
  have Hbs := hid (show w.heap.size + 1 + 1 + 1 = (((w.alloc (.cells (pub.map (Value.int .u8)).toArray 25 (0, 0))).alloc (.cells (ad.map (Value.int .u32)).toArray 216 (0, 0))).alloc (.cells (byteCells 32 []) 25 (0, 0))).heap.size by simp only [World.size_alloc])
  clear b1 b2 b3
  go_enter Tryz.func164, Tryz.ntmps164
  go_wp2_with (first | (refine wpList_load_blk rfl 25 _ rfl (w.heap.size) rfl _ 25 Kp.out _ Tryz.underlying25 rfl 32 size_digest hpub.size ?_) | (refine wpList_load_blk rfl 216 _ rfl (w.heap.size + 1) rfl _ 216 Kad.out _ Tryz.underlying216 rfl 8 sizeAdrs had.size ?_))
  refine (C.out _ (HN.out.below Hb.out)).mono ?_
  rintro e w6 ⟨rfl, b6⟩
  have HB6 := hid (Below.on Hb.out b6)
  have Kr6 := hid (Kr0.out.below b6)
  clear b6
  go_wp2_with (refine wpList_store_blk rfl 25 _ _ rfl (w.heap.size + 1 + 1) _ rfl rfl _ 25 Kr6.out 32 size_digest HzA.out HD.out.size (ints_one _ _) ?_; intro w7 hbut7 hk7)
  exact bodyPost_ret (v := (.agg (R.map (Value.int .u8)).toArray)) (results_blk Tryz.results164 _ (w.heap.size + 1 + 1) rfl _ 25 hk7 _ Tryz.underlying25 rfl 32 size_digest HD.out.size) rfl ⟨rfl, hbut7.below HB6.out HB6.out.size (by omega)⟩
end Go.Proofs.YtpinamdgbijjlaaGreatDoor
namespace Go.Proofs.YtpinamdgbijjlaaGreatDoor
set_option maxRecDepth 100000
open Go.ChangeShapes Go.WideShapes Go.ChangeAt Go.RowKit
def sD : List Int := 7 :: List.replicate 31 0
def zA : List Int := List.replicate 8 0
end Go.Proofs.YtpinamdgbijjlaaGreatDoor
namespace Go.Proofs.YtpinamdgbijjlaaGreatDoor
set_option maxRecDepth 100000
open Go.RowKit
section
variable {P : Program} {ops : Array Oper} {Q : Exit → Act → World → Prop}
end
def pl (l : List Nat) : Array Bool := l.foldl (fun x i => x.setIfInBounds i true) (Array.replicate 6 false)
/-- Two loads, two variables, two stores; the second load may come up behind the first store. -/
def pairB (l : List Oper) : Bool :=
  Region.noSelect l.toArray && l.length == 6 && Region.free .any l.toArray (pl []) 0 && Region.free .any l.toArray (pl [0]) 1 &&
  (Region.ready .any l.toArray (pl [])).contains 0 && (Region.ready .any l.toArray (pl [0])).contains 1 && Region.ready .any l.toArray (pl [0, 1]) == [2, 3] &&
  Region.ready .any l.toArray (pl [0, 1, 2]) == [3] && Region.ready .any l.toArray (pl [0, 1, 3]) == [2] &&
  [[0, 1, 2, 3], [0, 1, 3, 2]].all fun m => Region.ready .any l.toArray (pl m) == [4] && Region.ready .any l.toArray (pl (m ++ [4])) == [5] && Region.ready .any l.toArray (pl (m ++ [4, 5])) == []
def pairF (a : Act) (o0 o1 o2 o3 : Oper) (X Y : Array Value) (b c : Nat) : Act :=
  (((a.put o0.dst (.agg X)).put o1.dst (.agg Y)).put o2.dst (.pointer (some ⟨b, 0, none⟩))).put o3.dst (.pointer (some ⟨c, 0, none⟩))
end Go.Proofs.YtpinamdgbijjlaaGreatDoor
namespace Go.Proofs.YtpinamdgbijjlaaGreatDoor
set_option maxRecDepth 100000
open Go.ChangeShapes Go.WideShapes Go.ChangeAt Go.RowKit
/-- May there be so many levels, and such a leaf? -/
def rightZ (n i : Int) : Bool := decide (1 ≤ n ∧ n ≤ 4 ∧ 0 ≤ i ∧ i < 2 ^ n.toNat)
set_option maxHeartbeats 4000000 in
theorem tright_any (n i : Int) (w : World) :
    Calls Tryz.prog 120 #[.int .i64 n, .int .i64 i] w fun e w' => e = .returned (.bool (rightZ n i)) ∧ w' = w := by
  by_cases h1 : 1 ≤ n
  · by_cases h2 : n ≤ 4
    · rcases (show n = 1 ∨ n = 2 ∨ n = 3 ∨ n = 4 by omega) with rfl | rfl | rfl | rfl
      · by_cases h3 : 0 ≤ i
        · by_cases h4 : i < 2
          · have h4b : ¬ 2 ≤ i := by omega
            go_enter Tryz.func120, Tryz.ntmps120
            go_wp2
            go_returns
            exact ⟨by simp [rightZ, *] <;> omega, rfl⟩
          · have h4b : 2 ≤ i := by omega
            go_enter Tryz.func120, Tryz.ntmps120
            go_wp2
            go_returns
            exact ⟨by simp [rightZ, *] <;> omega, rfl⟩
        · have h3b : i < 0 := by omega
          go_enter Tryz.func120, Tryz.ntmps120
          go_wp2
          go_returns
          exact ⟨by simp [rightZ, *] <;> omega, rfl⟩
      · by_cases h3 : 0 ≤ i
        · by_cases h4 : i < 4
          · have h4b : ¬ 4 ≤ i := by omega
            go_enter Tryz.func120, Tryz.ntmps120
            go_wp2
            go_returns
            exact ⟨by simp [rightZ, *] <;> omega, rfl⟩
          · have h4b : 4 ≤ i := by omega
            go_enter Tryz.func120, Tryz.ntmps120
            go_wp2
            go_returns
            exact ⟨by simp [rightZ, *] <;> omega, rfl⟩
        · have h3b : i < 0 := by omega
          go_enter Tryz.func120, Tryz.ntmps120
          go_wp2
          go_returns
          exact ⟨by simp [rightZ, *] <;> omega, rfl⟩
      · by_cases h3 : 0 ≤ i
        · by_cases h4 : i < 8
          · have h4b : ¬ 8 ≤ i := by omega
            go_enter Tryz.func120, Tryz.ntmps120
            go_wp2
            go_returns
            exact ⟨by simp [rightZ, *] <;> omega, rfl⟩
          · have h4b : 8 ≤ i := by omega
            go_enter Tryz.func120, Tryz.ntmps120
            go_wp2
            go_returns
            exact ⟨by simp [rightZ, *] <;> omega, rfl⟩
        · have h3b : i < 0 := by omega
          go_enter Tryz.func120, Tryz.ntmps120
          go_wp2
          go_returns
          exact ⟨by simp [rightZ, *] <;> omega, rfl⟩
      · by_cases h3 : 0 ≤ i
        · by_cases h4 : i < 16
          · have h4b : ¬ 16 ≤ i := by omega
            go_enter Tryz.func120, Tryz.ntmps120
            go_wp2
            go_returns
            exact ⟨by simp [rightZ, *] <;> omega, rfl⟩
          · have h4b : 16 ≤ i := by omega
            go_enter Tryz.func120, Tryz.ntmps120
            go_wp2
            go_returns
            exact ⟨by simp [rightZ, *] <;> omega, rfl⟩
        · have h3b : i < 0 := by omega
          go_enter Tryz.func120, Tryz.ntmps120
          go_wp2
          go_returns
          exact ⟨by simp [rightZ, *] <;> omega, rfl⟩
    · have h2b : 4 < n := by omega
      go_enter Tryz.func120, Tryz.ntmps120
      go_wp2
      go_returns
      exact ⟨by simp [rightZ, *] <;> omega, rfl⟩
  · have h1b : n < 1 := by omega
    go_enter Tryz.func120, Tryz.ntmps120
    go_wp2
    go_returns
    exact ⟨by simp [rightZ, *] <;> omega, rfl⟩
/-- A tree's address. -/
def treeZ (la tr : Int) : List Int := [la, tr / 4294967296, tr % 4294967296, 2, 0, 0, 0, 0]
theorem Aw.tree {la tr : Int} (hl : 0 ≤ la ∧ la < 4294967296) (ht : 0 ≤ tr ∧ tr < 18446744073709551616) : Aw (treeZ la tr) := ⟨rfl, fun x hx => by
  simp only [treeZ, List.mem_cons, List.not_mem_nil, or_false] at hx
  omega⟩
theorem tree_list (la tr : Int) (w : World) (h0 : 0 ≤ tr) (h1 : tr < 18446744073709551616) :
    Calls Tryz.prog 121 #[.int .u32 la, .int .u64 tr] w fun e w' => e = .returned (.agg ((treeZ la tr).map (Value.int .u32)).toArray) ∧ Below w.heap.size w w' := tree_any la tr w h0 h1
set_option maxHeartbeats 4000000 in
theorem tjoin_any (da db pub ad : List Int) (lev num : Int) (w : World) (hda : Dg da) (hdb : Dg db) (hpub : Dg pub) (had : Aw ad) (hl : 0 ≤ lev ∧ lev < 4294967296) (hn : 0 ≤ num ∧ num < 4294967296) (tab : ShaTab w) :
    Calls Tryz.prog 156 #[(.agg (da.map (Value.int .u8)).toArray), (.agg (db.map (Value.int .u8)).toArray), (.agg (pub.map (Value.int .u8)).toArray), (.agg (ad.map (Value.int .u32)).toArray), .int .i64 lev, .int .i64 num] w fun e w' => e = .returned (.agg ((joinZ da db pub (setAd ad lev num 0)).map (Value.int .u8)).toArray) ∧ Below w.heap.size w w' := by
  have HJ := hid (Dg.join da db pub (setAd ad lev num 0))
  have HA := hid (had.set (f := lev) (s := num) (p := 0) hl hn (by omega))
  have J1 := hid (fun (W : World) (t : ShaTab W) => ljoin_any da db pub (setAd ad lev num 0) W hda hdb hpub HA.out t)
  generalize (joinZ da db pub (setAd ad lev num 0)) = J at *
  have b1 := (Below.refl w.heap.size w).alloc (Nat.le_refl _) (.cells (da.map (Value.int .u8)).toArray 25 (0, 0))
  have b2 := b1.alloc b1.size (.cells (db.map (Value.int .u8)).toArray 25 (0, 0))
  have b3 := b2.alloc b2.size (.cells (pub.map (Value.int .u8)).toArray 25 (0, 0))
  have b4 := b3.alloc b3.size (.cells (ad.map (Value.int .u32)).toArray 216 (0, 0))
  have b5 := b4.alloc b4.size (.cells (byteCells 32 []) 25 (0, 0))
  have Ka := hid (((((Blk.new (w := w) (n := w.heap.size) rfl (da.map (Value.int .u8)).toArray 25).old (.cells (db.map (Value.int .u8)).toArray 25 (0, 0))).old (.cells (pub.map (Value.int .u8)).toArray 25 (0, 0))).old (.cells (ad.map (Value.int .u32)).toArray 216 (0, 0))).old (.cells (byteCells 32 []) 25 (0, 0)))
  have Kb := hid ((((Blk.new (w := (w.alloc (.cells (da.map (Value.int .u8)).toArray 25 (0, 0)))) (n := w.heap.size + 1) (by simp only [World.size_alloc]) (db.map (Value.int .u8)).toArray 25).old (.cells (pub.map (Value.int .u8)).toArray 25 (0, 0))).old (.cells (ad.map (Value.int .u32)).toArray 216 (0, 0))).old (.cells (byteCells 32 []) 25 (0, 0)))
  have Kp := hid (((Blk.new (w := ((w.alloc (.cells (da.map (Value.int .u8)).toArray 25 (0, 0))).alloc (.cells (db.map (Value.int .u8)).toArray 25 (0, 0)))) (n := w.heap.size + 1 + 1) (by simp only [World.size_alloc]) (pub.map (Value.int .u8)).toArray 25).old (.cells (ad.map (Value.int .u32)).toArray 216 (0, 0))).old (.cells (byteCells 32 []) 25 (0, 0)))
  have Kad := hid ((Blk.new (w := (((w.alloc (.cells (da.map (Value.int .u8)).toArray 25 (0, 0))).alloc (.cells (db.map (Value.int .u8)).toArray 25 (0, 0))).alloc (.cells (pub.map (Value.int .u8)).toArray 25 (0, 0)))) (n := w.heap.size + 1 + 1 + 1) (by simp only [World.size_alloc]) (ad.map (Value.int .u32)).toArray 216).old (.cells (byteCells 32 []) 25 (0, 0)))
  have Kr0 := hid (Blk.new (w := ((((w.alloc (.cells (da.map (Value.int .u8)).toArray 25 (0, 0))).alloc (.cells (db.map (Value.int .u8)).toArray 25 (0, 0))).alloc (.cells (pub.map (Value.int .u8)).toArray 25 (0, 0))).alloc (.cells (ad.map (Value.int .u32)).toArray 216 (0, 0)))) (n := w.heap.size + 1 + 1 + 1 + 1) (by simp only [World.size_alloc]) (byteCells 32 []) 25)
  have Hb := hid b5
  have HzA := hid zsize
  have hbz := b5.size
  have Hbs := hid (show w.heap.size + 1 + 1 + 1 + 1 + 1 = (((((w.alloc (.cells (da.map (Value.int .u8)).toArray 25 (0, 0))).alloc (.cells (db.map (Value.int .u8)).toArray 25 (0, 0))).alloc (.cells (pub.map (Value.int .u8)).toArray 25 (0, 0))).alloc (.cells (ad.map (Value.int .u32)).toArray 216 (0, 0))).alloc (.cells (byteCells 32 []) 25 (0, 0))).heap.size by simp only [World.size_alloc])
  have Htab := hid tab
  clear b1 b2 b3 b4 b5 tab
  go_enter Tryz.func156, Tryz.ntmps156
  go_wp2_with fail
  refine wp_region_flow 10 (List.range 10) [] [] (by kernel_rfl) (by kernel_rfl) ?_
  apply Exists.intro
  refine ⟨fun w0 hb0 hF0 => ?_, ?_⟩
  · skip
    have x0 : ∀ w', (∃ x : Ext w0, w' = x.at_) → ∃ T, Blk w' (w.heap.size) (da.map (Value.int .u8)).toArray T := fun w' ⟨x, hx⟩ => ⟨_, hx ▸ (Ka.out.below hb0).below x.same⟩
    have x1 : ∀ w', (∃ x : Ext w0, w' = x.at_) → ∃ T, Blk w' (w.heap.size + 1) (db.map (Value.int .u8)).toArray T := fun w' ⟨x, hx⟩ => ⟨_, hx ▸ (Kb.out.below hb0).below x.same⟩
    have x2 : ∀ w', (∃ x : Ext w0, w' = x.at_) → ∃ T, Blk w' (w.heap.size + 1 + 1) (pub.map (Value.int .u8)).toArray T := fun w' ⟨x, hx⟩ => ⟨_, hx ▸ (Kp.out.below hb0).below x.same⟩
    have x3 : ∀ w', (∃ x : Ext w0, w' = x.at_) → ∃ T, Blk w' (w.heap.size + 1 + 1 + 1) (ad.map (Value.int .u32)).toArray T := fun w' ⟨x, hx⟩ => ⟨_, hx ▸ (Kad.out.below hb0).below x.same⟩
    have c0 := fun e : Ext w0 => at_list ad lev num e.at_ had
    have c1 := fun e : Ext w0 => J1.out e.at_ ((Htab.out.below (Below.on Hb.out hb0)).below e.same)
    simp only [pick, List.range, List.range.loop, List.getElem?_toArray, List.getElem?_cons_succ, List.getElem?_cons_zero, Option.toList_some, List.cons_append, List.nil_append]
    repeat (first | (go_big_quiet_want; refine quiet_load_blk 25 _ rfl (w.heap.size) rfl _ x0 _ Tryz.underlying25 rfl 32 size_digest hda.size ?_; go_big_quiet_on; simp only [Act.put, List.setIfInBounds_toArray, List.set_cons_zero, List.set_cons_succ]) | (go_big_quiet_want; refine quiet_load_blk 25 _ rfl (w.heap.size + 1) rfl _ x1 _ Tryz.underlying25 rfl 32 size_digest hdb.size ?_; go_big_quiet_on; simp only [Act.put, List.setIfInBounds_toArray, List.set_cons_zero, List.set_cons_succ]) | (go_big_quiet_want; refine quiet_load_blk 25 _ rfl (w.heap.size + 1 + 1) rfl _ x2 _ Tryz.underlying25 rfl 32 size_digest hpub.size ?_; go_big_quiet_on; simp only [Act.put, List.setIfInBounds_toArray, List.set_cons_zero, List.set_cons_succ]) | (go_big_quiet_want; refine quiet_load_blk 216 _ rfl (w.heap.size + 1 + 1 + 1) rfl _ x3 _ Tryz.underlying216 rfl 8 sizeAdrs had.size ?_; go_big_quiet_on; simp only [Act.put, List.setIfInBounds_toArray, List.set_cons_zero, List.set_cons_succ]) | go_big_quiet_step (first | (go_at_call 187; with_reducible exact Calls.ext (c0 _)) | (go_at_call 186; with_reducible exact Calls.ext (c1 _))))
    exact wpQuiet_nil rfl
  refine AlChk.nil ?_
  refine Walk.fin fun w1 hw1 _ _ => ?_
  simp only [List.drop_succ_cons, List.drop_zero]
  have HBw1 := hid (Below.on Hb.out hw1)
  have hsw1 := HBw1.out.size
  have Kaw1 := hid (Ka.out.below hw1)
  have Kbw1 := hid (Kb.out.below hw1)
  have Kpw1 := hid (Kp.out.below hw1)
  have Kadw1 := hid (Kad.out.below hw1)
  have Kr0w1 := hid (Kr0.out.below hw1)
  clear hw1
  go_wp2_with (
      refine wpList_store_blk rfl 25 _ _ rfl (w.heap.size + 1 + 1 + 1 + 1) (J.map (Value.int .u8)).toArray rfl rfl _ 25 Kr0w1.out 32 size_digest HzA.out HJ.out.size (ints_one _ _) ?_
      intro w9 hb9 hk9
      have HB9 := hid (hb9.below HBw1.out HBw1.out.size (by omega))
      have HK9 := hid hk9
      clear hb9 hk9)
  exact bodyPost_ret (v := (.agg (J.map (Value.int .u8)).toArray)) (results_blk Tryz.results156 _ (w.heap.size + 1 + 1 + 1 + 1) rfl _ 25 HK9.out _ Tryz.underlying25 rfl 32 size_digest HJ.out.size) rfl ⟨rfl, HB9.out⟩
end Go.Proofs.YtpinamdgbijjlaaGreatDoor
namespace Go.Proofs.YtpinamdgbijjlaaGreatDoor
set_option maxRecDepth 100000
open Go.ChangeShapes Go.WideShapes Go.ChangeAt Go.RowKit
theorem tright_b (n i : Int) (b : Bool) (hb : rightZ n i = b) (w : World) : Calls Tryz.prog 120 #[.int .i64 n, .int .i64 i] w fun e w' => e = .returned (.bool b) ∧ Below w.heap.size w w' :=
  (tright_any n i w).mono fun e w' h => by
    obtain ⟨rfl, rfl⟩ := h
    exact ⟨by rw [hb], Below.refl _ _⟩
/-- One step up. -/
def climbS (pub ad : List Int) (i : Int) (lev : Nat) (x s : List Int) : List Int :=
  if i / 2 ^ lev % 2 = 1 then joinZ s x pub (setAd ad lev (i / 2 ^ lev / 2) 0) else joinZ x s pub (setAd ad lev (i / 2 ^ lev / 2) 0)
def climbZ (pub ad : List Int) (i : Int) (way : List (List Int)) (x : List Int) : Nat → List Int
  | 0 => x
  | k + 1 => climbS pub ad i k (climbZ pub ad i way x k) (way.getD k [])
end Go.Proofs.YtpinamdgbijjlaaGreatDoor
namespace Go.Proofs.YtpinamdgbijjlaaGreatDoor
set_option maxRecDepth 100000
open Go.ChangeShapes Go.WideShapes Go.ChangeAt Go.RowKit
set_option maxHeartbeats 4000000 in
theorem refbase_tree (la tr : Int) (w : World) (h0 : 0 ≤ tr) (h1 : tr < 18446744073709551616) :
    Calls Tryz.prog 163 #[.int .u32 la, .int .u64 tr, .int .u32 2, .int .u32 0] w fun e w' => e = .returned (.agg ((treeZ la tr).map (Value.int .u32)).toArray) ∧ Below w.heap.size w w' := by
  go_enter Tryz.func163, Tryz.ntmps163
  go_wp2
  go_returns
  exact ⟨rfl, by go_grown⟩
set_option maxHeartbeats 4000000 in
theorem two_any (da db pub : List Int) (la tr lev num : Int) (w : World) (hda : Dg da) (hdb : Dg db) (hpub : Dg pub) (hla : 0 ≤ la ∧ la < 4294967296) (htr : 0 ≤ tr ∧ tr < 18446744073709551616) (hl : 0 ≤ lev ∧ lev < 4294967296) (hn : 0 ≤ num ∧ num < 4294967296) :
    Calls Tryz.prog 126 #[(.agg (da.map (Value.int .u8)).toArray), (.agg (db.map (Value.int .u8)).toArray), (.agg (pub.map (Value.int .u8)).toArray), .int .u32 la, .int .u64 tr, .int .i64 lev, .int .i64 num] w fun e w' => e = .returned (.agg ((joinZ da db pub (setAd (treeZ la tr) lev num 0)).map (Value.int .u8)).toArray) ∧ Below w.heap.size w w' := by
  have HJ := hid (Dg.join da db pub (setAd (treeZ la tr) lev num 0))
  have HAd := hid (Aw.tree hla htr)
  have HA := hid (HAd.out.set (f := lev) (s := num) (p := 0) hl hn (by omega))
  have J1 := hid (fun (W : World) => refjoin_any da db pub (setAd (treeZ la tr) lev num 0) W hda hdb hpub HA.out)
  generalize (joinZ da db pub (setAd (treeZ la tr) lev num 0)) = J at *
  have b1 := (Below.refl w.heap.size w).alloc (Nat.le_refl _) (.cells (da.map (Value.int .u8)).toArray 25 (0, 0))
  have b2 := b1.alloc b1.size (.cells (db.map (Value.int .u8)).toArray 25 (0, 0))
  have b3 := b2.alloc b2.size (.cells (pub.map (Value.int .u8)).toArray 25 (0, 0))
  have b4 := b3.alloc b3.size (.cells (byteCells 32 []) 25 (0, 0))
  have Ka := hid ((((Blk.new (w := w) (n := w.heap.size) rfl (da.map (Value.int .u8)).toArray 25).old (.cells (db.map (Value.int .u8)).toArray 25 (0, 0))).old (.cells (pub.map (Value.int .u8)).toArray 25 (0, 0))).old (.cells (byteCells 32 []) 25 (0, 0)))
  have Kb := hid (((Blk.new (w := (w.alloc (.cells (da.map (Value.int .u8)).toArray 25 (0, 0)))) (n := w.heap.size + 1) (by simp only [World.size_alloc]) (db.map (Value.int .u8)).toArray 25).old (.cells (pub.map (Value.int .u8)).toArray 25 (0, 0))).old (.cells (byteCells 32 []) 25 (0, 0)))
  have Kp := hid ((Blk.new (w := ((w.alloc (.cells (da.map (Value.int .u8)).toArray 25 (0, 0))).alloc (.cells (db.map (Value.int .u8)).toArray 25 (0, 0)))) (n := w.heap.size + 1 + 1) (by simp only [World.size_alloc]) (pub.map (Value.int .u8)).toArray 25).old (.cells (byteCells 32 []) 25 (0, 0)))
  have Kr0 := hid (Blk.new (w := (((w.alloc (.cells (da.map (Value.int .u8)).toArray 25 (0, 0))).alloc (.cells (db.map (Value.int .u8)).toArray 25 (0, 0))).alloc (.cells (pub.map (Value.int .u8)).toArray 25 (0, 0)))) (n := w.heap.size + 1 + 1 + 1) (by simp only [World.size_alloc]) (byteCells 32 []) 25)
  have Hb := hid b4
  have HzA := hid zsize
  have hbz := b4.size
  have Hbs := hid (show w.heap.size + 1 + 1 + 1 + 1 = ((((w.alloc (.cells (da.map (Value.int .u8)).toArray 25 (0, 0))).alloc (.cells (db.map (Value.int .u8)).toArray 25 (0, 0))).alloc (.cells (pub.map (Value.int .u8)).toArray 25 (0, 0))).alloc (.cells (byteCells 32 []) 25 (0, 0))).heap.size by simp only [World.size_alloc])
  clear b1 b2 b3 b4
  go_enter Tryz.func126, Tryz.ntmps126
  go_wp2_with fail
  refine wp_region_flow 12 (List.range 12) [] [] (by kernel_rfl) (by kernel_rfl) ?_
  apply Exists.intro
  refine ⟨fun w0 hb0 hF0 => ?_, ?_⟩
  · skip
    have x0 : ∀ w', (∃ x : Ext w0, w' = x.at_) → ∃ T, Blk w' (w.heap.size) (da.map (Value.int .u8)).toArray T := fun w' ⟨x, hx⟩ => ⟨_, hx ▸ (Ka.out.below hb0).below x.same⟩
    have x1 : ∀ w', (∃ x : Ext w0, w' = x.at_) → ∃ T, Blk w' (w.heap.size + 1) (db.map (Value.int .u8)).toArray T := fun w' ⟨x, hx⟩ => ⟨_, hx ▸ (Kb.out.below hb0).below x.same⟩
    have x2 : ∀ w', (∃ x : Ext w0, w' = x.at_) → ∃ T, Blk w' (w.heap.size + 1 + 1) (pub.map (Value.int .u8)).toArray T := fun w' ⟨x, hx⟩ => ⟨_, hx ▸ (Kp.out.below hb0).below x.same⟩
    have c0 := fun e : Ext w0 => refbase_tree la tr e.at_ htr.1 htr.2
    have c1 := fun e : Ext w0 => refat_list (treeZ la tr) lev num 0 e.at_ HAd.out
    have c2 := fun e : Ext w0 => J1.out e.at_
    simp only [pick, List.range, List.range.loop, List.getElem?_toArray, List.getElem?_cons_succ, List.getElem?_cons_zero, Option.toList_some, List.cons_append, List.nil_append]
    repeat (first | (go_big_quiet_want; refine quiet_load_blk 25 _ rfl (w.heap.size) rfl _ x0 _ Tryz.underlying25 rfl 32 size_digest hda.size ?_; go_big_quiet_on; simp only [Act.put, List.setIfInBounds_toArray, List.set_cons_zero, List.set_cons_succ]) | (go_big_quiet_want; refine quiet_load_blk 25 _ rfl (w.heap.size + 1) rfl _ x1 _ Tryz.underlying25 rfl 32 size_digest hdb.size ?_; go_big_quiet_on; simp only [Act.put, List.setIfInBounds_toArray, List.set_cons_zero, List.set_cons_succ]) | (go_big_quiet_want; refine quiet_load_blk 25 _ rfl (w.heap.size + 1 + 1) rfl _ x2 _ Tryz.underlying25 rfl 32 size_digest hpub.size ?_; go_big_quiet_on; simp only [Act.put, List.setIfInBounds_toArray, List.set_cons_zero, List.set_cons_succ]) | go_big_quiet_step (first | (go_at_call 163; with_reducible exact Calls.ext (c0 _)) | (go_at_call 166; with_reducible exact Calls.ext (c1 _)) | (go_at_call 165; with_reducible exact Calls.ext (c2 _))))
    exact wpQuiet_nil rfl
  refine AlChk.nil ?_
  refine Walk.fin fun w1 hw1 _ _ => ?_
  simp only [List.drop_succ_cons, List.drop_zero]
  have HBw1 := hid (Below.on Hb.out hw1)
  have hsw1 := HBw1.out.size
  have Kaw1 := hid (Ka.out.below hw1)
  have Kbw1 := hid (Kb.out.below hw1)
  have Kpw1 := hid (Kp.out.below hw1)
  have Kr0w1 := hid (Kr0.out.below hw1)
  clear hw1
  go_wp2_with (
      refine wpList_store_blk rfl 25 _ _ rfl (w.heap.size + 1 + 1 + 1) (J.map (Value.int .u8)).toArray rfl rfl _ 25 Kr0w1.out 32 size_digest HzA.out HJ.out.size (ints_one _ _) ?_
      intro w9 hb9 hk9
      have HB9 := hid (hb9.below HBw1.out HBw1.out.size (by omega))
      have HK9 := hid hk9
      clear hb9 hk9)
  exact bodyPost_ret (v := (.agg (J.map (Value.int .u8)).toArray)) (results_blk Tryz.results126 _ (w.heap.size + 1 + 1 + 1) rfl _ 25 HK9.out _ Tryz.underlying25 rfl 32 size_digest HJ.out.size) rfl ⟨rfl, HB9.out⟩
end Go.Proofs.YtpinamdgbijjlaaGreatDoor
namespace Go.Proofs.YtpinamdgbijjlaaGreatDoor
set_option maxRecDepth 100000
open Go.ChangeShapes Go.WideShapes Go.ChangeAt Go.RowKit
section
variable {P : Program} {w : World}
theorem results_blk_tmp2 {fn : Func} {p u x : Tmp} {ty : TypeId} (h : fn.results = #[.cell p ty, .tmp u, .tmp x]) (tmps : Array Value) (b : Nat) (hp : tmps.getD p undef = .pointer (some ⟨b, 0, none⟩)) (v v2 : Value) (hv : tmps.getD u undef = v) (hv2 : tmps.getD x undef = v2) (cs : Array Value) (T : TypeId) (hk : Blk w b cs T)
    (d : TypeDesc) (hu : P.underlying ty = some d) (hd : d.isRow = true) (n : Nat) (hi : (P.info? ty).map (·.size) = some n) (hs : cs.size = n) : (results fn tmps).run P w = .ok (.tuple #[.agg cs, v, v2]) w := by
  have hp' : tmps[p]?.getD undef = .pointer (some ⟨b, 0, none⟩) := by simpa using hp
  have hv' : tmps[u]?.getD undef = v := by simpa using hv
  have hv2' : tmps[x]?.getD undef = v2 := by simpa using hv2
  have hl := run_loadVar_row (P := P) w b T ty cs (0, 0) d hk hu (by cases d <;> simp_all) (by rw [hi, hs])
  simp [results, h, hp', hv', hv2', asAddr, hl]
end
def d1 : List Int := 1 :: List.replicate 31 0
def d2 : List Int := 2 :: List.replicate 31 0
end Go.Proofs.YtpinamdgbijjlaaGreatDoor
namespace Go.Proofs.YtpinamdgbijjlaaGreatDoor
set_option maxRecDepth 100000
open Go.ChangeShapes Go.WideShapes Go.ChangeAt Go.RowKit
end Go.Proofs.YtpinamdgbijjlaaGreatDoor
namespace Go.Proofs.YtpinamdgbijjlaaGreatDoor
set_option maxRecDepth 100000
open Go.ChangeShapes Go.WideShapes Go.ChangeAt Go.RowKit
def rowW (P : Nat → List Int) : List (List Int) := (List.range 67).map P
def fillW (P : Nat → List Int) (k : Nat) : List (List Int) := (List.range k).map P ++ List.replicate (67 - k) zD
theorem fillW_length {P : Nat → List Int} {k : Nat} (h : k ≤ 67) : (fillW P k).length = 67 := by
  simp only [fillW, List.length_append, List.length_map, List.length_range, List.length_replicate]
  omega
theorem fillW_each {P : Nat → List Int} (h : ∀ i, Dg (P i)) (k : Nat) : ∀ d ∈ fillW P k, Dg d := fun d hd => by
  unfold fillW at hd
  rcases List.mem_append.1 hd with hd | hd
  · obtain ⟨i, _, rfl⟩ := List.mem_map.1 hd
    exact h i
  · exact zRow _ d hd
theorem fillW_set {P : Nat → List Int} {k : Nat} (h : k < 67) : (fillW P k).set k (P k) = fillW P (k + 1) := by
  unfold fillW
  rw [List.set_append_right _ _ (by simp), show 67 - k = (67 - (k + 1)) + 1 by omega, List.replicate_succ, List.range_succ, List.map_append]
  simp
theorem fillW_zero (P : Nat → List Int) : fillW P 0 = List.replicate 67 zD := by simp [fillW]
theorem fillW_done (P : Nat → List Int) : fillW P 67 = rowW P := by simp [fillW, rowW]
theorem rowW_length (P : Nat → List Int) : (rowW P).length = 67 := by simp [rowW]
theorem rowW_each {P : Nat → List Int} (h : ∀ i, Dg (P i)) : ∀ d ∈ rowW P, Dg d := fun d hd => by
  obtain ⟨i, _, rfl⟩ := List.mem_map.1 hd
  exact h i
theorem rowW_get (P : Nat → List Int) {i : Nat} (h : i < 67) : (rowW P).getD i [] = P i := by
  simp [rowW, h]
theorem enter_run {P : Program} {f : FuncId} {fn : Func} {c : Code} (hf : P.funcs[f]? = some fn) (hname : (fn.name == "runtime.NumGoroutine") = false) (hb : fn.body = some c) (args : Array Value) (w : World) :
    (callFunc f args).run P w = .ok (.enter f args) w := by
  have h1 : fn.name ≠ "runtime.NumGoroutine" := by simpa using hname
  simp [callFunc, hf, h1, hb]
set_option maxHeartbeats 4000000 in
theorem each_any (ad : List Int) (f : FuncId) (cap : Array Value) (P : Nat → List Int) (w : World) (had : Aw ad) (hP : ∀ i, Dg (P i)) (hf : ∀ (args : Array Value) (W : World), (callFunc f args).run Tryz.prog W = .ok (.enter f args) W)
    (hp : ∀ i, i < 67 → ∀ W, Below w.heap.size w W → Calls Tryz.prog f (#[.int .i64 i, (.agg ((setAd ad i 0 0).map (Value.int .u32)).toArray)] ++ cap) W fun e w' => e = .returned (.agg ((P i).map (Value.int .u8)).toArray) ∧ Below W.heap.size W w') :
    Calls Tryz.prog 188 #[(.agg (ad.map (Value.int .u32)).toArray), .func (.func f) #[] cap] w fun e w' => ∃ g, w.heap.size ≤ g ∧ e = .returned (.slice (some ⟨g, 0, none⟩) 67 67) ∧ Below w.heap.size w w' ∧ Blk w' g (dcs (rowW P)) 25 := by
  have b1 := (Below.refl w.heap.size w).alloc (Nat.le_refl _) (.cells (ad.map (Value.int .u32)).toArray 216 (0, 0))
  have Kad := hid (Blk.new (w := w) (n := w.heap.size) rfl (ad.map (Value.int .u32)).toArray 216)
  have Hb := hid b1
  have HzA := hid zsize
  have hbz := b1.size
  have Hbs := hid (show w.heap.size + 1 = (w.alloc (.cells (ad.map (Value.int .u32)).toArray 216 (0, 0))).heap.size by simp only [World.size_alloc])
  clear b1
  have hb2 := Hb.out
  have b3 := hb2.alloc hb2.size (.cells (dcs (List.replicate 67 zD)) 25 (0, 0))
  have Kg3 := hid (Blk.new (w := (w.alloc (.cells (ad.map (Value.int .u32)).toArray 216 (0, 0)))) (n := (w.heap.size + 1)) (by simp only [World.size_alloc]) (dcs (List.replicate 67 zD)) 25)
  have Ka3 := hid (Kad.out.old (.cells (dcs (List.replicate 67 zD)) 25 (0, 0)))
  have Hb3 := hid b3
  clear b3 hb2
  have hmk := fun W : World => make_digs 67 67 rfl (by omega) W
  rw [← fillW_zero P] at Kg3
  go_enter Tryz.func188, Tryz.ntmps188
  go_wp2_with fail
  go_loopw [10] (fun v wr => ∃ k : Nat, k ≤ 67 ∧ v = .int .i64 k ∧ Blk wr (w.heap.size + 1) (dcs (fillW P k)) 25 ∧ Blk wr (w.heap.size) (ad.map (Value.int .u32)).toArray 216 ∧ Below w.heap.size w wr) (fun v _ => 67 - (intOf v).toNat)
  case atStart => exact ⟨0, Nat.zero_le _, rfl, Kg3.out, Ka3.out, Hb3.out⟩
  case round =>
    clear Kg3 Ka3 Hb3
    obtain ⟨k, hk, rfl, kg, ka, bel⟩ := hrel
    have Kgwr := hid kg
    have Kadwr := hid ka
    have HBwr := hid bel
    have hswr := bel.size
    clear kg ka bel
    by_cases hlt : k < 67
    · skip
      have hc0 : (k : Int) < 67 := by omega
      have HS := hid (fillW_set (P := P) hlt)
      have HC := hid (hp k hlt)
      have HP := hid (hP k)
      generalize hX : P k = X at *
      go_wp2_with (refine wpList_load_blk rfl 216 _ rfl (w.heap.size) rfl _ 216 Kadwr.out _ Tryz.underlying216 rfl 8 sizeAdrs had.size ?_)
      refine (at_list ad k 0 _ had).mono ?_
      rintro e w21 ⟨rfl, bw21⟩
      have HBw21 := hid (Below.on HBwr.out bw21)
      have hsw21 := HBw21.out.size
      have Kadw21 := hid (Kadwr.out.below bw21)
      have Kgw21 := hid (Kgwr.out.below bw21)
      clear bw21
      go_wp2_with fail
      refine (HC.out _ HBw21.out).mono ?_
      rintro e w22 ⟨rfl, bw22⟩
      have HBw22 := hid (Below.on HBw21.out bw22)
      have hsw22 := HBw22.out.size
      have Kadw22 := hid (Kadw21.out.below bw22)
      have Kgw22 := hid (Kgw21.out.below bw22)
      clear bw22
      go_wp2_with (first
         | (refine wpList_index_digs rfl 49 _ _ rfl Tryz.underlying49 size_digest (w.heap.size + 1) 0 67 67 rfl _ _ rfl k rfl hlt ?_)
         | (
            refine wpList_store_dig rfl _ _ _ rfl (w.heap.size + 1) k X rfl rfl _ 25 Kgw22.out (fillW_each hP k) HP.out (by rw [fillW_length hk]; exact hlt) size_digest ?_
            intro w6 hb6 hk6
            rw [HS.out] at hk6
            have H6 := hid (And.intro hk6 (And.intro (hb6.blk Kadw22.out (by omega)) (hb6.below HBw22.out HBw22.out.size (by omega))))
            clear hb6 hk6))
      exact ⟨⟨k + 1, by omega, by go_num, H6.out.1, H6.out.2.1, H6.out.2.2⟩, by simp [intOf]; omega⟩
    · skip
      have hk7 : k = 67 := by omega
      subst hk7
      have hc0 : ¬ ((67 : Int) < 67) := by omega
      rw [fillW_done] at Kgwr
      go_wp2_with fail
      go_ret
      exact ⟨(w.heap.size + 1), by omega, rfl, HBwr.out, Kgwr.out⟩
end Go.Proofs.YtpinamdgbijjlaaGreatDoor
namespace Go.Proofs.YtpinamdgbijjlaaGreatDoor
set_option maxRecDepth 100000
open Go.ChangeShapes Go.WideShapes Go.ChangeAt Go.RowKit
section
variable {P : Program} {ops : Array Oper} {rest : List Oper} {op : Oper} {a : Act} {w : World} {Q : Exit → Act → World → Prop}
theorem run_load_one {ty : TypeId} {ad : Addr} {v : Value} (w' : World) (hk : w'.cell? ad = some v) (d : TypeDesc) (hu : P.underlying ty = some d) (hd : d.isRow = false) : (loadVar ty ad).run P w' = .ok v w' := by
  have hagg : (isAgg ty).run P w' = .ok false w' := by
    unfold isAgg
    rw [Sem.run_bind, run_underlying hu w']
    cases d <;> simp_all
  simp [loadVar, Sem.run_bind, hagg, hk]
theorem quiet_load_one {C : World → Prop} {K : Act → Prop} (ty : TypeId) (x : Operand) (ho : op.op = .load ty x) (ad : Addr) (hx : a.eval x = .pointer (some ad)) (v : Value)
    (hk : ∀ w', C w' → w'.cell? ad = some v) (d : TypeDesc) (hu : P.underlying ty = some d) (hd : d.isRow = false)
    (h : K (a.put op.dst v)) : op.quiet P a C K :=
  ⟨v, fun w' hw' => by
    unfold Oper.quietAt execOp
    simp only [ho, hx, Instr.loadAt, Instr.sureAddr, Sem.run_bind, Sem.run_pure, Result.andThen_ok, run_load_one w' (hk w' hw') d hu hd]
    simp [Oper.quietUpon], h⟩
end
/-- The digit at a place. -/
def dgN (m : List Int) (i : Nat) : Nat := ((digits m).getD i 0).toNat
def partZ (seed ad : List Int) (i : Nat) : List Int := atZ seed (setAd ad i 0 0)
def pubP (seed pub ad : List Int) (i : Nat) : List Int := runZ pub (setAd ad i 0 0) (partZ seed ad i) 0 15
def sigP (m seed pub ad : List Int) (i : Nat) : List Int := runZ pub (setAd ad i 0 0) (partZ seed ad i) 0 (dgN m i)
def fromP (l : List (List Int)) (m pub ad : List Int) (i : Nat) : List Int := runZ pub (setAd ad i 0 0) (l.getD i zD) (dgN m i) (15 - dgN m i)
theorem Dg.part (seed ad : List Int) (i : Nat) : Dg (partZ seed ad i) := Dg.at_ _ _
theorem Dg.pubP (seed pub ad : List Int) (i : Nat) : Dg (pubP seed pub ad i) := Dg.run (Dg.part _ _ _) _ _
set_option maxHeartbeats 4000000 in
theorem wrun_any (x pub ad : List Int) (from_ steps : Nat) (w : World) (hx : Dg x) (hpub : Dg pub) (had : Aw ad) (hf : from_ + steps ≤ 15) (tab : ShaTab w) :
    Calls Tryz.prog 190 #[(.agg (x.map (Value.int .u8)).toArray), .int .i64 from_, .int .i64 steps, (.agg (pub.map (Value.int .u8)).toArray), (.agg (ad.map (Value.int .u32)).toArray)] w fun e w' => e = .returned (.agg ((runZ pub ad x from_ steps).map (Value.int .u8)).toArray) ∧ Below w.heap.size w w' := by
  have HR := hid (Dg.run (pub := pub) (ad := ad) hx from_ steps)
  have C1 := hid (fun (W : World) (t : ShaTab W) => run_good x pub ad from_ steps W hx hpub had hf t)
  generalize runZ pub ad x from_ steps = R at *
  have b1 := (Below.refl w.heap.size w).alloc (Nat.le_refl _) (.cells (x.map (Value.int .u8)).toArray 25 (0, 0))
  have b2 := b1.alloc b1.size (.cells (pub.map (Value.int .u8)).toArray 25 (0, 0))
  have b3 := b2.alloc b2.size (.cells (ad.map (Value.int .u32)).toArray 216 (0, 0))
  have b4 := b3.alloc b3.size (.cells (byteCells 32 []) 25 (0, 0))
  have Kx := hid ((((Blk.new (w := w) (n := w.heap.size) rfl (x.map (Value.int .u8)).toArray 25).old (.cells (pub.map (Value.int .u8)).toArray 25 (0, 0))).old (.cells (ad.map (Value.int .u32)).toArray 216 (0, 0))).old (.cells (byteCells 32 []) 25 (0, 0)))
  have Kp := hid (((Blk.new (w := (w.alloc (.cells (x.map (Value.int .u8)).toArray 25 (0, 0)))) (n := w.heap.size + 1) (by simp only [World.size_alloc]) (pub.map (Value.int .u8)).toArray 25).old (.cells (ad.map (Value.int .u32)).toArray 216 (0, 0))).old (.cells (byteCells 32 []) 25 (0, 0)))
  have Kad := hid ((Blk.new (w := ((w.alloc (.cells (x.map (Value.int .u8)).toArray 25 (0, 0))).alloc (.cells (pub.map (Value.int .u8)).toArray 25 (0, 0)))) (n := w.heap.size + 1 + 1) (by simp only [World.size_alloc]) (ad.map (Value.int .u32)).toArray 216).old (.cells (byteCells 32 []) 25 (0, 0)))
  have Kr0 := hid (Blk.new (w := (((w.alloc (.cells (x.map (Value.int .u8)).toArray 25 (0, 0))).alloc (.cells (pub.map (Value.int .u8)).toArray 25 (0, 0))).alloc (.cells (ad.map (Value.int .u32)).toArray 216 (0, 0)))) (n := w.heap.size + 1 + 1 + 1) (by simp only [World.size_alloc]) (byteCells 32 []) 25)
  have Hb := hid b4
  have HzA := hid zsize
  have hbz := b4.size
  have Hbs := hid (show w.heap.size + 1 + 1 + 1 + 1 = ((((w.alloc (.cells (x.map (Value.int .u8)).toArray 25 (0, 0))).alloc (.cells (pub.map (Value.int .u8)).toArray 25 (0, 0))).alloc (.cells (ad.map (Value.int .u32)).toArray 216 (0, 0))).alloc (.cells (byteCells 32 []) 25 (0, 0))).heap.size by simp only [World.size_alloc])
  have Htab := hid tab
  clear b1 b2 b3 b4 tab
  go_enter Tryz.func190, Tryz.ntmps190
  go_wp2_with (first
     | (refine wpList_load_blk rfl 25 _ rfl (w.heap.size) rfl _ 25 Kx.out _ Tryz.underlying25 rfl 32 size_digest hx.size ?_)
     | (refine wpList_load_blk rfl 25 _ rfl (w.heap.size + 1) rfl _ 25 Kp.out _ Tryz.underlying25 rfl 32 size_digest hpub.size ?_)
     | (refine wpList_load_blk rfl 216 _ rfl (w.heap.size + 1 + 1) rfl _ 216 Kad.out _ Tryz.underlying216 rfl 8 sizeAdrs had.size ?_))
  refine (C1.out _ (Htab.out.below Hb.out)).mono ?_
  rintro e w1 ⟨rfl, bw1⟩
  have HBw1 := hid (Below.on Hb.out bw1)
  have hsw1 := HBw1.out.size
  have Kxw1 := hid (Kx.out.below bw1)
  have Kpw1 := hid (Kp.out.below bw1)
  have Kadw1 := hid (Kad.out.below bw1)
  have Kr0w1 := hid (Kr0.out.below bw1)
  clear bw1
  go_wp2_with (first
     | (
        refine wpList_store_blk rfl 25 _ _ rfl (w1.heap.size) (R.map (Value.int .u8)).toArray rfl rfl _ 25 (Blk.new rfl (byteCells 32 []) _) 32 size_digest HzA.out HR.out.size (ints_one _ _) ?_
        intro w2 hbw2 hkw2
        have HBw2 := hid (hbw2.below (HBw1.out.alloc HBw1.out.size _) (by simp only [World.size_alloc]; omega) (by have := HBw1.out.size; omega))
        have hsw2 := HBw2.out.size
        have Kyw2 := hid hkw2
        have Kxw2 := hid (hbw2.blk (Kxw1.out.old _) (by have := Kxw1.out.lt; omega))
        have Kpw2 := hid (hbw2.blk (Kpw1.out.old _) (by have := Kpw1.out.lt; omega))
        have Kadw2 := hid (hbw2.blk (Kadw1.out.old _) (by have := Kadw1.out.lt; omega))
        have Kr0w2 := hid (hbw2.blk (Kr0w1.out.old _) (by have := Kr0w1.out.lt; omega))
        clear hbw2 hkw2)
     | (refine wpList_load_blk rfl 25 _ rfl (w1.heap.size) rfl _ 25 Kyw2.out _ Tryz.underlying25 rfl 32 size_digest HR.out.size ?_)
     | (
      refine wpList_store_blk rfl 25 _ _ rfl (w.heap.size + 1 + 1 + 1) (R.map (Value.int .u8)).toArray rfl rfl _ 25 Kr0w2.out 32 size_digest HzA.out HR.out.size (ints_one _ _) ?_
      intro w9 hb9 hk9
      have HB9 := hid (hb9.below HBw2.out HBw2.out.size (by omega))
      have HK9 := hid hk9
      clear hb9 hk9))
  exact bodyPost_ret (v := (.agg (R.map (Value.int .u8)).toArray)) (results_blk Tryz.results190 _ (w.heap.size + 1 + 1 + 1) rfl _ 25 HK9.out _ Tryz.underlying25 rfl 32 size_digest HR.out.size) rfl ⟨rfl, HB9.out⟩
set_option maxHeartbeats 4000000 in
theorem public1_any (seed pub ad : List Int) (i bs bp : Nat) (w : World) (hseed : Dg seed) (hpub : Dg pub) (had : Aw ad) (ks : Blk w bs (seed.map (Value.int .u8)).toArray 25) (kp : Blk w bp (pub.map (Value.int .u8)).toArray 25) (tab : ShaTab w) :
    Calls Tryz.prog 189 #[.int .i64 i, (.agg (ad.map (Value.int .u32)).toArray), .pointer (some ⟨bs, 0, none⟩), .pointer (some ⟨bp, 0, none⟩)] w fun e w' => e = .returned (.agg ((runZ pub ad (atZ seed ad) 0 15).map (Value.int .u8)).toArray) ∧ Below w.heap.size w w' := by
  have HA := hid (Dg.at_ seed ad)
  have HR := hid (Dg.run (pub := pub) (ad := ad) HA.out 0 15)
  have C1 := hid (fun (W : World) (t : ShaTab W) => At_any seed ad W hseed had t)
  have C2 := hid (fun (W : World) (t : ShaTab W) => wrun_any (atZ seed ad) pub ad 0 15 W HA.out hpub had (by omega) t)
  generalize atZ seed ad = X at *
  generalize runZ pub ad X 0 15 = R at *
  have b1 := (Below.refl w.heap.size w).alloc (Nat.le_refl _) (.cells (ad.map (Value.int .u32)).toArray 216 (0, 0))
  have b2 := b1.alloc b1.size (.cells (byteCells 32 []) 25 (0, 0))
  have Ka := hid ((Blk.new (w := w) (n := w.heap.size) rfl (ad.map (Value.int .u32)).toArray 216).old (.cells (byteCells 32 []) 25 (0, 0)))
  have Kr0 := hid (Blk.new (w := (w.alloc (.cells (ad.map (Value.int .u32)).toArray 216 (0, 0)))) (n := w.heap.size + 1) (by simp only [World.size_alloc]) (byteCells 32 []) 25)
  have Hb := hid b2
  have HzA := hid zsize
  have hbz := b2.size
  have Hbs := hid (show w.heap.size + 1 + 1 = ((w.alloc (.cells (ad.map (Value.int .u32)).toArray 216 (0, 0))).alloc (.cells (byteCells 32 []) 25 (0, 0))).heap.size by simp only [World.size_alloc])
  have Ks := hid (ks.below b2)
  have Kp := hid (kp.below b2)
  have Htab := hid tab
  clear b1 b2 tab
  go_enter Tryz.func189, Tryz.ntmps189
  go_wp2_with fail
  refine wp_region_flow 6 (List.range 6) [] [] (by kernel_rfl) (by kernel_rfl) ?_
  apply Exists.intro
  refine ⟨fun w0 hb0 hF0 => ?_, ?_⟩
  · skip
    have x0 : ∀ w', (∃ x : Ext w0, w' = x.at_) → ∃ T, Blk w' (bs) (seed.map (Value.int .u8)).toArray T := fun w' ⟨x, hx⟩ => ⟨_, hx ▸ (Ks.out.below hb0).below x.same⟩
    have x1 : ∀ w', (∃ x : Ext w0, w' = x.at_) → ∃ T, Blk w' (bp) (pub.map (Value.int .u8)).toArray T := fun w' ⟨x, hx⟩ => ⟨_, hx ▸ (Kp.out.below hb0).below x.same⟩
    have x2 : ∀ w', (∃ x : Ext w0, w' = x.at_) → ∃ T, Blk w' (w.heap.size) (ad.map (Value.int .u32)).toArray T := fun w' ⟨x, hx⟩ => ⟨_, hx ▸ (Ka.out.below hb0).below x.same⟩
    have c0 := fun e : Ext w0 => C1.out e.at_ ((Htab.out.below (Below.on Hb.out hb0)).below e.same)
    have c1 := fun e : Ext w0 => C2.out e.at_ ((Htab.out.below (Below.on Hb.out hb0)).below e.same)
    simp only [pick, List.range, List.range.loop, List.getElem?_toArray, List.getElem?_cons_succ, List.getElem?_cons_zero, Option.toList_some, List.cons_append, List.nil_append]
    repeat (first | (go_big_quiet_want; refine quiet_load_blk 25 _ rfl (bs) rfl _ x0 _ Tryz.underlying25 rfl 32 size_digest hseed.size ?_; go_big_quiet_on; simp only [Act.put, List.setIfInBounds_toArray, List.set_cons_zero, List.set_cons_succ]) | (go_big_quiet_want; refine quiet_load_blk 25 _ rfl (bp) rfl _ x1 _ Tryz.underlying25 rfl 32 size_digest hpub.size ?_; go_big_quiet_on; simp only [Act.put, List.setIfInBounds_toArray, List.set_cons_zero, List.set_cons_succ]) | (go_big_quiet_want; refine quiet_load_blk 216 _ rfl (w.heap.size) rfl _ x2 _ Tryz.underlying216 rfl 8 sizeAdrs had.size ?_; go_big_quiet_on; simp only [Act.put, List.setIfInBounds_toArray, List.set_cons_zero, List.set_cons_succ]) | go_big_quiet_step (first | (go_at_call 191; with_reducible exact Calls.ext (c0 _)) | (go_at_call 190; with_reducible exact Calls.ext (c1 _))))
    exact wpQuiet_nil rfl
  refine AlChk.nil ?_
  refine Walk.fin fun w1 hw1 _ _ => ?_
  simp only [List.drop_succ_cons, List.drop_zero]
  have HBw1 := hid (Below.on Hb.out hw1)
  have hsw1 := HBw1.out.size
  have Kaw1 := hid (Ka.out.below hw1)
  have Kr0w1 := hid (Kr0.out.below hw1)
  have Ksw1 := hid (Ks.out.below hw1)
  have Kpw1 := hid (Kp.out.below hw1)
  clear hw1
  go_wp2_with (
      refine wpList_store_blk rfl 25 _ _ rfl (w.heap.size + 1) (R.map (Value.int .u8)).toArray rfl rfl _ 25 Kr0w1.out 32 size_digest HzA.out HR.out.size (ints_one _ _) ?_
      intro w9 hb9 hk9
      have HB9 := hid (hb9.below HBw1.out HBw1.out.size (by omega))
      have HK9 := hid hk9
      clear hb9 hk9)
  exact bodyPost_ret (v := (.agg (R.map (Value.int .u8)).toArray)) (results_blk Tryz.results189 _ (w.heap.size + 1) rfl _ 25 HK9.out _ Tryz.underlying25 rfl 32 size_digest HR.out.size) rfl ⟨rfl, HB9.out⟩
end Go.Proofs.YtpinamdgbijjlaaGreatDoor
namespace Go.Proofs.YtpinamdgbijjlaaGreatDoor
set_option maxRecDepth 100000
open Go.ChangeShapes Go.WideShapes Go.ChangeAt Go.RowKit
theorem makeFunc_run (fn : Fn) (first cap : Array Value) (w : World) : (Instr.makeFunc fn first cap).run Tryz.prog w = .ok (.func fn first cap) w := rfl
set_option maxHeartbeats 4000000 in
theorem public_any (seed pub ad : List Int) (w : World) (hseed : Dg seed) (hpub : Dg pub) (had : Aw ad) (tab : ShaTab w) :
    Calls Tryz.prog 158 #[(.agg (seed.map (Value.int .u8)).toArray), (.agg (pub.map (Value.int .u8)).toArray), (.agg (ad.map (Value.int .u32)).toArray)] w fun e w' => ∃ g, w.heap.size ≤ g ∧ e = .returned (.slice (some ⟨g, 0, none⟩) 67 67) ∧ Below w.heap.size w w' ∧ Blk w' g (dcs (rowW (pubP seed pub ad))) 25 := by
  have b1 := (Below.refl w.heap.size w).alloc (Nat.le_refl _) (.cells (seed.map (Value.int .u8)).toArray 25 (0, 0))
  have b2 := b1.alloc b1.size (.cells (pub.map (Value.int .u8)).toArray 25 (0, 0))
  have b3 := b2.alloc b2.size (.cells (ad.map (Value.int .u32)).toArray 216 (0, 0))
  have Ks := hid (((Blk.new (w := w) (n := w.heap.size) rfl (seed.map (Value.int .u8)).toArray 25).old (.cells (pub.map (Value.int .u8)).toArray 25 (0, 0))).old (.cells (ad.map (Value.int .u32)).toArray 216 (0, 0)))
  have Kp := hid ((Blk.new (w := (w.alloc (.cells (seed.map (Value.int .u8)).toArray 25 (0, 0)))) (n := w.heap.size + 1) (by simp only [World.size_alloc]) (pub.map (Value.int .u8)).toArray 25).old (.cells (ad.map (Value.int .u32)).toArray 216 (0, 0)))
  have Kad := hid (Blk.new (w := ((w.alloc (.cells (seed.map (Value.int .u8)).toArray 25 (0, 0))).alloc (.cells (pub.map (Value.int .u8)).toArray 25 (0, 0)))) (n := w.heap.size + 1 + 1) (by simp only [World.size_alloc]) (ad.map (Value.int .u32)).toArray 216)
  have Hb := hid b3
  have HzA := hid zsize
  have hbz := b3.size
  have Hbs := hid (show w.heap.size + 1 + 1 + 1 = (((w.alloc (.cells (seed.map (Value.int .u8)).toArray 25 (0, 0))).alloc (.cells (pub.map (Value.int .u8)).toArray 25 (0, 0))).alloc (.cells (ad.map (Value.int .u32)).toArray 216 (0, 0))).heap.size by simp only [World.size_alloc])
  have Htab := hid tab
  clear b1 b2 b3 tab
  have hmf := makeFunc_run
  go_enter Tryz.func158, Tryz.ntmps158
  go_wp2_with (refine wpList_load_blk rfl 216 _ rfl (w.heap.size + 1 + 1) rfl _ 216 Kad.out _ Tryz.underlying216 rfl 8 sizeAdrs had.size ?_)
  refine (each_any ad 189 #[.pointer (some ⟨w.heap.size, 0, none⟩), .pointer (some ⟨w.heap.size + 1, 0, none⟩)] (pubP seed pub ad) _ had (Dg.pubP seed pub ad) (enter_run Tryz.func189 rfl rfl) (fun i hi W hb => ?_)).mono ?_
  · simp only [List.append_toArray, List.cons_append, List.nil_append]
    exact public1_any seed pub (setAd ad i 0 0) i w.heap.size (w.heap.size + 1) W hseed hpub (had.set (by omega) (by omega) (by omega)) (Ks.out.below hb) (Kp.out.below hb) ((Htab.out.below Hb.out).below hb)
  rintro e w9 ⟨g, hg, rfl, b9, kg⟩
  have hgw : w.heap.size ≤ g := Nat.le_trans Hb.out.size hg
  have HB9 := hid (Below.on Hb.out b9)
  have HG := hid kg
  clear b9 kg hg
  go_wp2_with fail
  go_ret
  exact ⟨g, hgw, rfl, HB9.out, HG.out⟩
section
variable {P : Program} {ops : Array Oper} {rest : List Oper} {op : Oper} {a : Act} {w : World} {Q : Exit → Act → World → Prop}
end
end Go.Proofs.YtpinamdgbijjlaaGreatDoor
namespace Go.Proofs.YtpinamdgbijjlaaGreatDoor
set_option maxRecDepth 100000
open Go.ChangeShapes Go.WideShapes Go.ChangeAt Go.RowKit
def preW (P : Nat → List Int) (k : Nat) : List (List Int) := (List.range k).map P
theorem preW_succ (P : Nat → List Int) (k : Nat) : preW P (k + 1) = preW P k ++ [P k] := by
  unfold preW
  rw [List.range_succ, List.map_append]
  rfl
theorem preW_length (P : Nat → List Int) (k : Nat) : (preW P k).length = k := by simp [preW]
theorem preW_full (P : Nat → List Int) : preW P 67 = rowW P := rfl
/-- A row of digests, wherever it lies. -/
def RowV (n : Nat) (ds : List (List Int)) (v : Value) (w : World) : Prop := ∃ a cap, v = .slice a n cap ∧ DigsAt w a n cap ds
theorem RowV.below {n : Nat} {ds : List (List Int)} {v : Value} {w w' : World} (h : RowV n ds v w) (hb : Below w.heap.size w w') : RowV n ds v w' := by
  obtain ⟨a, c, h1, h2⟩ := h
  exact ⟨a, c, h1, h2.below hb⟩
theorem RowV.of_own {w : World} {base n : Nat} {e : TypeId} {v : Value} {ds : List (List Int)} (h : OwnD w base e v ds) (hn : ds.length = n) : RowV n ds v w := by
  subst hn
  obtain ⟨a, c, h1, h2, _⟩ := h.digs
  exact ⟨a, c, h1, h2⟩
theorem RowV.of_blk {w : World} {g : Nat} {T : TypeId} {ds : List (List Int)} (h : Blk w g (dcs ds) T) (hd : ∀ d ∈ ds, Dg d) (n : Nat) (hn : ds.length = n) (hm : n ≤ 9223372036854775807) : RowV n ds (.slice (some ⟨g, 0, none⟩) n n) w := by
  subst hn
  exact ⟨_, _, rfl, DigsAt.of_blk h hd rfl (Nat.le_refl _) hm⟩
theorem RowV.digs {w : World} {a : Option Addr} {n c m : Nat} {ds : List (List Int)} (h : RowV m ds (.slice a n c) w) : n = m ∧ DigsAt w a n c ds := by
  obtain ⟨a', c', h1, h2⟩ := h
  injection h1 with h3 h4 h5
  subst h3 h4 h5
  exact ⟨rfl, h2⟩
/-- 67 numbers, wherever they lie. -/
def IntV (F : Nat → Nat) (v : Value) (w : World) : Prop := ∃ g cap, v = .slice (some ⟨g, 0, none⟩) 67 cap ∧ g < w.heap.size ∧ ∀ i, i < 67 → w.cell? ⟨g, i, none⟩ = some (.int .i64 (F i : Int))
theorem IntV.below {F : Nat → Nat} {v : Value} {w w' : World} (h : IntV F v w) (hb : Below w.heap.size w w') : IntV F v w' := by
  obtain ⟨g, c, h1, h2, h3⟩ := h
  exact ⟨g, c, h1, Nat.lt_of_lt_of_le h2 hb.size, fun i hi => (hb.cell h2).trans (h3 i hi)⟩
theorem IntV.ints {F : Nat → Nat} {g cap : Nat} {w : World} (h : IntV F (.slice (some ⟨g, 0, none⟩) 67 cap) w) : g < w.heap.size ∧ ∀ i, i < 67 → w.cell? ⟨g, i, none⟩ = some (.int .i64 (F i : Int)) := by
  obtain ⟨g', c', h1, h2, h3⟩ := h
  injection h1 with h4
  injection h4 with h4
  injection h4 with h4
  subst h4
  exact ⟨h2, h3⟩
theorem IntV.of_own {F : Nat → Nat} {w : World} {base g cap : Nat} {e : TypeId} {l : List Value} (h : w.ownsRow base e 1 (.slice (some ⟨g, 0, none⟩) 67 cap) 67 l) (hl : ∀ i, i < 67 → l[i]? = some (.int .i64 (F i : Int))) : IntV F (.slice (some ⟨g, 0, none⟩) 67 cap) w := by
  obtain ⟨_, ⟨h1, h2⟩ | ⟨g', cap', cur, h1, _, hh, _, _, _, htk⟩⟩ := h
  · omega
  · injection h1 with h4
    injection h4 with h4
    injection h4 with h4
    subst h4
    refine ⟨g, cap, rfl, (Array.getElem?_eq_some_iff.1 hh).1, fun i hi => ?_⟩
    have hb : Blk w g cur e := hh
    have h5 := hl i hi
    rw [hb.cell, ← h5, ← htk, List.getElem?_take_of_lt (by omega)]
    simp
theorem FlowB.ButIn.cell {S : List Nat} {w w' : World} {g i : Nat} {v : Value} (h : FlowB.ButIn S w w') (hx : g < w.heap.size) (hb : g ∉ S) (k : w.cell? ⟨g, i, none⟩ = some v) : w'.cell? ⟨g, i, none⟩ = some v := by
  rw [← k]
  unfold World.cell?
  rw [h.block g hx hb]
set_option maxHeartbeats 4000000 in
theorem refsecret_any (seed ad : List Int) (w : World) (hseed : Dg seed) (had : Aw ad) :
    Calls Tryz.prog 194 #[(.agg (seed.map (Value.int .u8)).toArray), (.agg (ad.map (Value.int .u32)).toArray)] w fun e w' => ∃ v, e = .returned v ∧ Below w.heap.size w w' ∧ OwnD w' w.heap.size 25 v (rowW (partZ seed ad)) := by
  have hP := Dg.part seed ad
  have b1 := (Below.refl w.heap.size w).alloc (Nat.le_refl _) (.cells (seed.map (Value.int .u8)).toArray 25 (0, 0))
  have b2 := b1.alloc b1.size (.cells (ad.map (Value.int .u32)).toArray 216 (0, 0))
  have Ks := hid ((Blk.new (w := w) (n := w.heap.size) rfl (seed.map (Value.int .u8)).toArray 25).old (.cells (ad.map (Value.int .u32)).toArray 216 (0, 0)))
  have Kad := hid (Blk.new (w := (w.alloc (.cells (seed.map (Value.int .u8)).toArray 25 (0, 0)))) (n := w.heap.size + 1) (by simp only [World.size_alloc]) (ad.map (Value.int .u32)).toArray 216)
  have Hb := hid b2
  have HzA := hid zsize
  have hbz := b2.size
  have Hbs := hid (show w.heap.size + 1 + 1 = ((w.alloc (.cells (seed.map (Value.int .u8)).toArray 25 (0, 0))).alloc (.cells (ad.map (Value.int .u32)).toArray 216 (0, 0))).heap.size by simp only [World.size_alloc])
  clear b1 b2
  have hs0 := Hb.out.size
  go_enter Tryz.func194, Tryz.ntmps194
  go_wp2_with fail
  have HO0 := hid (OwnD.nil ((w.alloc (.cells (seed.map (Value.int .u8)).toArray 25 (0, 0))).alloc (.cells (ad.map (Value.int .u32)).toArray 216 (0, 0))) (w.heap.size + 1 + 1) 25)
  go_loopw [5, 6] (fun v iv wr => ∃ k : Nat, k ≤ 67 ∧ iv = .int .i64 k ∧ OwnD wr (w.heap.size + 1 + 1) 25 v (preW (partZ seed ad) k) ∧ Blk wr (w.heap.size) (seed.map (Value.int .u8)).toArray 25 ∧ Blk wr (w.heap.size + 1) (ad.map (Value.int .u32)).toArray 216 ∧ Below w.heap.size w wr ∧ (w.heap.size + 1 + 1) ≤ wr.heap.size) (fun _ iv _ => 67 - (intOf iv).toNat)
  case atStart => exact ⟨0, Nat.zero_le _, rfl, HO0.out, Ks.out, Kad.out, Hb.out, by rw [Hbs.out]; exact Nat.le_refl _⟩
  case round =>
    clear HO0 Ks Kad Hb
    obtain ⟨k, hk, rfl, ho, ks, kad, bel, hsz⟩ := hrel
    have HO := hid ho
    have Ks := hid ks
    have Kad := hid kad
    have HB := hid bel
    clear ho ks kad bel
    by_cases hlt : k < 67
    · have hc0 : (k : Int) < 67 := by omega
      have HJ := hid (hP k)
      have HL := hid (preW_succ (partZ seed ad) k)
      have HLl := hid (preW_length (partZ seed ad) k)
      obtain ⟨i0, hi, hz0, hz1, hz2⟩ := info_parts info_dig
      generalize hJ : (partZ seed ad) k = J at *
      generalize hL : preW (partZ seed ad) k = L at *
      go_wp2_with fail
      refine FlowB.wp_region_butIn (u5.ownBlock.toList) (fun wz => OwnD wz (w.heap.size + 1 + 1) 25 u5 L) 9 (List.range 7) [7] [(.b 7, [], []), (.c 8, [], [])] (by kernel_rfl) (by kernel_rfl) HO.out (fun _ _ h hb => h.below hb) ?_
      apply Exists.intro
      refine ⟨fun w0 hb0 hF0 => ?_, ?_⟩
      · skip
        have x0 : ∀ w', (∃ x : Ext w0, w' = x.at_) → ∃ T, Blk w' (w.heap.size) (seed.map (Value.int .u8)).toArray T := fun w' ⟨x, hx⟩ => ⟨_, hx ▸ (hb0.blk Ks.out (own_low HO.out (by omega))).below x.same⟩
        have x1 : ∀ w', (∃ x : Ext w0, w' = x.at_) → ∃ T, Blk w' (w.heap.size + 1) (ad.map (Value.int .u32)).toArray T := fun w' ⟨x, hx⟩ => ⟨_, hx ▸ (hb0.blk Kad.out (own_low HO.out (by omega))).below x.same⟩
        have c0 := fun e : Ext w0 => refat_list ad k 0 0 e.at_ had
        have c1 := fun e : Ext w0 => refAt_any seed (setAd ad k 0 0) e.at_ hseed (had.set (by omega) (by omega) (by omega))
        rw [show atZ seed (setAd ad k 0 0) = partZ seed ad k from rfl, hJ] at c1
        simp only [pick, List.range, List.range.loop, List.getElem?_toArray, List.getElem?_cons_succ, List.getElem?_cons_zero, Option.toList_some, List.cons_append, List.nil_append]
        repeat (first | (go_big_quiet_want; refine quiet_load_blk 25 _ rfl (w.heap.size) rfl _ x0 _ Tryz.underlying25 rfl 32 size_digest hseed.size ?_; go_big_quiet_on; simp only [Act.put, List.setIfInBounds_toArray, List.set_cons_zero, List.set_cons_succ]) | (go_big_quiet_want; refine quiet_load_blk 216 _ rfl (w.heap.size + 1) rfl _ x1 _ Tryz.underlying216 rfl 8 sizeAdrs had.size ?_; go_big_quiet_on; simp only [Act.put, List.setIfInBounds_toArray, List.set_cons_zero, List.set_cons_succ]) | go_big_quiet_step (first | (go_at_call 166; with_reducible exact Calls.ext (c0 _)) | (go_at_call 197; with_reducible exact Calls.ext (c1 _))))
        exact wpQuiet_nil rfl
      refine FlowB.AlChk.one rfl (fun b => .slice (some ⟨b, 0, none⟩) 1 1) (.cells (J.map (Value.int .u8)).toArray 25 (0, 0)) rfl (FlowB.st_butIn _ (own_size HO.out)) (fun w2 hb2 hF2 => exec_build_one rfl rfl HJ.out) ?_
      refine FlowB.AlChk.nil ?_
      refine FlowB.Walk.blk rfl (fun b => .slice (some ⟨b, 0, none⟩) 1 1) (.cells (J.map (Value.int .u8)).toArray 25 (0, 0)) (by simp) ?_
      intro b9 w2 hb2 hF2 hge9 _
      apply Exists.intro
      refine ⟨fun w2 hb2 hF2 => wpQuiet_nil rfl, ?_⟩
      refine FlowB.AlChk.nil ?_
      refine FlowB.Walk.does rfl (fun _ _ => True) (fun v w' => OwnD w' (w.heap.size + 1 + 1) 25 v (L ++ [J])) (fun v w' w'' _ h _ => h) (fun v w' w'' h k => h.below k) rfl (fun w2 hb2 hF2 hG2 => ?_) ?_
      · have k9 : Blk w2 b9 (J.map (Value.int .u8)).toArray 25 := hF2.2
        obtain ⟨v', w', hr, q2, q3, q4⟩ := run_append_dig (P := Tryz.prog) _ Tryz.underlying49 hi hz0 zD_cells32 hz1 hz2 hG2 k9 HJ.out (by rw [HLl.out]; omega) (Nat.le_trans hsz hb2.size)
        exact ⟨v', w', FlowB.exec_append rfl rfl rfl hr, FlowB.ButIn.of_grown q3, trivial, q2⟩
      rintro v3 w3 hb3 hF3 _
      apply Exists.intro
      refine ⟨fun w2 hb2 hF2 => wpQuiet_nil rfl, ?_⟩
      refine FlowB.AlChk.nil ?_
      refine FlowB.Walk.fin fun w4 h4 _ hG4 => ?_
      simp only [List.drop_succ_cons, List.drop_zero]
      have HG4 := hid hG4
      rw [← HL.out] at HG4
      have Ks4 := hid (h4.blk Ks.out (own_low HO.out (by omega)))
      have Kad4 := hid (h4.blk Kad.out (own_low HO.out (by omega)))
      have HB4 := hid (h4.below HB.out HB.out.size (fun b hb => by have := own_from HO.out b hb; omega))
      have hsz4 := Nat.le_trans hsz h4.size
      clear h4 hG4
      go_wp2_with fail
      exact ⟨⟨k + 1, by omega, by first | rfl | simp, HG4.out, Ks4.out, Kad4.out, HB4.out, hsz4⟩, by simp [intOf]; omega⟩
    · have hk7 : k = 67 := by omega
      subst hk7
      have hc0 : ¬ ((67 : Int) < 67) := by omega
      have HF := hid (HO.out.re (base' := w.heap.size) (by omega))
      rw [preW_full] at HF
      go_wp2_with fail
      go_ret
      exact ⟨_, rfl, HB.out, HF.out⟩
set_option maxHeartbeats 4000000 in
theorem refruns_any (P : Nat → List Int) (F T : Nat → Nat) (ls : List (List Int)) (na : Option Addr) (nc ga ca gb cb : Nat) (pub ad : List Int) (w : World) (hP : ∀ i, Dg (P i)) (hN : DigsAt w na 67 nc ls) (hpub : Dg pub) (had : Aw ad)
    (hga : ga < w.heap.size) (hF : ∀ i, i < 67 → w.cell? ⟨ga, i, none⟩ = some (.int .i64 (F i : Int))) (hgb : gb < w.heap.size) (hT : ∀ i, i < 67 → w.cell? ⟨gb, i, none⟩ = some (.int .i64 (T i : Int))) (hFT : ∀ i, F i ≤ T i ∧ T i ≤ 15)
    (hr : ∀ i, i < 67 → ∀ W, Calls Tryz.prog 214 #[(.agg ((ls.getD i []).map (Value.int .u8)).toArray), .int .i64 (F i : Int), .int .i64 ((T i : Int) - (F i : Int)), (.agg (pub.map (Value.int .u8)).toArray), (.agg ((setAd ad i 0 0).map (Value.int .u32)).toArray)] W (fun e w' => e = .returned (.agg ((P i).map (Value.int .u8)).toArray) ∧ Below W.heap.size W w')) :
    Calls Tryz.prog 193 #[.slice na 67 nc, .slice (some ⟨ga, 0, none⟩) 67 ca, .slice (some ⟨gb, 0, none⟩) 67 cb, (.agg (pub.map (Value.int .u8)).toArray), (.agg (ad.map (Value.int .u32)).toArray)] w fun e w' => ∃ v, e = .returned v ∧ Below w.heap.size w w' ∧ OwnD w' w.heap.size 25 v (rowW P) := by
  have HN := hid hN
  have hle := hN.le
  have hmx := hN.max
  clear hN
  have b1 := (Below.refl w.heap.size w).alloc (Nat.le_refl _) (.cells (pub.map (Value.int .u8)).toArray 25 (0, 0))
  have b2 := b1.alloc b1.size (.cells (ad.map (Value.int .u32)).toArray 216 (0, 0))
  have Kp := hid ((Blk.new (w := w) (n := w.heap.size) rfl (pub.map (Value.int .u8)).toArray 25).old (.cells (ad.map (Value.int .u32)).toArray 216 (0, 0)))
  have Kad := hid (Blk.new (w := (w.alloc (.cells (pub.map (Value.int .u8)).toArray 25 (0, 0)))) (n := w.heap.size + 1) (by simp only [World.size_alloc]) (ad.map (Value.int .u32)).toArray 216)
  have Hb := hid b2
  have HzA := hid zsize
  have hbz := b2.size
  have Hbs := hid (show w.heap.size + 1 + 1 = ((w.alloc (.cells (pub.map (Value.int .u8)).toArray 25 (0, 0))).alloc (.cells (ad.map (Value.int .u32)).toArray 216 (0, 0))).heap.size by simp only [World.size_alloc])
  clear b1 b2
  have hs0 := Hb.out.size
  go_enter Tryz.func193, Tryz.ntmps193
  go_wp2_with fail
  have HO0 := hid (OwnD.nil ((w.alloc (.cells (pub.map (Value.int .u8)).toArray 25 (0, 0))).alloc (.cells (ad.map (Value.int .u32)).toArray 216 (0, 0))) (w.heap.size + 1 + 1) 25)
  go_loopw [11, 12] (fun v iv wr => ∃ k : Nat, k ≤ 67 ∧ iv = .int .i64 k ∧ OwnD wr (w.heap.size + 1 + 1) 25 v (preW P k) ∧ Blk wr (w.heap.size) (pub.map (Value.int .u8)).toArray 25 ∧ Blk wr (w.heap.size + 1) (ad.map (Value.int .u32)).toArray 216 ∧ Below w.heap.size w wr ∧ (w.heap.size + 1 + 1) ≤ wr.heap.size) (fun _ iv _ => 67 - (intOf iv).toNat)
  case atStart => exact ⟨0, Nat.zero_le _, rfl, HO0.out, Kp.out, Kad.out, Hb.out, by rw [Hbs.out]; exact Nat.le_refl _⟩
  case round =>
    clear HO0 Kp Kad Hb
    obtain ⟨k, hk, rfl, ho, kp, kad, bel, hsz⟩ := hrel
    have HO := hid ho
    have Kp := hid kp
    have Kad := hid kad
    have HB := hid bel
    clear ho kp kad bel
    by_cases hlt : k < 67
    · have hc0 : (k : Int) < 67 := by omega
      have HJ := hid (hP k)
      have HL := hid (preW_succ P k)
      have HLl := hid (preW_length P k)
      obtain ⟨i0, hi, hz0, hz1, hz2⟩ := info_parts info_dig
      have HX := hid (HN.out.get (j := k) (by omega))
      have HC := hid (hr k hlt)
      obtain ⟨xs, xo, rfl, hxs, hcell⟩ := HN.out.at_ (by omega)
      have Hc := hid (rangeAt_below (hcell k hlt) hxs HB.out)
      have hxs' := Nat.lt_of_lt_of_le hxs HB.out.size
      have Hga := hid ((HB.out.cell hga).trans (hF k hlt))
      have Hgb := hid ((HB.out.cell hgb).trans (hT k hlt))
      have hga' := Nat.lt_of_lt_of_le hga HB.out.size
      have hgb' := Nat.lt_of_lt_of_le hgb HB.out.size
      have hft := hFT k
      clear hcell
      generalize ls.getD k [] = X at *
      generalize F k = F1 at *
      generalize T k = T1 at *
      generalize hJ : P k = J at *
      generalize hL : preW P k = L at *
      go_wp2_with fail
      refine FlowB.wp_region_butIn (u11.ownBlock.toList) (fun wz => OwnD wz (w.heap.size + 1 + 1) 25 u11 L) 26 (List.range 24) [24] [(.b 24, [], []), (.c 25, [], [])] (by kernel_rfl) (by kernel_rfl) HO.out (fun _ _ h hb => h.below hb) ?_
      apply Exists.intro
      refine ⟨fun w0 hb0 hF0 => ?_, ?_⟩
      · skip
        have x0 : ∀ w', (∃ x : Ext w0, w' = x.at_) → ∃ T, Blk w' (w.heap.size) (pub.map (Value.int .u8)).toArray T := fun w' ⟨x, hx⟩ => ⟨_, hx ▸ (hb0.blk Kp.out (own_low HO.out (by omega))).below x.same⟩
        have x1 : ∀ w', (∃ x : Ext w0, w' = x.at_) → ∃ T, Blk w' (w.heap.size + 1) (ad.map (Value.int .u32)).toArray T := fun w' ⟨x, hx⟩ => ⟨_, hx ▸ (hb0.blk Kad.out (own_low HO.out (by omega))).below x.same⟩
        have x2 : ∀ w', (∃ x : Ext w0, w' = x.at_) → w'.rangeAt xs (xo + k * 32) (X.map (Value.int .u8)) := fun w' ⟨x, hx⟩ => hx ▸ rangeAt_below (hb0.range hxs' (own_low HO.out (by omega)) Hc.out) (Nat.lt_of_lt_of_le hxs' hb0.size) x.same
        have y0 : ∀ w', (∃ x : Ext w0, w' = x.at_) → w'.cell? ⟨ga, k, none⟩ = some (.int .i64 (F1 : Int)) := fun w' ⟨x, hx⟩ => by rw [hx]; exact (x.same.cell (Nat.lt_of_lt_of_le hga' hb0.size)).trans (hb0.cell hga' (own_low HO.out (by omega)) Hga.out)
        have y1 : ∀ w', (∃ x : Ext w0, w' = x.at_) → w'.cell? ⟨gb, k, none⟩ = some (.int .i64 (T1 : Int)) := fun w' ⟨x, hx⟩ => by rw [hx]; exact (x.same.cell (Nat.lt_of_lt_of_le hgb' hb0.size)).trans (hb0.cell hgb' (own_low HO.out (by omega)) Hgb.out)
        have c0 := fun e : Ext w0 => refat_list ad k 0 0 e.at_ had
        have c1 := fun e : Ext w0 => HC.out e.at_
        simp only [pick, List.range, List.range.loop, List.getElem?_toArray, List.getElem?_cons_succ, List.getElem?_cons_zero, Option.toList_some, List.cons_append, List.nil_append]
        repeat (first | (go_big_quiet_want; refine quiet_load_blk 25 _ rfl (w.heap.size) rfl _ x0 _ Tryz.underlying25 rfl 32 size_digest hpub.size ?_; go_big_quiet_on; simp only [Act.put, List.setIfInBounds_toArray, List.set_cons_zero, List.set_cons_succ]) | (go_big_quiet_want; refine quiet_load_blk 216 _ rfl (w.heap.size + 1) rfl _ x1 _ Tryz.underlying216 rfl 8 sizeAdrs had.size ?_; go_big_quiet_on; simp only [Act.put, List.setIfInBounds_toArray, List.set_cons_zero, List.set_cons_succ]) | (go_big_quiet_want; refine quiet_index_digs 49 _ _ rfl Tryz.underlying49 size_digest xs xo 67 nc rfl _ _ rfl k (by omega) (by omega) ?_; go_big_quiet_on; simp only [Act.put, List.setIfInBounds_toArray, List.set_cons_zero, List.set_cons_succ]) | (go_big_quiet_want; refine quiet_load_mid 25 _ rfl xs (xo + k * 32) rfl _ x2 _ Tryz.underlying25 rfl (by rw [List.length_map, HX.out.len]; exact size_digest) ?_; go_big_quiet_on; simp only [Act.put, List.setIfInBounds_toArray, List.set_cons_zero, List.set_cons_succ]) | (go_big_quiet_want; refine quiet_load_one 3 _ rfl ⟨ga, k, none⟩ rfl _ y0 _ Tryz.underlying3 rfl ?_; go_big_quiet_on; simp only [Act.put, List.setIfInBounds_toArray, List.set_cons_zero, List.set_cons_succ]) | (go_big_quiet_want; refine quiet_load_one 3 _ rfl ⟨gb, k, none⟩ rfl _ y1 _ Tryz.underlying3 rfl ?_; go_big_quiet_on; simp only [Act.put, List.setIfInBounds_toArray, List.set_cons_zero, List.set_cons_succ]) | go_big_quiet_step (first | (go_at_call 166; with_reducible exact Calls.ext (c0 _)) | (go_at_call 214; with_reducible exact Calls.ext (c1 _))))
        exact wpQuiet_nil rfl
      refine FlowB.AlChk.one rfl (fun b => .slice (some ⟨b, 0, none⟩) 1 1) (.cells (J.map (Value.int .u8)).toArray 25 (0, 0)) rfl (FlowB.st_butIn _ (own_size HO.out)) (fun w2 hb2 hF2 => exec_build_one rfl rfl HJ.out) ?_
      refine FlowB.AlChk.nil ?_
      refine FlowB.Walk.blk rfl (fun b => .slice (some ⟨b, 0, none⟩) 1 1) (.cells (J.map (Value.int .u8)).toArray 25 (0, 0)) (by simp) ?_
      intro b9 w2 hb2 hF2 hge9 _
      apply Exists.intro
      refine ⟨fun w2 hb2 hF2 => wpQuiet_nil rfl, ?_⟩
      refine FlowB.AlChk.nil ?_
      refine FlowB.Walk.does rfl (fun _ _ => True) (fun v w' => OwnD w' (w.heap.size + 1 + 1) 25 v (L ++ [J])) (fun v w' w'' _ h _ => h) (fun v w' w'' h k => h.below k) rfl (fun w2 hb2 hF2 hG2 => ?_) ?_
      · have k9 : Blk w2 b9 (J.map (Value.int .u8)).toArray 25 := hF2.2
        obtain ⟨v', w', hr, q2, q3, q4⟩ := run_append_dig (P := Tryz.prog) _ Tryz.underlying49 hi hz0 zD_cells32 hz1 hz2 hG2 k9 HJ.out (by rw [HLl.out]; omega) (Nat.le_trans hsz hb2.size)
        exact ⟨v', w', FlowB.exec_append rfl rfl rfl hr, FlowB.ButIn.of_grown q3, trivial, q2⟩
      rintro v3 w3 hb3 hF3 _
      apply Exists.intro
      refine ⟨fun w2 hb2 hF2 => wpQuiet_nil rfl, ?_⟩
      refine FlowB.AlChk.nil ?_
      refine FlowB.Walk.fin fun w4 h4 _ hG4 => ?_
      simp only [List.drop_succ_cons, List.drop_zero]
      have HG4 := hid hG4
      rw [← HL.out] at HG4
      have Kp4 := hid (h4.blk Kp.out (own_low HO.out (by omega)))
      have Kad4 := hid (h4.blk Kad.out (own_low HO.out (by omega)))
      have HB4 := hid (h4.below HB.out HB.out.size (fun b hb => by have := own_from HO.out b hb; omega))
      have hsz4 := Nat.le_trans hsz h4.size
      clear h4 hG4
      go_wp2_with fail
      exact ⟨⟨k + 1, by omega, by first | rfl | simp, HG4.out, Kp4.out, Kad4.out, HB4.out, hsz4⟩, by simp [intOf]; omega⟩
    · have hk7 : k = 67 := by omega
      subst hk7
      have hc0 : ¬ ((67 : Int) < 67) := by omega
      have HF := hid (HO.out.re (base' := w.heap.size) (by omega))
      rw [preW_full] at HF
      go_wp2_with fail
      go_ret
      exact ⟨_, rfl, HB.out, HF.out⟩
set_option maxHeartbeats 4000000 in
theorem refall_any (n : Int) (w : World) :
    Calls Tryz.prog 195 #[.int .i64 n] w fun e w' => ∃ g cap, e = .returned (.slice (some ⟨g, 0, none⟩) 67 cap) ∧ Below w.heap.size w w' ∧ w'.ownsRow w.heap.size 3 1 (.slice (some ⟨g, 0, none⟩) 67 cap) 67 (List.replicate 67 (Value.int .i64 n)) := by
  obtain ⟨i0, hi, hz0, hz1, hz2⟩ := info_parts infoInt
  go_enter Tryz.func195, Tryz.ntmps195
  go_wp2_with fail
  go_loopw [3, 4] (fun v i wr => ∃ k : Nat, k ≤ 67 ∧ i = .int .i64 k ∧ wr.ownsRow w.heap.size 3 1 v k (List.replicate k (Value.int .i64 n)) ∧ Below w.heap.size w wr) (fun _ i _ => 67 - (intOf i).toNat)
  case atStart => exact ⟨0, by omega, rfl, World.ownsRow_nil _ _ _ _, Below.refl _ _⟩
  case round =>
    obtain ⟨k, hk, rfl, hown, bel⟩ := hrel
    by_cases hlt : k < 67
    · have hc0 : (k : Int) < 67 := by omega
      have hbs := bel.size
      go_wp2_with (at_builtin; refine wpList_append_own _ rfl _ _ 66 rfl w.heap.size 3 i0 (.int .i64 0) 1 8 Tryz.underlying66 hi hz0 hz1 hz2 rfl (by decide) u3 k _ rfl (hown.alloc _) ⟨wr.heap.size, 0, none⟩ 1 1 [.int .i64 n] rfl rfl ?c1 ?c2 ?c3 ?c4 ?c5 ?_)
      case c1 => exact news_new wr [.int .i64 n] 3
      case c2 => simp [Value.oneCell']
      case c3 => unfold maxLen; omega
      case c4 => omega
      case c5 => simp; omega
      intro v' w1 hown' hgrow _
      have hlt1 := hown.lt
      have bel' := (bel.alloc hbs (Obj.cells #[.int .i64 n] 3)).grown hgrow (by simp; omega) (fun q hq => by have := hlt1 q hq; omega)
      clear hown bel hgrow hlt1
      go_wp2
      exact ⟨⟨k + 1, by omega, by go_num, by rw [List.replicate_succ']; exact hown', bel'⟩, by simp [intOf]; omega⟩
    · obtain rfl : k = 67 := by omega
      have hv : ∃ g cap, u3 = .slice (some ⟨g, 0, none⟩) 67 cap := by
        obtain ⟨_, h | ⟨g, cap, cur, h, _⟩⟩ := hown
        · omega
        · exact ⟨g, cap, h⟩
      obtain ⟨g, cap, rfl⟩ := hv
      go_wp2_with fail
      go_ret
      exact ⟨g, cap, rfl, bel, hown⟩
end Go.Proofs.YtpinamdgbijjlaaGreatDoor
namespace Go.Proofs.YtpinamdgbijjlaaGreatDoor
set_option maxRecDepth 100000
open Go.ChangeShapes Go.WideShapes Go.ChangeAt Go.RowKit
theorem refrun_at (pub ad x : List Int) (F T : Nat) (hpub : Dg pub) (had : Aw ad) (hx : Dg x) (hf : F ≤ T ∧ T ≤ 15) (w : World) :
    Calls Tryz.prog 214 #[.agg (x.map (Value.int .u8)).toArray, .int .i64 (F : Int), .int .i64 ((T : Int) - (F : Int)), .agg (pub.map (Value.int .u8)).toArray, .agg (ad.map (Value.int .u32)).toArray] w fun e w' => e = .returned (.agg ((runZ pub ad x F (T - F)).map (Value.int .u8)).toArray) ∧ Below w.heap.size w w' := by
  have := refrun_any pub ad F hpub had (T - F) x w hx (by omega)
  rw [show ((T - F : Nat) : Int) = (T : Int) - (F : Int) by omega] at this
  exact this
theorem refall_v (k : Nat) (w : World) : Calls Tryz.prog 195 #[.int .i64 (k : Int)] w fun e w' => ∃ v, e = .returned v ∧ Below w.heap.size w w' ∧ IntV (fun _ => k) v w' :=
  (refall_any (k : Int) w).mono fun _ _ ⟨g, c, h1, h2, h3⟩ => ⟨_, h1, h2, IntV.of_own h3 fun i hi => by rw [List.getElem?_replicate, if_pos hi]⟩
theorem refsecret_v (seed ad : List Int) (hseed : Dg seed) (had : Aw ad) (w : World) : Calls Tryz.prog 194 #[.agg (seed.map (Value.int .u8)).toArray, .agg (ad.map (Value.int .u32)).toArray] w fun e w' => ∃ v, e = .returned v ∧ Below w.heap.size w w' ∧ RowV 67 (rowW (partZ seed ad)) v w' :=
  (refsecret_any seed ad w hseed had).mono fun _ _ ⟨v, h1, h2, h3⟩ => ⟨v, h1, h2, RowV.of_own h3 (rowW_length _)⟩
set_option maxHeartbeats 4000000 in
theorem refpublic_any (seed pub ad : List Int) (w : World) (hseed : Dg seed) (hpub : Dg pub) (had : Aw ad) :
    Calls Tryz.prog 162 #[(.agg (seed.map (Value.int .u8)).toArray), (.agg (pub.map (Value.int .u8)).toArray), (.agg (ad.map (Value.int .u32)).toArray)] w fun e w' => ∃ v, e = .returned v ∧ Below w.heap.size w w' ∧ RowV 67 (rowW (pubP seed pub ad)) v w' := by
  have b1 := (Below.refl w.heap.size w).alloc (Nat.le_refl _) (.cells (seed.map (Value.int .u8)).toArray 25 (0, 0))
  have b2 := b1.alloc b1.size (.cells (pub.map (Value.int .u8)).toArray 25 (0, 0))
  have b3 := b2.alloc b2.size (.cells (ad.map (Value.int .u32)).toArray 216 (0, 0))
  have Ks := hid (((Blk.new (w := w) (n := w.heap.size) rfl (seed.map (Value.int .u8)).toArray 25).old (.cells (pub.map (Value.int .u8)).toArray 25 (0, 0))).old (.cells (ad.map (Value.int .u32)).toArray 216 (0, 0)))
  have Kp := hid ((Blk.new (w := (w.alloc (.cells (seed.map (Value.int .u8)).toArray 25 (0, 0)))) (n := w.heap.size + 1) (by simp only [World.size_alloc]) (pub.map (Value.int .u8)).toArray 25).old (.cells (ad.map (Value.int .u32)).toArray 216 (0, 0)))
  have Kad := hid (Blk.new (w := ((w.alloc (.cells (seed.map (Value.int .u8)).toArray 25 (0, 0))).alloc (.cells (pub.map (Value.int .u8)).toArray 25 (0, 0)))) (n := w.heap.size + 1 + 1) (by simp only [World.size_alloc]) (ad.map (Value.int .u32)).toArray 216)
  have Hb := hid b3
  have HzA := hid zsize
  have hbz := b3.size
  have Hbs := hid (show w.heap.size + 1 + 1 + 1 = (((w.alloc (.cells (seed.map (Value.int .u8)).toArray 25 (0, 0))).alloc (.cells (pub.map (Value.int .u8)).toArray 25 (0, 0))).alloc (.cells (ad.map (Value.int .u32)).toArray 216 (0, 0))).heap.size by simp only [World.size_alloc])
  clear b1 b2 b3
  go_enter Tryz.func162, Tryz.ntmps162
  go_wp2_with fail
  refine wp_region_flow 8 [0, 1, 5, 6] [] [(.c 2, [], []), (.c 3, [], []), (.c 4, [], []), (.c 7, [], [])] (by kernel_rfl) (by kernel_rfl) ?_
  apply Exists.intro
  refine ⟨fun w0 hb0 hF0 => ?_, ?_⟩
  · skip
    have x0 : ∀ w', (∃ x : Ext w0, w' = x.at_) → ∃ T, Blk w' (w.heap.size) (seed.map (Value.int .u8)).toArray T := fun w' ⟨x, hx⟩ => ⟨_, hx ▸ (Ks.out.below hb0).below x.same⟩
    have x1 : ∀ w', (∃ x : Ext w0, w' = x.at_) → ∃ T, Blk w' (w.heap.size + 1) (pub.map (Value.int .u8)).toArray T := fun w' ⟨x, hx⟩ => ⟨_, hx ▸ (Kp.out.below hb0).below x.same⟩
    have x2 : ∀ w', (∃ x : Ext w0, w' = x.at_) → ∃ T, Blk w' (w.heap.size + 1 + 1) (ad.map (Value.int .u32)).toArray T := fun w' ⟨x, hx⟩ => ⟨_, hx ▸ (Kad.out.below hb0).below x.same⟩
    simp only [pick, List.getElem?_toArray, List.getElem?_cons_succ, List.getElem?_cons_zero, Option.toList_some, List.cons_append, List.nil_append]
    repeat (first | (go_big_quiet_want; refine quiet_load_blk 25 _ rfl (w.heap.size) rfl _ x0 _ Tryz.underlying25 rfl 32 size_digest hseed.size ?_; go_big_quiet_on; simp only [Act.put, List.setIfInBounds_toArray, List.set_cons_zero, List.set_cons_succ]) | (go_big_quiet_want; refine quiet_load_blk 25 _ rfl (w.heap.size + 1) rfl _ x1 _ Tryz.underlying25 rfl 32 size_digest hpub.size ?_; go_big_quiet_on; simp only [Act.put, List.setIfInBounds_toArray, List.set_cons_zero, List.set_cons_succ]) | (go_big_quiet_want; refine quiet_load_blk 216 _ rfl (w.heap.size + 1 + 1) rfl _ x2 _ Tryz.underlying216 rfl 8 sizeAdrs had.size ?_; go_big_quiet_on; simp only [Act.put, List.setIfInBounds_toArray, List.set_cons_zero, List.set_cons_succ]) | go_big_quiet_step (fail))
    exact wpQuiet_nil rfl
  refine AlChk.nil ?_
  refine Walk.call rfl 194 #[(.agg (seed.map (Value.int .u8)).toArray), (.agg (ad.map (Value.int .u32)).toArray)] (RowV 67 (rowW (partZ seed ad))) (fun v w' w'' h k => h.below k) rfl (fun w1 hb1 hF1 => ⟨by go_simp, ?_⟩) ?_
  · exact refsecret_v seed ad hseed had w1
  rintro v w1 hb1 hF1 ⟨a1, c1, rfl, _⟩
  apply Exists.intro
  refine ⟨fun w2 hb2 hF2 => wpQuiet_nil rfl, ?_⟩
  refine AlChk.nil ?_
  refine Walk.call rfl 195 #[.int .i64 0] (IntV (fun _ => 0)) (fun v w' w'' h k => h.below k) rfl (fun w1 hb1 hF1 => ⟨by go_simp, ?_⟩) ?_
  · exact refall_v 0 w1
  rintro v w1 hb1 hF1 ⟨g2, c2, rfl, _⟩
  apply Exists.intro
  refine ⟨fun w2 hb2 hF2 => wpQuiet_nil rfl, ?_⟩
  refine AlChk.nil ?_
  refine Walk.call rfl 195 #[.int .i64 15] (IntV (fun _ => 15)) (fun v w' w'' h k => h.below k) rfl (fun w1 hb1 hF1 => ⟨by go_simp, ?_⟩) ?_
  · exact refall_v 15 w1
  rintro v w1 hb1 hF1 ⟨g3, c3, rfl, _⟩
  apply Exists.intro
  refine ⟨fun w2 hb2 hF2 => wpQuiet_nil rfl, ?_⟩
  refine AlChk.nil ?_
  refine Walk.call rfl 193 #[.slice a1 67 c1, .slice (some ⟨g2, 0, none⟩) 67 c2, .slice (some ⟨g3, 0, none⟩) 67 c3, (.agg (pub.map (Value.int .u8)).toArray), (.agg (ad.map (Value.int .u32)).toArray)] (RowV 67 (rowW (pubP seed pub ad))) (fun v w' w'' h k => h.below k) rfl (fun w1 hb1 hF1 => ⟨by go_simp, ?_⟩) ?_
  · refine (refruns_any (pubP seed pub ad) (fun _ => 0) (fun _ => 15) (rowW (partZ seed ad)) a1 c1 g2 c2 g3 c3 pub ad w1 (fun i => Dg.pubP seed pub ad i) hF1.1.1.2.digs.2 hpub had hF1.1.2.ints.1 hF1.1.2.ints.2 hF1.2.ints.1 hF1.2.ints.2 (fun _ => ⟨by omega, by omega⟩) (fun i hi W => ?_)).mono ?_
    · rw [rowW_get _ hi]; exact refrun_at pub (setAd ad i 0 0) (partZ seed ad i) 0 15 hpub (had.set (by omega) (by omega) (by omega)) (Dg.part _ _ _) (by omega) W
    · rintro e w2 ⟨v, rfl, b2, o2⟩
      exact ⟨v, rfl, b2, RowV.of_own o2 (rowW_length _)⟩
  rintro v w1 hb1 hF1 _
  apply Exists.intro
  refine ⟨fun w2 hb2 hF2 => wpQuiet_nil rfl, ?_⟩
  refine AlChk.nil ?_
  refine Walk.fin fun w4 h4 hF4 _ => ?_
  simp only [List.drop_succ_cons, List.drop_zero]
  have HB4 := hid (Below.on Hb.out h4)
  have HF4 := hid hF4.2
  clear h4 hF4
  go_wp2_with fail
  go_ret
  exact ⟨_, rfl, HB4.out, HF4.out⟩
end Go.Proofs.YtpinamdgbijjlaaGreatDoor
namespace Go.Proofs.YtpinamdgbijjlaaGreatDoor
set_option maxRecDepth 100000
open Go.ChangeShapes Go.WideShapes Go.ChangeAt Go.RowKit
theorem public_v (seed pub ad : List Int) (hseed : Dg seed) (hpub : Dg pub) (had : Aw ad) (W : World) (tab : ShaTab W) : Calls Tryz.prog 158 #[(.agg (seed.map (Value.int .u8)).toArray), (.agg (pub.map (Value.int .u8)).toArray), (.agg (ad.map (Value.int .u32)).toArray)] W fun e w' => ∃ v, e = .returned v ∧ Below W.heap.size W w' ∧ RowV 67 (rowW (pubP seed pub ad)) v w' :=
  (public_any seed pub ad W hseed hpub had tab).mono fun _ _ ⟨_, _, h1, h2, h3⟩ => ⟨_, h1, h2, RowV.of_blk h3 (rowW_each (Dg.pubP seed pub ad)) 67 (rowW_length _) (by omega)⟩
/-- A row, and that there is no error. -/
def TupV (n : Nat) (ds : List (List Int)) (v : Value) (w : World) : Prop := ∃ a cap, v = .tuple #[.slice a n cap, .int .i64 0] ∧ DigsAt w a n cap ds
end Go.Proofs.YtpinamdgbijjlaaGreatDoor
namespace Go.Proofs.YtpinamdgbijjlaaGreatDoor
set_option maxRecDepth 100000
open Go.ChangeShapes Go.WideShapes Go.ChangeAt Go.RowKit
end Go.Proofs.YtpinamdgbijjlaaGreatDoor
