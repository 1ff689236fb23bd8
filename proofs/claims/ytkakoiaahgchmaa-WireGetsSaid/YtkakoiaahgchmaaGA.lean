/-
  Layer 20: rows of digests, shapes, signatures as they come in.
-/
import Derived.Test.YtkakoiaahgchmaaGWire4
import Derived.Test.YtkakoiaahgchmaaGNLate
import Derived.Deep.Strs
import Derived.Deep.Slices
import Derived.Deep.SlicePairs
import Derived.ChangeSame
import Derived.Lib.SmallJoins
namespace Go.Proofs.Ytkakoiaahgchmaa
open Go.ChangeShapes Go.WideShapes Go.ChangeAt Go.RowKit

set_option maxRecDepth 100000 in
/-- Cells that are written into the middle of a block. -/
theorem Blk.setCells {w : World} {b : Nat} {T : TypeId} (A L B : List Value) (o : Nat) (cs : List Value) (h : Blk w b (A ++ (L ++ B)).toArray T) (hl : o + cs.length ≤ L.length) :
    Blk (w.setCells b (A.length + o) cs) b (A ++ (splice L o cs ++ B)).toArray T := by
  rw [setCells_is]
  obtain ⟨cs', h1, h2, h3, h4, h5⟩ := Blk.setAll_at cs (A.length + o) w _ h (by simp; omega)
  have : cs' = (A ++ (splice L o cs ++ B)).toArray := by
    apply Array.ext_getElem?
    intro j
    rcases Nat.lt_or_ge j (A.length + o) with hj | hj
    · rw [h3 j hj]
      simp only [List.getElem?_toArray]
      rcases Nat.lt_or_ge j A.length with hja | hja
      · rw [List.getElem?_append_left hja, List.getElem?_append_left hja]
      · rw [List.getElem?_append_right hja, List.getElem?_append_right hja, List.getElem?_append_left (by omega), List.getElem?_append_left (by rw [length_splice _ _ _ hl]; omega)]
        unfold splice
        rw [List.getElem?_append_left (by simp; omega), List.getElem?_take_of_lt (by omega)]
    · rcases Nat.lt_or_ge j (A.length + o + cs.length) with hj2 | hj2
      · have := h5 (j - (A.length + o)) (by omega)
        rw [show A.length + o + (j - (A.length + o)) = j by omega] at this
        rw [this, List.getElem?_toArray, List.getElem?_append_right (by omega), List.getElem?_append_left (by rw [length_splice _ _ _ hl]; omega)]
        unfold splice
        rw [List.getElem?_append_right (by simp; omega), List.getElem?_append_left (by simp; omega)]
        congr 1
        simp; omega
      · rw [h4 j hj2, List.getElem?_toArray, List.getElem?_toArray, List.getElem?_append_right (show A.length ≤ j by omega), List.getElem?_append_right (show A.length ≤ j by omega)]
        rcases Nat.lt_or_ge (j - A.length) L.length with hj3 | hj3
        · rw [List.getElem?_append_left hj3, List.getElem?_append_left (by rw [length_splice _ _ _ hl]; omega)]
          unfold splice
          rw [List.getElem?_append_right (by simp; omega), List.getElem?_append_right (by simp; omega), List.getElem?_drop]
          congr 1
          simp; omega
        · rw [List.getElem?_append_right hj3, List.getElem?_append_right (by rw [length_splice _ _ _ hl]; omega), length_splice _ _ _ hl]
  rw [← this]; exact h1
/-- Digests, in memory that was there. -/
structure DigsAt (w : World) (a : Option Addr) (len cap : Nat) (ds : List (List Int)) : Prop where
  length : ds.length = len
  le : len ≤ cap
  max : cap ≤ 9223372036854775807
  each : ∀ d ∈ ds, Dg d
  mem : (a = none ∧ len = 0 ∧ cap = 0) ∨ ∃ x o s, a = some ⟨x, o, s⟩ ∧ ∀ j, j < len → s = none ∧ x < w.heap.size ∧ w.rangeAt x (o + j * 32) ((ds.getD j []).map (Value.int .u8))
set_option maxRecDepth 100000 in
theorem rangeAt_below {w w' : World} {x o : Nat} {cs : List Value} (h : w.rangeAt x o cs) (hx : x < w.heap.size) (hb : Below w.heap.size w w') : w'.rangeAt x o cs := fun j v hv => by
  rw [hb.cell (p := ⟨x, o + j, none⟩) hx]; exact h j v hv
set_option maxRecDepth 100000 in
theorem DigsAt.below {w w' : World} {a : Option Addr} {len cap : Nat} {ds : List (List Int)} (h : DigsAt w a len cap ds) (hb : Below w.heap.size w w') : DigsAt w' a len cap ds := by
  obtain ⟨h1, h2, h3, h4, h | ⟨x, o, s, rfl, hc⟩⟩ := h
  · exact ⟨h1, h2, h3, h4, .inl h⟩
  · refine ⟨h1, h2, h3, h4, .inr ⟨x, o, s, rfl, fun j hj => ?_⟩⟩
    obtain ⟨q0, q1, q2⟩ := hc j hj
    exact ⟨q0, Nat.lt_of_lt_of_le q1 hb.size, rangeAt_below q2 q1 hb⟩
set_option maxRecDepth 100000 in
theorem DigsAt.nil (w : World) : DigsAt w none 0 0 [] := ⟨rfl, Nat.le_refl _, by omega, by simp, .inl ⟨rfl, rfl, rfl⟩⟩
set_option maxRecDepth 100000 in
theorem DigsAt.at_ {w : World} {a : Option Addr} {len cap : Nat} {ds : List (List Int)} (h : DigsAt w a len cap ds) (h0 : 0 < len) : ∃ x o, a = some ⟨x, o, none⟩ ∧ x < w.heap.size ∧ ∀ j, j < len → w.rangeAt x (o + j * 32) ((ds.getD j []).map (Value.int .u8)) := by
  obtain ⟨h1, h2, h3, h4, ⟨_, h, _⟩ | ⟨x, o, s, rfl, hc⟩⟩ := h
  · omega
  · obtain ⟨rfl, hx, _⟩ := hc 0 h0
    exact ⟨x, o, rfl, hx, fun j hj => (hc j hj).2.2⟩
set_option maxRecDepth 100000 in
theorem DigsAt.empty {w : World} {a : Option Addr} {len cap : Nat} {ds : List (List Int)} (h : DigsAt w a len cap ds) (h0 : len = 0) : ds = [] := List.eq_nil_of_length_eq_zero (h.length.trans h0)
set_option maxRecDepth 100000 in
theorem DigsAt.get {w : World} {a : Option Addr} {len cap : Nat} {ds : List (List Int)} (h : DigsAt w a len cap ds) {j : Nat} (hj : j < len) : Dg (ds.getD j []) := Dg.getD h.each (by rw [h.length]; exact hj)
set_option maxRecDepth 100000 in
theorem DigsAt.of_blk {w : World} {g n cap : Nat} {ds : List (List Int)} {T : TypeId} (h : Blk w g (dcs ds) T) (hd : ∀ d ∈ ds, Dg d) (hn : ds.length = n) (hc : n ≤ cap) (hm : cap ≤ 9223372036854775807) : DigsAt w (some ⟨g, 0, none⟩) n cap ds :=
  ⟨hn, hc, hm, hd, .inr ⟨g, 0, none, rfl, fun j hj => ⟨rfl, h.lt, by rw [Nat.zero_add]; exact h.digs hd j (by omega)⟩⟩⟩
set_option maxRecDepth 100000 in
/-- A digest is stored to a row. -/
theorem Blk.set_dig {w : World} {g : Nat} {ds : List (List Int)} {T : TypeId} (h : Blk w g (dcs ds) T) (hd : ∀ d ∈ ds, Dg d) {x : List Int} (hx : Dg x) {j : Nat} (hj : j < ds.length) :
    Blk (w.setCells g (j * 32) (x.map (Value.int .u8))) g (dcs (ds.set j x)) T := by
  have hl := flat_length (Dg.lens hd)
  unfold dcs at h ⊢
  have h0 : Blk w g (([] : List Value) ++ (ds.flatten.map (Value.int .u8) ++ [])).toArray T := by simpa using h
  have h1 := Blk.setCells [] (ds.flatten.map (Value.int .u8)) [] (j * 32) (x.map (Value.int .u8)) h0 (by simp only [List.length_map, hl, hx.len]; omega)
  have e : (([] : List Value) ++ (splice (ds.flatten.map (Value.int .u8)) (j * 32) (x.map (Value.int .u8)) ++ [])) = (ds.set j x).flatten.map (Value.int .u8) := by
    rw [← flat_set (Dg.lens hd) x hx.len j hj]
    simp [splice]
  rw [e] at h1
  simpa using h1
set_option maxRecDepth 100000 in
theorem digest_cells {H : Type} {enc : TypeId × Value → H} {P : Program} {W : World} {base : Nat} {spare : Nat → Bool} {held : Bool} {n : Nat} {e q : TypeId} {cs : List Value} {x : DataW H × List MemPlace} (he : P.underlying e = some (.array 32 q)) (hq : P.underlying q = some (.int .u8))
    (ce : P.cellsOf e = 32) (cq : P.cellsOf q = 1) (h : DataW.trod enc P W base spare held n e cs = some x) : ∃ d : List Int, Dg d ∧ cs = d.map (Value.int .u8) := by
  obtain ⟨ys, m, _, _, hl, hyl, hel⟩ := DataW.trod_array he h
  rw [ce] at hl
  have key : ∀ (j : Nat), j < 32 → ∃ x : Int, cs[j]? = some (.int .u8 x) ∧ (Lit.int .u8 x).wf = true := by
    intro j hj
    have h1 := hel j hj
    have hjl : j < cs.length := by omega
    rw [cq, Nat.mul_one] at h1
    obtain ⟨y, hy⟩ : ∃ y, ys[j]? = some y := ⟨_, List.getElem?_eq_getElem (by omega)⟩
    rw [hy] at h1
    have e1 : (cs.drop j).take 1 = [cs[j]] := by
      rw [List.drop_eq_getElem_cons hjl, List.take_succ_cons, List.take_zero]
    rw [e1] at h1
    obtain ⟨a, e0, _, wa⟩ := DataW.trod_int hq h1
    simp only [List.cons.injEq, and_true] at e0
    exact ⟨a, by rw [List.getElem?_eq_getElem hjl, e0], wa⟩
  refine ⟨cs.map fun v => match v with | .int _ x => x | _ => 0, ⟨by simp; omega, ?_⟩, ?_⟩
  · intro x hx
    simp only [List.mem_map] at hx
    obtain ⟨v, hv, rfl⟩ := hx
    obtain ⟨j, hj, rfl⟩ := List.getElem_of_mem hv
    obtain ⟨x, hx, hw⟩ := key j (by omega)
    rw [List.getElem?_eq_getElem hj] at hx
    rw [Option.some.inj hx]
    exact wf_u8 hw
  · apply List.ext_getElem?
    intro j
    rcases Nat.lt_or_ge j 32 with hj | hj
    · obtain ⟨x, hx, _⟩ := key j hj
      simp [hx]
    · rw [List.getElem?_eq_none (by omega), List.getElem?_eq_none (by simp; omega)]
set_option maxRecDepth 100000 in
/-- Digests that come in. -/
theorem open_digs {H : Type} {enc : TypeId × Value → H} {P : Program} {W : World} {base : Nat} {t e q : TypeId} {v : Value} {d : DataW H} {p : List MemPlace} (hu : P.underlying t = some (.slice e)) (he : P.underlying e = some (.array 32 q)) (hq : P.underlying q = some (.int .u8))
    (ce : P.cellsOf e = 32) (cq : P.cellsOf q = 1) (hv : Value.okWide P W .any base t v) (h : DataW.Trod enc P W 0 (fun _ => true) true t v d p) :
    ∃ (a : Option Addr) (len cap : Nat) (ds : List (List Int)), v = .slice a len cap ∧ DigsAt W a len cap ds := by
  obtain ⟨a, len, cap, rfl⟩ := okWide_slice hu hv
  obtain ⟨fuel, hf⟩ := h
  rcases Go.Deep.open_slice hu hf with ⟨hcs, _⟩ | ⟨x, l, c, m, n, D, Pl, hcs, _, hl, hm, hmm, _, hall⟩
  · simp [Value.cells] at hcs
    obtain ⟨rfl, rfl, rfl⟩ := hcs
    exact ⟨none, 0, 0, [], rfl, DigsAt.nil W⟩
  · simp [Value.cells] at hcs
    obtain ⟨rfl, rfl, rfl⟩ := hcs
    obtain ⟨b, off, s⟩ := x
    simp only [if_true] at hmm
    have hall' : ∀ i, i < cap → ∃ dd : List Int, Dg dd ∧ W.cells? 0 ((⟨b, off, s⟩ : Addr).add (i * 32)) 32 = some (dd.map (Value.int .u8)) := fun i hi => by
      obtain ⟨cs', h1, h2⟩ := hall i (by omega)
      rw [ce] at h1
      obtain ⟨dd, h3, rfl⟩ := digest_cells he hq ce cq h2
      exact ⟨dd, h3, h1⟩
    let f : Nat → List Int := fun i => if h : i < cap then Classical.choose (hall' i h) else []
    have hf : ∀ i, i < cap → Dg (f i) ∧ W.cells? 0 ((⟨b, off, s⟩ : Addr).add (i * 32)) 32 = some ((f i).map (Value.int .u8)) := fun i hi => by
      simp only [f, hi, dif_pos]
      exact Classical.choose_spec (hall' i hi)
    refine ⟨_, len, cap, (List.range len).map f, rfl, ⟨by simp, hl, by unfold maxLen at hm; omega, fun d hd => ?_, .inr ⟨b, off, s, rfl, fun i hi => ?_⟩⟩⟩
    · simp only [List.mem_map, List.mem_range] at hd
      obtain ⟨i, hi, rfl⟩ := hd
      exact (hf i (by omega)).1
    · have hc := (World.cells?_some (hf i (by omega)).2).2.2
      have h0 := (World.cells?_some (hf 0 (by omega)).2).2.2 0 (by omega)
      have hl0 := (hf 0 (by omega)).1.len
      have hli := (hf i (by omega)).1.len
      rw [List.getElem?_map, List.getElem?_eq_getElem (by omega)] at h0
      have hs : s = none := by
        have := World.cell?_spot h0
        simpa [Addr.add] using this
      subst hs
      have hx : b < W.heap.size := by
        rw [Addr.add_mid, Addr.add_mid] at h0
        exact World.block_lt_of_cell? W _ h0
      refine ⟨rfl, hx, fun k v hv => ?_⟩
      have e : ((List.range len).map f).getD i [] = f i := by simp [hi]
      rw [e] at hv
      have hk : k < 32 := by
        have := (List.getElem?_eq_some_iff.1 hv).1
        simp only [List.length_map, hli] at this
        exact this
      have := hc k hk
      rw [Addr.add_mid, Addr.add_mid] at this
      rw [this]
      exact hv
/-- A row of digests of the call's own. -/
structure OwnD (w : World) (base : Nat) (e : TypeId) (v : Value) (ds : List (List Int)) : Prop where
  row : w.ownsRow base e 32 v ds.length (ds.flatten.map (Value.int .u8))
  each : ∀ d ∈ ds, Dg d
set_option maxRecDepth 100000 in
theorem OwnD.nil (w : World) (base : Nat) (e : TypeId) : OwnD w base e (.slice none 0 0) [] := ⟨World.ownsRow_nil w base e 32, by simp⟩
set_option maxRecDepth 100000 in
theorem OwnD.below {w w' : World} {base : Nat} {e : TypeId} {v : Value} {ds : List (List Int)} (h : OwnD w base e v ds) (hb : Below w.heap.size w w') : OwnD w' base e v ds := ⟨owns_below h.row hb, h.each⟩
set_option maxRecDepth 100000 in
theorem OwnD.lt {w : World} {base : Nat} {e : TypeId} {v : Value} {ds : List (List Int)} (h : OwnD w base e v ds) : ∀ k, v.ownBlock = some k → base ≤ k ∧ k < w.heap.size := h.row.lt
set_option maxRecDepth 100000 in
theorem OwnD.re {w : World} {base base' : Nat} {e : TypeId} {v : Value} {ds : List (List Int)} (h : OwnD w base e v ds) (hb : base' ≤ base) : OwnD w base' e v ds := by
  obtain ⟨⟨h1, h2⟩, h3⟩ := h
  refine ⟨⟨h1, h2.imp id ?_⟩, h3⟩
  rintro ⟨g, cap, cur, rfl, hg, hh⟩
  exact ⟨g, cap, cur, rfl, Nat.le_trans hb hg, hh⟩
set_option maxRecDepth 100000 in
theorem OwnD.of_blk {w : World} {base g n : Nat} {e : TypeId} {ds : List (List Int)} (h : Blk w g (dcs ds) e) (hg : base ≤ g) (hn : ds.length = n) (hm : n ≤ 9223372036854775807) (hs : ∀ d ∈ ds, Dg d) : OwnD w base e (.slice (some ⟨g, 0, none⟩) n n) ds := by
  subst hn
  unfold dcs at h
  have hl := flat_length (Dg.lens hs)
  exact ⟨⟨by rw [List.length_map, hl], .inr ⟨g, _, _, rfl, hg, h, Nat.le_refl _, by unfold maxLen; omega, by rw [List.size_toArray, List.length_map, hl], List.take_of_length_le (by rw [List.length_map, hl]; exact Nat.le_refl _)⟩⟩, hs⟩
set_option maxRecDepth 100000 in
theorem OwnD.digs {w : World} {base : Nat} {e : TypeId} {v : Value} {ds : List (List Int)} (h : OwnD w base e v ds) : ∃ a cap, v = .slice a ds.length cap ∧ DigsAt w a ds.length cap ds ∧ (a = none ∨ ∃ g, a = some ⟨g, 0, none⟩ ∧ base ≤ g) := by
  obtain ⟨⟨h1, ⟨rfl, h2⟩ | ⟨g, cap, cur, rfl, hg, hh, hle, hmx, hsz, htk⟩⟩, h3⟩ := h
  · obtain rfl := List.eq_nil_of_length_eq_zero h2
    exact ⟨none, 0, rfl, DigsAt.nil w, .inl rfl⟩
  · refine ⟨_, cap, rfl, ⟨rfl, hle, by unfold maxLen at hmx; omega, h3, .inr ⟨g, 0, none, rfl, fun j hj => ⟨rfl, (Array.getElem?_eq_some_iff.1 hh).1, fun k v hv => ?_⟩⟩⟩, .inr ⟨g, rfl, hg⟩⟩
    have hk : k < 32 := by
      have := (List.getElem?_eq_some_iff.1 hv).1
      simp only [List.length_map, (Dg.getD h3 hj).len] at this
      exact this
    have hb : Blk w g cur e := hh
    rw [Nat.zero_add, hb.cell]
    have : (cur.toList.take (ds.length * 32))[j * 32 + k]? = some v := by
      rw [htk, List.getElem?_map, flat_at (Dg.lens h3) j k hj hk, ← List.getElem?_map]
      exact hv
    rw [List.getElem?_take_of_lt (by omega)] at this
    simpa using this
section
variable {P : Program} {w : World} {base : Nat} {t e : TypeId} {i : TypeInfo} {v z : Value} {ds : List (List Int)}
set_option maxRecDepth 100000 in
/-- One digest more. -/
theorem run_append_dig (ty : TypeId) (ht : P.underlying t = some (.slice e)) (hi : P.info? e = some i) (hz : i.zero = some z) (hzs : z.cells.size = 32) (hsize : i.size = 32) (hby : i.bytes = 32) (hown : OwnD w base e v ds)
    {b : Nat} {x : List Int} {T : TypeId} (hk : Blk w b (x.map (Value.int .u8)).toArray T) (hx : Dg x) (hb : ds.length ≤ 4000000000000) (hbase : base ≤ w.heap.size) :
    ∃ v' w', (Builtin.append_ #[t, t] ty #[v, .slice (some ⟨b, 0, none⟩) 1 1]).run P w = .ok v' w' ∧ OwnD w' base e v' (ds ++ [x]) ∧ w.grownBy w' v.ownBlock ∧ Below base w w' := by
  have hbel : ∀ {w' : World}, w.grownBy w' v.ownBlock → Below base w w' := fun hg => ⟨hg.os, hg.tape, hg.output, hg.size, fun k hk => hg.block k (by omega) (fun e => by have := (hown.lt k e.symm).1; omega)⟩
  obtain ⟨v', w', h1, h2, h3, _⟩ := run_append_own (P := P) w base t ty e i z 32 32 ht hi hz hsize hby hzs (by omega) v ds.length _ hown.row ⟨b, 0, none⟩ 1 1 (x.map (Value.int .u8)) (by simp [hx.len]) (news_blk hk) (fun u hu => by
    simp only [List.mem_map] at hu
    obtain ⟨_, _, rfl⟩ := hu
    rfl) (by unfold maxLen; omega) (by omega) hbase
  refine ⟨v', w', h1, ⟨?_, ?_⟩, h3, ?_⟩
  · have : (ds ++ [x]).flatten.map (Value.int .u8) = ds.flatten.map (Value.int .u8) ++ x.map (Value.int .u8) := by simp
    rw [this, List.length_append]
    exact h2
  · intro d hd
    rcases List.mem_append.1 hd with h | h
    · exact hown.each d h
    · simp only [List.mem_singleton] at h
      rw [h]; exact hx
  · exact hbel h3
end
section
variable {P : Program} {w : World} {base : Nat} {t e : TypeId} {i : TypeInfo} {v z : Value} {ds : List (List Int)}
set_option maxRecDepth 100000 in
theorem wpList_append_dig {ops : Array Oper} {rest : List Oper} {o : Oper} {A : Act} {Q : Exit → Act → World → Prop} (hgd : o.guard = none) (s x : Operand) (ho : o.op = .call { callee := .builtin .append, args := #[s, x], argTypes := #[t, t] })
    (ht : P.underlying t = some (.slice e)) (hi : P.info? e = some i) (hz : i.zero = some z) (hzs : z.cells.size = 32) (hsize : i.size = 32) (hby : i.bytes = 32) (hs : A.eval s = v) (hown : OwnD w base e v ds)
    {b : Nat} {y : List Int} {T : TypeId} (hx : A.eval x = .slice (some ⟨b, 0, none⟩) 1 1) (hk : Blk w b (y.map (Value.int .u8)).toArray T) (hy : Dg y) (hb : ds.length ≤ 4000000000000) (hbase : base ≤ w.heap.size)
    (h : ∀ v' w', OwnD w' base e v' (ds ++ [y]) → w.grownBy w' v.ownBlock → Below base w w' → wpList P ops Q rest (A.put o.dst v') w') : wpList P ops Q (o :: rest) A w :=
  wpList_plain hgd fun K hK => by
    obtain ⟨v', w', hr, h2, h3, h4⟩ := run_append_dig o.type ht hi hz hzs hsize hby hown hk hy hb hbase
    unfold Oper.wp execOp
    simp only [ho, resolve, invoke, builtin, Sem.run_bind, Sem.run_pure, Result.andThen_ok, List.map_toArray, List.map_cons, List.map_nil, hs, hx, hr, Oper.upon_value]
    exact hK _ _ (h v' w' h2 h3 h4)
end
section
variable {P : Program} {ops : Array Oper} {rest : List Oper} {op : Oper} {a : Act} {w : World} {Q : Exit → Act → World → Prop} {t e : TypeId}
set_option maxRecDepth 100000 in
/-- An element's address. -/
theorem run_indexAt_digs (ht : P.underlying t = some (.slice e)) (hs : (P.info? e).map (·.size) = some 32) (b o len cap : Nat) (k : IntKind) (i : Int) (j : Nat) (hi : i = j) (hj : j < len) (w : World) :
    (Instr.indexAt t (.slice (some ⟨b, o, none⟩) len cap) (.int k i)).run P w = .ok (.pointer (some ⟨b, o + j * 32, none⟩)) w := by
  subst hi
  obtain ⟨i0, hi0, h32⟩ := Option.map_eq_some_iff.1 hs
  have hlt : (0 : Int) ≤ j ∧ (j : Int) < len := by omega
  unfold Instr.indexAt
  simp [asIntOf, Sem.run_bind, run_underlying ht, hlt, sizeOf, typeInfo, hi0, h32, hj, Addr.add_mid]
end
section
variable {P : Program} {ops : Array Oper} {rest : List Oper} {op : Oper} {a : Act} {w : World} {Q : Exit → Act → World → Prop} {t e : TypeId}
set_option maxRecDepth 100000 in
theorem wpList_index_digs (hgd : op.guard = none) (ty : TypeId) (x ix : Operand) (ho : op.op = .indexAddr ty x ix) (ht : P.underlying ty = some (.slice e)) (hs : (P.info? e).map (·.size) = some 32) (b o len cap : Nat) (hx : a.eval x = .slice (some ⟨b, o, none⟩) len cap)
    (k : IntKind) (i : Int) (hix : a.eval ix = .int k i) (j : Nat) (hi : i = j) (hj : j < len) (h : wpList P ops Q rest (a.put op.dst (.pointer (some ⟨b, o + j * 32, none⟩))) w) : wpList P ops Q (op :: rest) a w :=
  wpList_plain hgd fun K hK => by
    unfold Oper.wp execOp
    simp only [ho, hx, hix, Sem.run_bind, Sem.run_pure, Result.andThen_ok, run_indexAt_digs ht hs b o len cap k i j hi hj, Oper.upon_value]
    exact hK _ _ h
end
section
variable {P : Program} {ops : Array Oper} {rest : List Oper} {op : Oper} {a : Act} {w : World} {Q : Exit → Act → World → Prop} {t e : TypeId}
set_option maxRecDepth 100000 in
theorem quiet_index_digs {C : World → Prop} {K : Act → Prop} (ty : TypeId) (x ix : Operand) (ho : op.op = .indexAddr ty x ix) (ht : P.underlying ty = some (.slice e)) (hs : (P.info? e).map (·.size) = some 32) (b o len cap : Nat) (hx : a.eval x = .slice (some ⟨b, o, none⟩) len cap)
    (k : IntKind) (i : Int) (hix : a.eval ix = .int k i) (j : Nat) (hi : i = j) (hj : j < len) (h : K (a.put op.dst (.pointer (some ⟨b, o + j * 32, none⟩)))) : op.quiet P a C K :=
  ⟨.pointer (some ⟨b, o + j * 32, none⟩), fun w' hw' => by
    unfold Oper.quietAt execOp
    simp only [ho, hx, hix, Sem.run_bind, Sem.run_pure, Result.andThen_ok, run_indexAt_digs ht hs b o len cap k i j hi hj]
    simp [Oper.quietUpon], h⟩
end
/-- what functions that answer two digests hand back, and a value more -/
theorem results_blk2_tmp {P : Program} {w : World} {fn : Func} {p q u : Tmp} {ty : TypeId} (h : fn.results = #[.cell p ty, .cell q ty, .tmp u]) (tmps : Array Value) (b c : Nat) (hp : tmps.getD p undef = .pointer (some ⟨b, 0, none⟩)) (hq : tmps.getD q undef = .pointer (some ⟨c, 0, none⟩)) (v : Value) (hv : tmps.getD u undef = v) (cs ds : Array Value) (T : TypeId) (hk : Blk w b cs T) (hk2 : Blk w c ds T)
    (d : TypeDesc) (hu : P.underlying ty = some d) (hd : d.isRow = true) (n : Nat) (hi : (P.info? ty).map (·.size) = some n) (hs : cs.size = n) (hs2 : ds.size = n) : (results fn tmps).run P w = .ok (.tuple #[.agg cs, .agg ds, v]) w := by
  have hp' : tmps[p]?.getD undef = .pointer (some ⟨b, 0, none⟩) := by simpa using hp
  have hq' : tmps[q]?.getD undef = .pointer (some ⟨c, 0, none⟩) := by simpa using hq
  have hv' : tmps[u]?.getD undef = v := by simpa using hv
  have hl := run_loadVar_row (P := P) w b T ty cs (0, 0) d hk hu (by cases d <;> simp_all) (by rw [hi, hs])
  have hl2 := run_loadVar_row (P := P) w c T ty ds (0, 0) d hk2 hu (by cases d <;> simp_all) (by rw [hi, hs2])
  simp [results, h, hp', hq', hv', asAddr, hl, hl2]
theorem results_blk2 {P : Program} {w : World} {fn : Func} {p q : Tmp} {ty : TypeId} (h : fn.results = #[.cell p ty, .cell q ty]) (tmps : Array Value) (b c : Nat) (hp : tmps.getD p undef = .pointer (some ⟨b, 0, none⟩)) (hq : tmps.getD q undef = .pointer (some ⟨c, 0, none⟩)) (cs ds : Array Value) (T : TypeId) (hk : Blk w b cs T) (hk2 : Blk w c ds T)
    (d : TypeDesc) (hu : P.underlying ty = some d) (hd : d.isRow = true) (n : Nat) (hi : (P.info? ty).map (·.size) = some n) (hs : cs.size = n) (hs2 : ds.size = n) : (results fn tmps).run P w = .ok (.tuple #[.agg cs, .agg ds]) w := by
  have hp' : tmps[p]?.getD undef = .pointer (some ⟨b, 0, none⟩) := by simpa using hp
  have hq' : tmps[q]?.getD undef = .pointer (some ⟨c, 0, none⟩) := by simpa using hq
  have hl := run_loadVar_row (P := P) w b T ty cs (0, 0) d hk hu (by cases d <;> simp_all) (by rw [hi, hs])
  have hl2 := run_loadVar_row (P := P) w c T ty ds (0, 0) d hk2 hu (by cases d <;> simp_all) (by rw [hi, hs2])
  simp [results, h, hp', hq', asAddr, hl, hl2]
theorem flat_take {ds : List (List Int)} (h : ∀ d ∈ ds, d.length = 32) : ∀ (j : Nat), ds.flatten.take (j * 32) = (ds.take j).flatten := by
  induction ds with
  | nil => intro j; simp
  | cons d ds ih =>
    intro j
    have hd := h d (List.mem_cons_self ..)
    cases j with
    | zero => simp
    | succ j =>
      rw [List.flatten_cons, List.take_succ_cons, List.flatten_cons, List.take_append, hd, List.take_of_length_le (by omega), show (j + 1) * 32 - 32 = j * 32 by omega, ih fun x hx => h x (List.mem_cons_of_mem _ hx)]
theorem flat_drop {ds : List (List Int)} (h : ∀ d ∈ ds, d.length = 32) : ∀ (j : Nat), ds.flatten.drop (j * 32) = (ds.drop j).flatten := by
  induction ds with
  | nil => intro j; simp
  | cons d ds ih =>
    intro j
    have hd := h d (List.mem_cons_self ..)
    cases j with
    | zero => simp
    | succ j =>
      rw [List.flatten_cons, List.drop_succ_cons, List.drop_append, hd, List.drop_eq_nil_of_le (by omega), List.nil_append, show (j + 1) * 32 - 32 = j * 32 by omega, ih fun x hx => h x (List.mem_cons_of_mem _ hx)]
/-- digests are laid over a part of a row -/
theorem Blk.lay_digs {w : World} {g : Nat} {ds es : List (List Int)} {T : TypeId} (h : Blk w g (dcs ds) T) (hd : ∀ d ∈ ds, Dg d) (he : ∀ d ∈ es, Dg d) {j : Nat} (hj : j + es.length ≤ ds.length) :
    Blk (w.setCells g (j * 32) (es.flatten.map (Value.int .u8))) g (dcs (ds.take j ++ (es ++ ds.drop (j + es.length)))) T := by
  have hl := flat_length (Dg.lens hd)
  have hl2 := flat_length (Dg.lens he)
  unfold dcs at h ⊢
  have h0 : Blk w g (([] : List Value) ++ (ds.flatten.map (Value.int .u8) ++ [])).toArray T := by simpa using h
  have h1 := Blk.setCells [] (ds.flatten.map (Value.int .u8)) [] (j * 32) (es.flatten.map (Value.int .u8)) h0 (by simp only [List.length_map, hl, hl2]; omega)
  have e : (([] : List Value) ++ (splice (ds.flatten.map (Value.int .u8)) (j * 32) (es.flatten.map (Value.int .u8)) ++ [])) = (ds.take j ++ (es ++ ds.drop (j + es.length))).flatten.map (Value.int .u8) := by
    unfold splice
    rw [List.flatten_append, List.flatten_append, ← flat_take (Dg.lens hd) j, ← flat_drop (Dg.lens hd) (j + es.length)]
    rw [List.length_map, hl2, List.nil_append, List.append_nil, List.map_append, List.map_append, List.map_take, List.map_drop, show j * 32 + es.length * 32 = (j + es.length) * 32 by omega]
  rw [e] at h1
  simpa using h1
/-- where a part of a row of digests begins -/
def cutD (a : Option Addr) (l cap : Nat) : Option Addr := if cap = l then a else a.map (·.add (l * 32))
theorem cutD_zero (a : Option Addr) (cap : Nat) : cutD a 0 cap = a := by
  unfold cutD
  split
  · rfl
  · cases a with
    | none => rfl
    | some a => obtain ⟨x, o, s⟩ := a; cases s <;> simp [Addr.add]
theorem DigsAt.cut {w : World} {a : Option Addr} {len cap : Nat} {ds : List (List Int)} (h : DigsAt w a len cap ds) (l hi : Nat) (hl : l ≤ hi) (hh : hi ≤ len) : DigsAt w (cutD a l cap) (hi - l) (cap - l) ((ds.drop l).take (hi - l)) := by
  obtain ⟨h1, h2, h3, h4, h5⟩ := h
  refine ⟨by simp; omega, by omega, by omega, fun x hx => h4 x (List.mem_of_mem_drop (List.mem_of_mem_take hx)), ?_⟩
  unfold cutD
  rcases h5 with ⟨rfl, rfl, rfl⟩ | ⟨x, o, s, rfl, hc⟩
  · left
    refine ⟨by split <;> rfl, by omega, by omega⟩
  · right
    split
    · exact ⟨x, o, s, rfl, fun j hj => by omega⟩
    · rcases Nat.eq_or_lt_of_le hl with rfl | hlt
      · rcases s with _ | s
        · exact ⟨x, o + l * 32, none, by rw [Option.map_some, Addr.add_mid], fun j hj => by omega⟩
        · cases ha : (⟨x, o, some s⟩ : Addr).add (l * 32) with
          | mk x' o' s' => exact ⟨x', o', s', by simp [ha], fun j hj => by omega⟩
      · obtain ⟨rfl, hx, _⟩ := hc l (by omega)
        refine ⟨x, o + l * 32, none, by rw [Option.map_some, Addr.add_mid], fun j hj => ⟨rfl, hx, ?_⟩⟩
        rw [show o + l * 32 + j * 32 = o + (l + j) * 32 by omega]
        have := (hc (l + j) (by omega)).2.2
        rw [show ((ds.drop l).take (hi - l)).getD j [] = ds.getD (l + j) [] by simp [List.getD_eq_getElem?_getD, show j < hi - l by omega]]
        exact this
theorem DigsAt.head {w : World} {a : Option Addr} {len cap : Nat} {ds : List (List Int)} (h : DigsAt w a len cap ds) (hi : Nat) (hh : hi ≤ len) : DigsAt w a hi cap (ds.take hi) := by
  have := h.cut 0 hi (Nat.zero_le _) hh
  simpa [cutD_zero] using this
section
variable {P : Program} {t e : TypeId}
theorem run_cutd_lh (ht : P.underlying t = some (.slice e)) (hs : (P.info? e).map (·.size) = some 32) (a : Option Addr) (len cap : Nat) (l hi : Int) (w : World) (h0 : 0 ≤ l) (h1 : l ≤ hi) (h2 : hi ≤ cap) :
    (Instr.slice t (.slice a len cap) (some (.int .i64 l)) (some (.int .i64 hi)) none).run P w = .ok (.slice (cutD a l.toNat cap) (hi.toNat - l.toNat) (cap - l.toNat)) w := by
  have he : P.elem t = e := by simp [Program.elem, ht]
  rw [run_slice_lh (w := w) t a len cap (by rw [he]; exact ht) _ _ l hi h0 h1 h2]
  obtain ⟨i, hi1, hi2⟩ := Option.map_eq_some_iff.1 hs
  simp [sizeOf, typeInfo, he, hi1, hi2, sliced, cutD]
end
section
variable {P : Program} {t e : TypeId}
theorem run_cutd_h (ht : P.underlying t = some (.slice e)) (hs : (P.info? e).map (·.size) = some 32) (a : Option Addr) (len cap : Nat) (hi : Int) (w : World) (h0 : 0 ≤ hi) (h2 : hi ≤ cap) :
    (Instr.slice t (.slice a len cap) none (some (.int .i64 hi)) none).run P w = .ok (.slice a hi.toNat cap) w := by
  have he : P.elem t = e := by simp [Program.elem, ht]
  rw [run_slice_h (w := w) t a len cap (by rw [he]; exact ht) _ hi h0 h2]
  obtain ⟨i, hi1, hi2⟩ := Option.map_eq_some_iff.1 hs
  have := cutD_zero a cap
  unfold cutD at this
  simp only [Nat.zero_mul] at this
  simp [sizeOf, typeInfo, he, hi1, hi2, sliced, this]
end
section
variable {P : Program} {t e : TypeId}
theorem run_cutd_l (ht : P.underlying t = some (.slice e)) (hs : (P.info? e).map (·.size) = some 32) (a : Option Addr) (len cap : Nat) (l : Int) (w : World) (h0 : 0 ≤ l) (h1 : l ≤ len) :
    (Instr.slice t (.slice a len cap) (some (.int .i64 l)) none none).run P w = .ok (.slice (cutD a l.toNat cap) (len - l.toNat) (cap - l.toNat)) w := by
  have he : P.elem t = e := by simp [Program.elem, ht]
  rw [run_slice_l (w := w) t a len cap (by rw [he]; exact ht) _ l h0 h1]
  obtain ⟨i, hi1, hi2⟩ := Option.map_eq_some_iff.1 hs
  simp [sizeOf, typeInfo, he, hi1, hi2, sliced, cutD]
end
section
variable {P : Program} {t e : TypeId}
/-- copy, of digests -/
theorem run_copy_digs (w : World) (dT sT ty elem : TypeId) (hu : P.underlying dT = some (.slice elem)) (hs : (P.info? elem).map (·.size) = some 32) {b : Nat} {ds es : List (List Int)} {T : TypeId} (hk : Blk w b (dcs ds) T) (hd : ∀ d ∈ ds, Dg d) (h dLen dCap : Nat) (da : Option Addr) (hda : 0 < dLen → da = some ⟨b, h * 32, none⟩)
    {a : Option Addr} {len cap : Nat} (hT : DigsAt w a len cap es) (hfit : h + dLen ≤ ds.length) : ∃ w', (Builtin.copy_ #[dT, sT] ty #[.slice da dLen dCap, .slice a len cap]).run P w = .ok (.int .i64 (Nat.min len dLen : Nat)) w' ∧ But b w w' ∧
      Blk w' b (dcs (ds.take h ++ (es.take (Nat.min len dLen) ++ ds.drop (h + Nat.min len dLen)))) T := by
  obtain ⟨i, hq, hi⟩ := Option.map_eq_some_iff.1 hs
  rcases Nat.eq_zero_or_pos (Nat.min len dLen) with h0 | h0
  · refine ⟨w, ?_, But.of (Below.refl _ _), ?_⟩
    · have hl : ∀ (x : Addr), (loadCells x 0).run P w = .ok #[] w := fun x => by simpa using run_loadCells_list (P := P) w x [] (by simp)
      cases da <;> cases a <;> simp [Builtin.copy_, run_underlying hu, Builtin.lenOf, Builtin.firstCells, sizeOf, typeInfo, hq, h0, storeCells, hl, goInt]
    · rw [h0]
      simpa using hk
  · have hle : Nat.min len dLen ≤ len := Nat.min_le_left _ _
    have hle2 : Nat.min len dLen ≤ dLen := Nat.min_le_right _ _
    obtain rfl := hda (by omega)
    obtain ⟨x, o, rfl, hx, hc⟩ := hT.at_ (by omega)
    have hea : ∀ d ∈ es.take (Nat.min len dLen), Dg d := fun d hd => hT.each d (List.mem_of_mem_take hd)
    have hel : (es.take (Nat.min len dLen)).length = Nat.min len dLen := by rw [List.length_take, hT.length]; omega
    have hfl := flat_length (Dg.lens hea)
    rw [hel] at hfl
    generalize hm : Nat.min len dLen = m at *
    have hsrc : ∀ j v, ((es.take m).flatten.map (Value.int .u8))[j]? = some v → w.cell? ((⟨x, o, none⟩ : Addr).add j) = some v := fun j v hv => by
      have hj : j < m * 32 := by
        have := (List.getElem?_eq_some_iff.1 hv).1
        rw [List.length_map, hfl] at this
        exact this
      have hjm : j / 32 < m := by omega
      have hjk : j % 32 < 32 := by omega
      have hd2 := hc (j / 32) (by omega) (j % 32) v (by
        rw [List.getElem?_map]
        rw [List.getElem?_map, show j = j / 32 * 32 + j % 32 by omega, flat_at (Dg.lens hea) _ _ (by omega) hjk] at hv
        rw [show (es.take m).getD (j / 32) [] = es.getD (j / 32) [] by simp [List.getD_eq_getElem?_getD, hjm]] at hv
        exact hv)
      rw [Addr.add_mid, show o + j = o + j / 32 * 32 + j % 32 by omega]
      exact hd2
    have hl := run_loadCells_list (P := P) w ⟨x, o, none⟩ _ hsrc
    have hst := run_storeCells_cells (P := P) b (h * 32) ((es.take m).flatten.map (Value.int .u8)) 0 w (fun j hj => by
      rw [List.length_map, hfl] at hj
      rw [hk.cell, Array.getElem?_eq_getElem (by rw [dcs_size (Dg.lens hd)]; omega)]; rfl) (fun j _ => hk.free _) (fun v hv => by
      obtain ⟨y, _, rfl⟩ := List.mem_map.1 hv
      rfl)
    rw [List.length_map, hfl] at hl
    refine ⟨w.setCells b (h * 32) ((es.take m).flatten.map (Value.int .u8)), ?_, But.setCells _ _ _ (But.of (Below.refl _ _)), ?_⟩
    · have hmin : len.min dLen = m := hm
      generalize (es.take m).flatten.map (Value.int .u8) = cs at hl hst ⊢
      simp [Builtin.copy_, run_underlying hu, Builtin.lenOf, Builtin.firstCells, sizeOf, typeInfo, hq, hi, hmin, hl, hst, goInt]
    · have := hk.lay_digs hd hea (j := h) (by omega)
      rw [hel] at this
      exact this
end
theorem wpList_copy_digs {P : Program} {ops : Array Oper} {rest : List Oper} {op : Oper} {act : Act} {w : World} {Q : Exit → Act → World → Prop} (hgd : op.guard = none) (d s : Operand) (dT sT : TypeId)
    (ho : op.op = .call { callee := .builtin .copy, args := #[d, s], argTypes := #[dT, sT] }) (elem : TypeId) (hu : P.underlying dT = some (.slice elem)) (hs : (P.info? elem).map (·.size) = some 32)
    (b h dLen dCap : Nat) (da : Option Addr) (hd : act.eval d = .slice da dLen dCap) (hda : 0 < dLen → da = some ⟨b, h * 32, none⟩) (a : Option Addr) (len cap : Nat) (hse : act.eval s = .slice a len cap) (ds es : List (List Int)) (T : TypeId) (hk : Blk w b (dcs ds) T) (hds : ∀ d ∈ ds, Dg d) (hT : DigsAt w a len cap es) (hfit : h + dLen ≤ ds.length)
    (hn : ∀ w', But b w w' → Blk w' b (dcs (ds.take h ++ (es.take (Nat.min len dLen) ++ ds.drop (h + Nat.min len dLen)))) T → wpList P ops Q rest (act.put op.dst (.int .i64 (Nat.min len dLen : Nat))) w') : wpList P ops Q (op :: rest) act w :=
  wpList_plain hgd fun K hK => by
    obtain ⟨w', hr, h1, h2⟩ := run_copy_digs (P := P) w dT sT op.type elem hu hs hk hds h dLen dCap da hda hT hfit
    unfold Oper.wp execOp
    simp only [ho, resolve, invoke, builtin, Sem.run_bind, Sem.run_pure, Result.andThen_ok, List.map_toArray, List.map_cons, List.map_nil, hd, hse, hr, Oper.upon_value]
    exact hK _ _ (hn w' h1 h2)
/-- a row of digests is made -/
theorem make_digs (n : Nat) (i : Int) (hi : i = n) (hn : n ≤ 500000) (w0 : World) : (Instr.makeSlice 44 (.int .i64 i) (.int .i64 i)).run Try.prog w0 = .ok (.slice (some ⟨w0.heap.size, 0, none⟩) n n) (w0.alloc (.cells (dcs (List.replicate n zD)) 25)) := by
  subst hi
  obtain ⟨i0, hi, hz0, hz1, hz2⟩ := info_parts info_dig
  have hr := run_makeSlice (P := Try.prog) w0 44 25 i0 _ Try.underlying44 hi hz0 .i64 .i64 n n (by omega) (by omega) (by rw [hz1]; simp; omega) (by rw [hz2]; omega) (by omega)
  rw [hz1, Int.toNat_natCast, zD_rows] at hr
  exact hr
/-- a digest is stored to a row -/
theorem wpList_store_dig {P : Program} {ops : Array Oper} {rest : List Oper} {op : Oper} {a : Act} {w : World} {Q : Exit → Act → World → Prop} (hgd : op.guard = none) (ty : TypeId) (x y : Operand) (ho : op.op = .store ty x y) (b j : Nat) (d : List Int) (hx : a.eval x = .pointer (some ⟨b, 0 + j * 32, none⟩)) (hy : a.eval y = .agg (d.map (Value.int .u8)).toArray)
    (ds : List (List Int)) (T : TypeId) (hk : Blk w b (dcs ds) T) (hds : ∀ d ∈ ds, Dg d) (hd : Dg d) (hj : j < ds.length) (hi : (P.info? ty).map (·.size) = some 32)
    (h : ∀ w', But b w w' → Blk w' b (dcs (ds.set j d)) T → wpList P ops Q rest (a.put op.dst undef) w') : wpList P ops Q (op :: rest) a w := by
  refine wpList_store_mid hgd ty x y ho b (0 + j * 32) (d.map (Value.int .u8)).toArray hx hy (fun k hk' => ⟨?_, hk.free _⟩) (by rw [hi, hd.size]) (ints_one _ _) ?_
  · rw [hd.size] at hk'
    rw [hk.cell, Array.getElem?_eq_getElem (by rw [dcs_size (Dg.lens hds)]; omega)]; rfl
  · rw [Nat.zero_add]
    exact h _ (But.setCells _ _ _ (But.of (Below.refl _ _))) (hk.set_dig hds hd hj)
section
variable {P : Program}
set_option maxRecDepth 100000 in
theorem exec_build_one {o : Oper} {A : Act} {w : World} {e : Operand} (ho : o.op = .buildSlice 44 1 #[(0, e)]) {x : List Int} (he : A.eval e = .agg (x.map (Value.int .u8)).toArray) (hx : Dg x) :
    (execOp A.eval o).run Try.prog w = .ok (.value (.slice (some ⟨w.heap.size, 0, none⟩) 1 1)) (w.alloc (.cells (x.map (Value.int .u8)).toArray 25 (0, 0))) := by
  unfold execOp
  simp only [ho, List.map_toArray, List.map_cons, List.map_nil, he, Sem.run_bind, run_build_one hx, Result.andThen_ok, Sem.run_pure]
end
section
variable {P : Program}
theorem wpList_build_one {ops : Array Oper} {rest : List Oper} {o : Oper} {A : Act} {w : World} {Q : Exit → Act → World → Prop} (hgd : o.guard = none) (e : Operand) (ho : o.op = .buildSlice 44 1 #[(0, e)]) {x : List Int} (he : A.eval e = .agg (x.map (Value.int .u8)).toArray) (hx : Dg x)
    (h : wpList Try.prog ops Q rest (A.put o.dst (.slice (some ⟨w.heap.size, 0, none⟩) 1 1)) (w.alloc (.cells (x.map (Value.int .u8)).toArray 25 (0, 0)))) : wpList Try.prog ops Q (o :: rest) A w :=
  wpList_plain hgd fun K hK => by
    unfold Oper.wp
    rw [exec_build_one ho he hx, Oper.upon_value]
    exact hK _ _ h
end
theorem guard_dig : Try.prog.eqGuardType Try.prog.depth 25 = false := by kernel_rfl
/-- two digests are compared, and the outcome is known -/
theorem quiet_cmp {op : Oper} {a : Act} {C : World → Prop} {K : Act → Prop} {bop : BinOp} {tr : TypeId} (x y : Operand) (ho : op.op = .binOp bop 25 x y tr) (xs ys : Array Value) (v : Value) (hx : a.eval x = .agg xs) (hy : a.eval y = .agg ys)
    (hr : ∀ W : World, (binOp bop 25 (.agg xs) (.agg ys)).run Try.prog W = .ok v W) (h : K (a.put op.dst v)) : op.quiet Try.prog a C K :=
  ⟨v, fun w' _ => by
    unfold Oper.quietAt execOp
    simp only [ho, hx, hy, Sem.run_bind, Sem.run_pure, Result.andThen_ok, run_eqGuard_agg w' bop 25 x y xs ys guard_dig, hr w']
    simp [Oper.quietUpon], h⟩
theorem enter_run {P : Program} {f : FuncId} {fn : Func} {c : Code} (hf : P.funcs[f]? = some fn) (hname : (fn.name == "runtime.NumGoroutine") = false) (hb : fn.body = some c) (args : Array Value) (w : World) :
    (callFunc f args).run P w = .ok (.enter f args) w := by
  have h1 : fn.name ≠ "runtime.NumGoroutine" := by simpa using hname
  simp [callFunc, hf, h1, hb]
section
variable {P : Program} {ops : Array Oper} {rest : List Oper} {op : Oper} {a : Act} {w : World} {Q : Exit → Act → World → Prop}
theorem wpList_load_slice_blk (hgd : op.guard = none) (ty : TypeId) (x : Operand) (ho : op.op = .load ty x) (b : Nat) (hx : a.eval x = .pointer (some ⟨b, 0, none⟩)) (sa : Option Addr) (n c : Nat) (T : TypeId) (hk : Blk w b #[.slice sa n c] T)
    {e : TypeId} (hu : P.underlying ty = some (.slice e)) (h : wpList P ops Q rest (a.put op.dst (.slice sa n c)) w) : wpList P ops Q (op :: rest) a w :=
  wpList_plain hgd fun K hK => by
    have hc : w.cell? ⟨b, 0, none⟩ = some (.slice sa n c) := by rw [hk.cell]; rfl
    unfold Oper.wp execOp
    simp only [ho, hx, Instr.loadAt, Instr.sureAddr, Sem.run_bind, Sem.run_pure, Result.andThen_ok, run_load_one w hc _ hu rfl, Oper.upon_value]
    exact hK _ _ h
end
/-- A row of digests, wherever it lies. -/
def RowV (n : Nat) (ds : List (List Int)) (v : Value) (w : World) : Prop := ∃ a cap, v = .slice a n cap ∧ DigsAt w a n cap ds
theorem RowV.below {n : Nat} {ds : List (List Int)} {v : Value} {w w' : World} (h : RowV n ds v w) (hb : Below w.heap.size w w') : RowV n ds v w' := by
  obtain ⟨a, c, h1, h2⟩ := h
  exact ⟨a, c, h1, h2.below hb⟩
theorem RowV.of_own {w : World} {base n : Nat} {e : TypeId} {v : Value} {ds : List (List Int)} (h : OwnD w base e v ds) (hn : ds.length = n) : RowV n ds v w := by
  subst hn
  obtain ⟨a, c, h1, h2, _⟩ := h.digs
  exact ⟨a, c, h1, h2⟩
theorem RowV.of_blk {w : World} {g : Nat} {T : TypeId} {ds : List (List Int)} (h : Blk w g (dcs ds) T) (hd : ∀ d ∈ ds, Dg d) (n : Nat) (hn : ds.length = n) (hm : n ≤ 9223372036854775807) : RowV n ds (.slice (some ⟨g, 0, none⟩) n n) w := by
  subst hn
  exact ⟨_, _, rfl, DigsAt.of_blk h hd rfl (Nat.le_refl _) hm⟩
theorem RowV.digs {w : World} {a : Option Addr} {n c m : Nat} {ds : List (List Int)} (h : RowV m ds (.slice a n c) w) : n = m ∧ DigsAt w a n c ds := by
  obtain ⟨a', c', h1, h2⟩ := h
  injection h1 with h3 h4 h5
  subst h3 h4 h5
  exact ⟨rfl, h2⟩
set_option maxHeartbeats 4000000 in
set_option maxRecDepth 100000 in
theorem same_any (a1 a2 : Option Addr) (n c1 c2 : Nat) (ds : List (List Int)) (w : World) (h1 : DigsAt w a1 n c1 ds) (h2 : DigsAt w a2 n c2 ds) :
    Calls Try.prog 26 #[.slice a1 n c1, .slice a2 n c2] w fun e w' => e = .returned (.bool true) ∧ Below w.heap.size w w' := by
  have HN1 := hid h1
  have HN2 := hid h2
  have hle1 := h1.le
  have hmx1 := h1.max
  have hle2 := h2.le
  have hmx2 := h2.max
  clear h1 h2
  go_enter Try.func26, Try.ntmps26
  go_wp2_with fail
  go_loopw [5] (fun iv wr => ∃ k : Nat, k ≤ n ∧ iv = .int .i64 k ∧ Below w.heap.size w wr) (fun iv _ => n - (intOf iv).toNat)
  case atStart => exact ⟨0, Nat.zero_le _, rfl, Below.refl _ _⟩
  case round =>
    obtain ⟨k, hk, rfl, bel⟩ := hrel
    have HB := hid bel
    clear bel
    by_cases hlt : k < n
    · have hc0 : (k : Int) < n := by omega
      have HX := hid (HN1.out.get (j := k) hlt)
      obtain ⟨xs, xo, rfl, hxs, hcell⟩ := (HN1.out.below HB.out).at_ (by omega)
      obtain ⟨ys, yo, rfl, hys, hcell2⟩ := (HN2.out.below HB.out).at_ (by omega)
      have Hc := hid (hcell k hlt)
      have Hd := hid (hcell2 k hlt)
      clear hcell hcell2
      generalize ds.getD k [] = X at *
      have q1 := fun W => neD_self X HX.out.len W
      go_wp2_with fail
      refine wp_region_flow 9 (List.range 9) [] [] (by kernel_rfl) (by kernel_rfl) ?_
      apply Exists.intro
      refine ⟨fun w0 hb0 hF0 => ?_, ?_⟩
      · skip
        have x0 : ∀ w', (∃ x : Ext w0, w' = x.at_) → w'.rangeAt xs (xo + k * 32) (X.map (Value.int .u8)) := fun w' ⟨x, hx⟩ => hx ▸ rangeAt_below (rangeAt_below Hc.out hxs hb0) (Nat.lt_of_lt_of_le hxs hb0.size) x.same
        have x1 : ∀ w', (∃ x : Ext w0, w' = x.at_) → w'.rangeAt ys (yo + k * 32) (X.map (Value.int .u8)) := fun w' ⟨x, hx⟩ => hx ▸ rangeAt_below (rangeAt_below Hd.out hys hb0) (Nat.lt_of_lt_of_le hys hb0.size) x.same
        simp only [pick, List.range, List.range.loop, List.getElem?_toArray, List.getElem?_cons_succ, List.getElem?_cons_zero, Option.toList_some, List.cons_append, List.nil_append]
        repeat (first | (go_big_quiet_want; refine quiet_index_digs 44 _ _ rfl Try.underlying44 size_digest xs xo n c1 rfl _ _ rfl k (by omega) (by omega) ?_; go_big_quiet_on; simp only [Act.put, List.setIfInBounds_toArray, List.set_cons_zero, List.set_cons_succ]) | (go_big_quiet_want; refine quiet_index_digs 44 _ _ rfl Try.underlying44 size_digest ys yo n c2 rfl _ _ rfl k (by omega) (by omega) ?_; go_big_quiet_on; simp only [Act.put, List.setIfInBounds_toArray, List.set_cons_zero, List.set_cons_succ]) | (go_big_quiet_want; refine quiet_load_mid 25 _ rfl xs (xo + k * 32) rfl _ x0 _ Try.underlying25 rfl (by rw [List.length_map, HX.out.len]; exact size_digest) ?_; go_big_quiet_on; simp only [Act.put, List.setIfInBounds_toArray, List.set_cons_zero, List.set_cons_succ]) | (go_big_quiet_want; refine quiet_load_mid 25 _ rfl ys (yo + k * 32) rfl _ x1 _ Try.underlying25 rfl (by rw [List.length_map, HX.out.len]; exact size_digest) ?_; go_big_quiet_on; simp only [Act.put, List.setIfInBounds_toArray, List.set_cons_zero, List.set_cons_succ]) | (go_big_quiet_want; refine quiet_cmp _ _ rfl _ _ _ rfl rfl q1 ?_; go_big_quiet_on; simp only [Act.put, List.setIfInBounds_toArray, List.set_cons_zero, List.set_cons_succ]) | go_big_quiet_step (fail))
        exact wpQuiet_nil rfl
      refine AlChk.nil ?_
      refine Walk.fin fun w5 h5 _ _ => ?_
      simp only [List.drop_succ_cons, List.drop_zero]
      have HB5 := hid (Below.on HB.out h5)
      clear h5
      go_wp2_with fail
      exact ⟨⟨k + 1, by omega, by go_num, HB5.out⟩, by simp [intOf]; omega⟩
    · have hkn : k = n := by omega
      subst hkn
      go_wp2_with fail
      go_returns
      exact ⟨rfl, HB.out⟩
section
variable {P : Program} {ops : Array Oper} {rest : List Oper} {op : Oper} {a : Act} {w : World} {Q : Exit → Act → World → Prop} {t e : TypeId}

theorem quiet_of {C : World → Prop} {K : Act → Prop} (v : Value) (h : ∀ w', C w' → (execOp a.eval op).run P w' = .ok (.value v) w') (hk : K (a.put op.dst v)) : op.quiet P a C K :=
  ⟨v, fun w' hw' => by unfold Oper.quietAt; rw [h w' hw']; simp [Oper.quietUpon], hk⟩
end
theorem fill_part (place : Nat → Option (Nat × Nat)) (cells : Array Value) (i off : Nat) (v : Value) (rest : List (Nat × Value)) (hp : place i = some (off, v.cells.size)) (hs : off + v.cells.size ≤ cells.size) :
    Instr.fill place cells ((i, v) :: rest) = Instr.fill place (splice cells.toList off v.cells.toList).toArray rest := by
  rw [Instr.fill]
  simp only [hp]
  rw [if_neg (by simp only [ne_eq, not_true_eq_false, decide_false, Bool.false_or, decide_eq_true_eq]; omega)]
  congr 1
  have hf := fold_set v.cells.toList 0 off cells (by simpa using hs)
  apply Array.ext'
  rw [Nat.add_zero] at hf
  rw [← hf]
  have : v.cells.zipIdx = ((v.cells.toList.zipIdx 0)).toArray := by
    apply Array.ext'
    simp
  rw [this, List.foldl_toArray']
  all_goals first | rfl | simp
theorem quiet_field {P : Program} {op : Oper} {a : Act} {C : World → Prop} {K : Act → Prop} (ty : TypeId) (x : Operand) (f : Nat) (ho : op.op = .field ty x f) (v0 : Value) (hx : a.eval x = v0) (v : Value) (h : ∀ w', (Instr.field ty v0 f).run P w' = .ok v w') (hk : K (a.put op.dst v)) : op.quiet P a C K :=
  quiet_of v (fun w' _ => by
    unfold execOp
    simp only [ho, hx, Sem.run_bind, h, Result.andThen_ok, Sem.run_pure]) hk
theorem infoLD : (Try.prog.info? 44).map (fun i => (i.zero, i.size, i.bytes)) = some (some (.slice none 0 0), 1, 24) := by kernel_rfl
end Go.Proofs.Ytkakoiaahgchmaa
