/-
  Layer 20: the texts, as the reference makes them.
-/
import Derived.Test.YtkakoiaahgchmaaGWire2
import Derived.Test.YtkakoiaahgchmaaGNFlowB
import Derived.Laws.CopyOwn
namespace Go.Proofs.Ytkakoiaahgchmaa
open Go.ChangeShapes Go.WideShapes Go.ChangeAt Go.RowKit

section
variable {P : Program} {ops : Array Oper} {rest : List Oper} {op : Oper} {a : Act} {w : World} {Q : Exit → Act → World → Prop} {t e : TypeId}
/-- An element's address, of elements of s cells. -/
theorem run_indexAt_s (s : Nat) (ht : P.underlying t = some (.slice e)) (hs : (P.info? e).map (·.size) = some s) (b o len cap : Nat) (k : IntKind) (i : Int) (j : Nat) (hi : i = j) (hj : j < len) (w : World) :
    (Instr.indexAt t (.slice (some ⟨b, o, none⟩) len cap) (.int k i)).run P w = .ok (.pointer (some ⟨b, o + j * s, none⟩)) w := by
  subst hi
  obtain ⟨i0, hi0, h32⟩ := Option.map_eq_some_iff.1 hs
  have hlt : (0 : Int) ≤ j ∧ (j : Int) < len := by omega
  unfold Instr.indexAt
  simp [asIntOf, Sem.run_bind, run_underlying ht, hlt, sizeOf, typeInfo, hi0, h32, hj, Addr.add_mid]
theorem wpList_index_s (s : Nat) (hw : Region.wanted op (yielded ops a.tmps) = true) (ty : TypeId) (x ix : Operand) (ho : op.op = .indexAddr ty x ix) (ht : P.underlying ty = some (.slice e)) (hs : (P.info? e).map (·.size) = some s) (b o len cap : Nat) (hx : a.eval x = .slice (some ⟨b, o, none⟩) len cap)
    (k : IntKind) (i : Int) (hix : a.eval ix = .int k i) (j : Nat) (hi : i = j) (hj : j < len) (h : wpList P ops Q rest (a.put op.dst (.pointer (some ⟨b, o + j * s, none⟩))) w) : wpList P ops Q (op :: rest) a w := by
  unfold wpList
  rw [if_pos hw]
  refine .inl ?_
  unfold Oper.wp execOp
  simp only [ho, hx, hix, Sem.run_bind, Sem.run_pure, Result.andThen_ok, run_indexAt_s s ht hs b o len cap k i j hi hj, Oper.upon_value]
  exact h
theorem quiet_index_s (s : Nat) {C : World → Prop} {K : Act → Prop} (ty : TypeId) (x ix : Operand) (ho : op.op = .indexAddr ty x ix) (ht : P.underlying ty = some (.slice e)) (hs : (P.info? e).map (·.size) = some s) (b o len cap : Nat) (hx : a.eval x = .slice (some ⟨b, o, none⟩) len cap)
    (k : IntKind) (i : Int) (hix : a.eval ix = .int k i) (j : Nat) (hi : i = j) (hj : j < len) (h : K (a.put op.dst (.pointer (some ⟨b, o + j * s, none⟩)))) : op.quiet P a C K :=
  ⟨.pointer (some ⟨b, o + j * s, none⟩), fun w' hw' => by
    unfold Oper.quietAt execOp
    simp only [ho, hx, hix, Sem.run_bind, Sem.run_pure, Result.andThen_ok, run_indexAt_s s ht hs b o len cap k i j hi hj]
    simp [Oper.quietUpon], h⟩
end
set_option maxRecDepth 100000 in
/-- what an append may write to: the row, if it is a text of the call's own -/
theorem OwnB.typed {w w' : World} {B base : Nat} {e : TypeId} {v : Value} {bs : List Int} (h : OwnB w base e v bs) (hB : B ≤ base) (hg : w.grownBy w' v.ownBlock) : FlowB.Typed B e w w' :=
  FlowB.Typed.of_grown hg fun q hq => by
    refine ⟨Nat.le_trans hB (h.lt q hq).1, ?_⟩
    obtain ⟨⟨_, ⟨h, _⟩ | ⟨g, cap, cur, he, _, hh, _⟩⟩, _⟩ := h
    · rw [h] at hq; cases hq
    · rw [he] at hq
      simp only [Value.ownBlock, Option.some.injEq] at hq
      subst hq
      exact ⟨_, _, hh⟩
set_option maxRecDepth 100000 in
/-- a row of 32 numbers each, laid flat -/
theorem flat_length {ds : List (List Int)} (h : ∀ d ∈ ds, d.length = 32) : ds.flatten.length = ds.length * 32 := by
  induction ds with
  | nil => rfl
  | cons d ds ih =>
    rw [List.flatten_cons, List.length_append, ih fun x hx => h x (List.mem_cons_of_mem _ hx), h d (List.mem_cons_self ..), List.length_cons]
    omega
set_option maxRecDepth 100000 in
theorem flat_at {ds : List (List Int)} (h : ∀ d ∈ ds, d.length = 32) : ∀ (j k : Nat), j < ds.length → k < 32 → ds.flatten[j * 32 + k]? = (ds.getD j [])[k]? := by
  induction ds with
  | nil => intro j k hj; simp at hj
  | cons d ds ih =>
    intro j k hj hk
    have hd := h d (List.mem_cons_self ..)
    rw [List.flatten_cons]
    cases j with
    | zero =>
      rw [List.getElem?_append_left (by omega)]
      simp
    | succ j =>
      rw [List.getElem?_append_right (by omega), hd, show (j + 1) * 32 + k - 32 = j * 32 + k by omega, ih (fun x hx => h x (List.mem_cons_of_mem _ hx)) j k (by simpa using hj) hk]
      simp
set_option maxRecDepth 100000 in
theorem flat_set {ds : List (List Int)} (h : ∀ d ∈ ds, d.length = 32) (x : List Int) (hx : x.length = 32) : ∀ (j : Nat), j < ds.length → splice ds.flatten (j * 32) x = (ds.set j x).flatten := by
  induction ds with
  | nil => intro j hj; simp at hj
  | cons d ds ih =>
    intro j hj
    have hd := h d (List.mem_cons_self ..)
    cases j with
    | zero =>
      unfold splice
      simp [hx, hd]
    | succ j =>
      have := ih (fun x hx => h x (List.mem_cons_of_mem _ hx)) j (by simpa using hj)
      unfold splice at this ⊢
      rw [List.set_cons_succ, List.flatten_cons, List.flatten_cons, ← this]
      rw [List.take_append, List.drop_append, hd, List.take_of_length_le (by omega), show (j + 1) * 32 - 32 = j * 32 by omega, List.drop_eq_nil_of_le (by omega), List.nil_append, show (j + 1) * 32 + x.length - 32 = j * 32 + x.length by omega, List.append_assoc]
/-- the cells of a row of digests -/
def dcs (ds : List (List Int)) : Array Value := (ds.flatten.map (Value.int .u8)).toArray
set_option maxRecDepth 100000 in
theorem dcs_size {ds : List (List Int)} (h : ∀ d ∈ ds, d.length = 32) : (dcs ds).size = ds.length * 32 := by
  unfold dcs
  rw [List.size_toArray, List.length_map, flat_length h]
set_option maxRecDepth 100000 in
theorem dcs_get (ds : List (List Int)) (j : Nat) : (dcs ds)[j]? = (ds.flatten[j]?).map (Value.int .u8) := by
  unfold dcs
  rw [List.getElem?_toArray, List.getElem?_map]
set_option maxRecDepth 100000 in
theorem Dg.lens {ds : List (List Int)} (h : ∀ d ∈ ds, Dg d) : ∀ d ∈ ds, d.length = 32 := fun d hd => (h d hd).len
set_option maxRecDepth 100000 in
theorem Dg.getD {ds : List (List Int)} (h : ∀ d ∈ ds, Dg d) {j : Nat} (hj : j < ds.length) : Dg (ds.getD j []) := by
  rw [List.getD_eq_getElem?_getD, List.getElem?_eq_getElem hj]
  exact h _ (List.getElem_mem hj)
set_option maxRecDepth 100000 in
/-- A block of digests, laid flat. -/
theorem Blk.digs {w : World} {g : Nat} {ds : List (List Int)} {T : TypeId} (h : Blk w g (dcs ds) T) (hd : ∀ d ∈ ds, Dg d) : ∀ j, j < ds.length → w.rangeAt g (j * 32) ((ds.getD j []).map (Value.int .u8)) := fun j hj k v hv => by
  have hk : k < 32 := by
    have := (List.getElem?_eq_some_iff.1 hv).1
    simp only [List.length_map, (Dg.getD hd hj).len] at this
    exact this
  rw [h.cell, dcs_get, flat_at (Dg.lens hd) j k hj hk]
  rw [List.getElem?_map] at hv
  exact hv
theorem FlowB.Typed.blk {B b : Nat} {T U : TypeId} {w w' : World} {cs : Array Value} (h : FlowB.Typed B T w w') (k : Blk w b cs U) (hne : U ≠ T) : Blk w' b cs U := by
  have hlt := k.lt
  unfold Blk at k ⊢
  rw [h.block b hlt (.inr fun cs' fr' e => by
    rw [k] at e
    injection e with e
    injection e with _ e _
    exact hne e)]
  exact k
theorem FlowB.Typed.trans {B : Nat} {T : TypeId} {a b c : World} (h : FlowB.Typed B T a b) (k : FlowB.Typed B T b c) : FlowB.Typed B T a c := (FlowB.rel_typed B T).trans h k
theorem FlowB.Typed.of_below {B : Nat} {T : TypeId} {a b : World} (h : Below a.heap.size a b) : FlowB.Typed B T a b := (FlowB.rel_typed B T).of h
def eightZ (ns : List Int) : List Int := (ns.map fun x => be 8 (uZ x)).flatten
theorem eightZ_length (ns : List Int) : (eightZ ns).length = ns.length * 8 := by
  unfold eightZ
  induction ns with
  | nil => rfl
  | cons x ns ih => rw [List.map_cons, List.flatten_cons, List.length_append, ih, be_length, List.length_cons]; omega
theorem eightZ_take (ns : List Int) (k : Nat) (h : k < ns.length) : eightZ (ns.take (k + 1)) = eightZ (ns.take k) ++ be 8 (uZ (ns.getD k 0)) := by
  unfold eightZ
  rw [List.take_succ_eq_append_getElem h, List.map_append, List.flatten_append, show ns.getD k 0 = ns[k] by simp [h]]
  simp
theorem digs_take (ds : List (List Int)) (k : Nat) (h : k < ds.length) : (ds.take (k + 1)).flatten = (ds.take k).flatten ++ ds.getD k [] := flatten_take ds k h
theorem Blk.dig_text {w : World} {g : Nat} {ds : List (List Int)} {T : TypeId} (h : Blk w g (dcs ds) T) (hd : ∀ d ∈ ds, Dg d) {j : Nat} (hj : j < ds.length) : TextAt w (some ⟨g, j * 32, none⟩) 32 32 (ds.getD j []) := by
  have hx := Dg.getD hd hj
  refine TextAt.of_blk h hx.len (Nat.le_refl _) (by omega) hx.small (fun k hk => ?_)
  have hg : (ds.getD j [])[k]? = some ((ds.getD j []).getD k 0) := by
    rw [List.getD_eq_getElem?_getD (l := ds.getD j []), List.getElem?_eq_getElem (by rw [hx.len]; exact hk)]
    rfl
  have := h.digs hd j hj k (.int .u8 ((ds.getD j []).getD k 0)) (by rw [List.getElem?_map, hg]; rfl)
  rw [← h.cell]
  exact this

set_option maxHeartbeats 4000000 in
set_option maxRecDepth 100000 in
theorem eight_any (B : Nat) (v : Value) (bs : List Int) (g n : Nat) (ns : List Int) (w : World) (hv : OwnB w B 5 v bs) (hB : B ≤ w.heap.size) (hl : Blk w g (ns.map (Value.int .i64)).toArray 3) (hn : ns.length = n) (hn9 : n ≤ 9) (hns : ∀ x ∈ ns, -9223372036854775808 ≤ x ∧ x < 9223372036854775808) (hb : bs.length ≤ 1000) :
    Calls Try.prog 25 #[v, .slice (some ⟨g, 0, none⟩) n n] w fun e w' => ∃ v', e = .returned v' ∧ FlowB.Typed B 5 w w' ∧ OwnB w' B 5 v' (bs ++ eightZ ns) := by
  obtain ⟨i0, hi, hz0, hz1, hz2⟩ := info_parts info_byte
  have HO0 := hid hv
  have HL := hid hl
  have HT0 := hid (FlowB.Typed.of_below (B := B) (T := 5) (Below.refl w.heap.size w))
  clear hv hl
  go_enter Try.func25, Try.ntmps25
  go_wp2_with fail
  go_loopw [0, 5] (fun bv iv wr => ∃ k : Nat, k ≤ n ∧ iv = .int .i64 k ∧ OwnB wr B 5 bv (bs ++ eightZ (ns.take k)) ∧ FlowB.Typed B 5 w wr ∧ B ≤ wr.heap.size) (fun _ iv _ => n - (intOf iv).toNat)
  case atStart => exact ⟨0, Nat.zero_le _, rfl, by simpa [eightZ] using HO0.out, HT0.out, hB⟩
  case round =>
    obtain ⟨k, hk, rfl, ho, ht, hsz⟩ := hrel
    have HO := hid ho
    have HTy := hid ht
    clear ho ht
    by_cases hlt : k < n
    · have hc0 : (k : Int) < n := by omega
      have hkl : k < ns.length := by omega
      have hxr := hns (ns.getD k 0) (by rw [List.getD_eq_getElem?_getD, List.getElem?_eq_getElem hkl]; exact List.getElem_mem hkl)
      have hcell : wr.cell? ⟨g, k, none⟩ = some (.int .i64 (ns.getD k 0)) := by
        rw [(HTy.out.blk HL.out (by decide)).cell, List.getElem?_toArray, List.getElem?_map, List.getElem?_eq_getElem hkl]
        simp [List.getD_eq_getElem?_getD, List.getElem?_eq_getElem hkl]
      have HF := hid (eightZ_take ns k hkl)
      have HLn := hid (eightZ_length (ns.take k))
      have Hkm := hid (show (ns.take k).length = k from by rw [List.length_take]; omega)
      generalize ns.getD k 0 = x at *
      have hu := uZ_in x
      have hu2 : x % 18446744073709551616 = uZ x := rfl
      have CN := hid (fun W : World => refnumber_own (uZ x) 8 8 W hu.1 hu.2 rfl (by omega))
      have hcell0 : wr.cell? ⟨g, 0 + k, none⟩ = some (.int .i64 x) := by rw [Nat.zero_add]; exact hcell
      go_wp2_with fail
      refine (CN.out _).mono ?_
      rintro e w1 ⟨v2, rfl, b1, o2⟩
      obtain ⟨ta, tc, rfl, hT2, _⟩ := o2.text
      rw [be_length] at hT2 ⊢
      have HT2 := hid hT2
      have HO1 := hid (HO.out.below b1)
      have HTy1 := hid (HTy.out.trans (FlowB.Typed.of_below b1))
      have hsz1 : B ≤ w1.heap.size := Nat.le_trans hsz b1.size
      clear b1 o2 hT2
      go_wp2_with (at_builtin; refine wpList_append_text rfl _ _ rfl Try.underlying31 hi hz0 hz1 hz2 rfl HO1.out rfl HT2.out (by rw [List.length_append, HLn.out, Hkm.out]; omega) hsz1 ?_)
      intro v4 w4 own4 g4 b4
      rw [← HF.out] at own4
      have H4 := hid own4
      have H5 := hid (HTy1.out.trans (HO1.out.typed (Nat.le_refl _) g4))
      have hsz4 := Nat.le_trans hsz1 b4.size
      clear own4 g4 b4
      go_wp2_with fail
      exact ⟨⟨k + 1, by omega, by go_num, H4.out, H5.out, hsz4⟩, by simp [intOf]; omega⟩
    · have hkn : k = n := by omega
      have hft : ns.take k = ns := List.take_of_length_le (by omega)
      rw [hft] at HO
      have hc0 : ¬ (k : Int) < n := by omega
      go_wp2_with fail
      go_returns
      exact ⟨_, rfl, HTy.out, HO.out⟩

set_option maxHeartbeats 4000000 in
set_option maxRecDepth 100000 in
theorem all_any (B : Nat) (v : Value) (bs : List Int) (g n : Nat) (ds : List (List Int)) (w : World) (hv : OwnB w B 5 v bs) (hB : B ≤ w.heap.size) (hl : Blk w g (dcs ds) 25) (hd : ∀ d ∈ ds, Dg d) (hn : ds.length = n) (hn9 : n ≤ 1000000) (hb : bs.length ≤ 1000000000) :
    Calls Try.prog 24 #[v, .slice (some ⟨g, 0, none⟩) n n] w fun e w' => ∃ v', e = .returned v' ∧ FlowB.Typed B 5 w w' ∧ OwnB w' B 5 v' (bs ++ ds.flatten) := by
  obtain ⟨i0, hi, hz0, hz1, hz2⟩ := info_parts info_byte
  have HO0 := hid hv
  have HL := hid hl
  have HT0 := hid (FlowB.Typed.of_below (B := B) (T := 5) (Below.refl w.heap.size w))
  clear hv hl
  go_enter Try.func24, Try.ntmps24
  go_wp2_with fail
  go_loopw [0, 5] (fun bv iv wr => ∃ k : Nat, k ≤ n ∧ iv = .int .i64 k ∧ OwnB wr B 5 bv (bs ++ (ds.take k).flatten) ∧ FlowB.Typed B 5 w wr ∧ B ≤ wr.heap.size) (fun _ iv _ => n - (intOf iv).toNat)
  case atStart => exact ⟨0, Nat.zero_le _, rfl, by simpa using HO0.out, HT0.out, hB⟩
  case round =>
    obtain ⟨k, hk, rfl, ho, ht, hsz⟩ := hrel
    have HO := hid ho
    have HTy := hid ht
    clear ho ht
    by_cases hlt : k < n
    · have hc0 : (k : Int) < n := by omega
      have hkl : k < ds.length := by omega
      have HT2 := hid ((HTy.out.blk HL.out (by decide)).dig_text hd hkl)
      have HF := hid (digs_take ds k hkl)
      have HLn := hid (flat_length (ds := ds.take k) (fun d h => (hd d (List.mem_of_mem_take h)).len))
      have Hkm := hid (show (ds.take k).length = k from by rw [List.length_take]; omega)
      generalize ds.getD k [] = x at *
      go_wp2_with (first
        | (refine wpList_index_s 32 (by first | rfl | go_simp) 44 _ _ rfl Try.underlying44 size_digest g 0 n n rfl _ _ rfl k (by omega) (by omega) ?_)
        | (at_builtin; refine wpList_append_text rfl _ _ rfl Try.underlying31 hi hz0 hz1 hz2 rfl HO.out rfl HT2.out (by rw [List.length_append, HLn.out, Hkm.out]; omega) hsz ?_))
      intro v4 w4 own4 g4 b4
      rw [← HF.out] at own4
      have H4 := hid own4
      have H5 := hid (HTy.out.trans (HO.out.typed (Nat.le_refl _) g4))
      have hsz4 := Nat.le_trans hsz b4.size
      clear own4 g4 b4
      go_wp2_with fail
      exact ⟨⟨k + 1, by omega, by go_num, H4.out, H5.out, hsz4⟩, by simp [intOf]; omega⟩
    · have hkn : k = n := by omega
      have hft : ds.take k = ds := List.take_of_length_le (by omega)
      rw [hft] at HO
      have hc0 : ¬ (k : Int) < n := by omega
      go_wp2_with fail
      go_returns
      exact ⟨_, rfl, HTy.out, HO.out⟩
theorem info_dig : (Try.prog.info? 25).map (fun i => (i.zero, i.size, i.bytes)) = some (some (.agg (zD.map (Value.int .u8)).toArray), 32, 32) := by kernel_rfl
theorem zD_cells32 : (Value.agg (zD.map (Value.int .u8)).toArray).cells.size = 32 := by
  show (zD.map (Value.int .u8)).toArray.size = 32
  rw [List.size_toArray, List.length_map, Dg.zero.len]
theorem zRow (n : Nat) : ∀ d ∈ List.replicate n zD, Dg d := fun d hd => by
  rw [List.eq_of_mem_replicate hd]; exact Dg.zero
theorem zD_rows (n : Nat) : madeCells (Value.agg (zD.map (Value.int .u8)).toArray).cells (n * 32) = (dcs (List.replicate n zD)) := by
  unfold dcs
  apply Array.ext'
  have hz : (List.replicate n zD).flatten = List.replicate (n * 32) 0 := by
    unfold zD
    rw [List.flatten_replicate_replicate]
  rw [hz]
  apply List.ext_getElem?
  intro j
  simp only [madeCells, Array.toList_map, Array.toList_range, List.map_replicate, List.getElem?_map, List.getElem?_replicate]
  rcases Nat.lt_or_ge j (n * 32) with hj | hj
  · rw [List.getElem?_range hj, if_pos hj]
    have hm : j % 32 < 32 := Nat.mod_lt _ (by omega)
    have hsz : (zD.map (Value.int .u8)).toArray.size = 32 := by rw [List.size_toArray, List.length_map, Dg.zero.len]
    have hc : (zD.map (Value.int .u8)).toArray[j % 32]! = Value.int .u8 0 := by
      rw [getElem!_pos _ _ (by rw [hsz]; exact hm)]
      simp only [zD, List.map_replicate, List.getElem_toArray, List.getElem_replicate]
    show some ((zD.map (Value.int .u8)).toArray[j % (zD.map (Value.int .u8)).toArray.size]!) = _
    rw [hsz, hc]
  · rw [List.getElem?_eq_none (by simpa using hj), if_neg (by omega)]
    rfl
theorem fold_set : ∀ (vs : List Value) (k off : Nat) (acc : Array Value), off + k + vs.length ≤ acc.size → ((vs.zipIdx k).foldl (fun cs (x : Value × Nat) => cs.setIfInBounds (off + x.2) x.1) acc).toList = splice acc.toList (off + k) vs
  | [], k, off, acc, h => by simp [splice]
  | v :: vs, k, off, acc, h => by
    simp only [List.length_cons] at h
    rw [List.zipIdx_cons, List.foldl_cons, fold_set vs (k + 1) off _ (by rw [Array.size_setIfInBounds]; omega)]
    unfold splice
    rw [Array.toList_setIfInBounds, show off + (k + 1) = (off + k) + 1 by omega, List.drop_set_of_lt (by omega), List.length_cons, show off + k + 1 + vs.length = off + k + (vs.length + 1) by omega]
    rw [List.take_succ_eq_append_getElem (by rw [List.length_set, Array.length_toList]; omega), List.take_set_of_le (Nat.le_refl _), List.getElem_set_self]
    simp
theorem fill_dig (cells : Array Value) (ds : List (List Int)) (hc : cells = dcs ds) (hds : ∀ d ∈ ds, Dg d) (x : List Int) (hx : Dg x) (j : Nat) (hj : j < ds.length) (rest : List (Nat × Value)) :
    Instr.fill (fun i => some (i * 32, 32)) cells ((j, .agg (x.map (Value.int .u8)).toArray) :: rest) = Instr.fill (fun i => some (i * 32, 32)) (dcs (ds.set j x)) rest := by
  subst hc
  have hs := dcs_size (Dg.lens hds)
  have hv : (Value.agg (x.map (Value.int .u8)).toArray).cells = (x.map (Value.int .u8)).toArray := rfl
  have hf := fold_set (x.map (Value.int .u8)) 0 (j * 32) (dcs ds) (by rw [List.length_map, hx.len, hs]; omega)
  have he : (((x.map (Value.int .u8)).zipIdx 0).foldl (fun cs (y : Value × Nat) => cs.setIfInBounds (j * 32 + y.2) y.1) (dcs ds)) = dcs (ds.set j x) := by
    apply Array.ext'
    rw [hf, Nat.add_zero]
    unfold dcs
    rw [← flat_set (Dg.lens hds) x hx.len j hj]
    unfold splice
    simp only [List.length_map, List.map_append, List.map_take, List.map_drop]
  rw [Instr.fill]
  simp only [hv, hx.size]
  rw [if_neg (by simp only [ne_eq, not_true_eq_false, decide_false, Bool.false_or, decide_eq_true_eq, hs]; omega)]
  congr 1
  have : ((x.map (Value.int .u8)).toArray).zipIdx = (((x.map (Value.int .u8)).zipIdx 0)).toArray := by simp
  rw [this, List.foldl_toArray']
  · exact he
  · simp
set_option maxRecDepth 100000 in
/-- parts put in their places, one behind the other -/
theorem run_build_digs (n : Nat) (parts : List (Nat × Value)) (ds : List (List Int)) (hn : n ≤ 1000) (h0 : 0 < n) (h : Instr.fill (fun i => some (i * 32, 32)) (dcs (List.replicate n zD)) parts = some (dcs ds)) (w : World) :
    (Instr.buildSlice 44 n parts.toArray).run Try.prog w = .ok (.slice (some ⟨w.heap.size, 0, none⟩) n n) (w.alloc (.cells (dcs ds) 25 (0, 0))) := by
  obtain ⟨i, hi, _, hz1, _⟩ := info_parts info_dig
  have hm := zD_rows n
  unfold madeCells at hm
  unfold Instr.buildSlice
  have hne : ¬ (n * 32 = 0) := by omega
  have hle : ¬ (16777216 < n * 32) := by omega
  have hl : (zD.map (Value.int .u8)).toArray = #[Value.int .u8 0, Value.int .u8 0, Value.int .u8 0, Value.int .u8 0, Value.int .u8 0, Value.int .u8 0, Value.int .u8 0, Value.int .u8 0, Value.int .u8 0, Value.int .u8 0, Value.int .u8 0, Value.int .u8 0, Value.int .u8 0, Value.int .u8 0, Value.int .u8 0, Value.int .u8 0, Value.int .u8 0, Value.int .u8 0, Value.int .u8 0, Value.int .u8 0, Value.int .u8 0, Value.int .u8 0, Value.int .u8 0, Value.int .u8 0, Value.int .u8 0, Value.int .u8 0, Value.int .u8 0, Value.int .u8 0, Value.int .u8 0, Value.int .u8 0, Value.int .u8 0, Value.int .u8 0] := by kernel_rfl
  rw [hl] at hm
  simp [run_underlying Try.underlying44, sizeOf, typeInfo, hi, hz1, hne]
  rw [if_neg hle, hm, h]
  simp [newRow]
theorem dcs_one (x : List Int) : dcs [x] = (x.map (Value.int .u8)).toArray := by simp [dcs]
set_option maxRecDepth 100000 in
theorem run_build_one {x : List Int} (hx : Dg x) (w : World) : (Instr.buildSlice 44 1 #[(0, .agg (x.map (Value.int .u8)).toArray)]).run Try.prog w = .ok (.slice (some ⟨w.heap.size, 0, none⟩) 1 1) (w.alloc (.cells (x.map (Value.int .u8)).toArray 25 (0, 0))) := by
  have h := run_build_digs 1 [(0, .agg (x.map (Value.int .u8)).toArray)] [x] (by omega) (by omega) (by
    rw [fill_dig _ (List.replicate 1 zD) rfl (zRow 1) x hx 0 (by simp), show (List.replicate 1 zD).set 0 x = [x] from rfl, Instr.fill]) w
  rw [dcs_one] at h
  exact h
theorem Below.trans0 {B B' : Nat} {a b c : World} (k : Below B b c) (h : Below B' a b) (hB : B' ≤ B) : Below B' a c := h.trans (k.mono hB)
theorem run_build_one1 {x : List Int} (hx : Dg x) (w : World) : (Instr.buildSlice 44 1 #[(0, .agg (x.map (Value.int .u8)).toArray)]).run Try.prog w = .ok (.slice (some ⟨w.heap.size, 0, none⟩) 1 1) (w.alloc (.cells (dcs [x]) 25 (0, 0))) := by
  rw [dcs_one]; exact run_build_one hx w
set_option maxRecDepth 100000 in
theorem run_build_two {x y : List Int} (hx : Dg x) (hy : Dg y) (w : World) : (Instr.buildSlice 44 2 #[(0, .agg (x.map (Value.int .u8)).toArray), (1, .agg (y.map (Value.int .u8)).toArray)]).run Try.prog w = .ok (.slice (some ⟨w.heap.size, 0, none⟩) 2 2) (w.alloc (.cells (dcs [x, y]) 25 (0, 0))) :=
  run_build_digs 2 [(0, .agg (x.map (Value.int .u8)).toArray), (1, .agg (y.map (Value.int .u8)).toArray)] [x, y] (by omega) (by omega) (by
    have h1 : ∀ d ∈ [x, zD], Dg d := by simp [hx, Dg.zero]
    rw [fill_dig _ (List.replicate 2 zD) rfl (zRow 2) x hx 0 (by simp), show (List.replicate 2 zD).set 0 x = [x, zD] from rfl]
    rw [fill_dig _ [x, zD] rfl h1 y hy 1 (by simp), show [x, zD].set 1 y = [x, y] from rfl, Instr.fill]) w

theorem exec_run_build_one1 {o : Oper} {A : Act} {w : World} {e : Operand} (ho : o.op = .buildSlice 44 1 #[(0, e)]) {x : List Int} (he : A.eval e = .agg (x.map (Value.int .u8)).toArray) (hx : Dg x) :
    (execOp A.eval o).run Try.prog w = .ok (.value (.slice (some ⟨w.heap.size, 0, none⟩) 1 1)) (w.alloc (.cells (dcs [x]) 25 (0, 0))) := by
  unfold execOp
  simp only [ho, List.map_toArray, List.map_cons, List.map_nil, he, Sem.run_bind, run_build_one1 hx, Result.andThen_ok, Sem.run_pure]
theorem exec_run_build_two {o : Oper} {A : Act} {w : World} {e f : Operand} (ho : o.op = .buildSlice 44 2 #[(0, e), (1, f)]) {x y : List Int} (he : A.eval e = .agg (x.map (Value.int .u8)).toArray) (hf : A.eval f = .agg (y.map (Value.int .u8)).toArray) (hx : Dg x) (hy : Dg y) :
    (execOp A.eval o).run Try.prog w = .ok (.value (.slice (some ⟨w.heap.size, 0, none⟩) 2 2)) (w.alloc (.cells (dcs [x, y]) 25 (0, 0))) := by
  unfold execOp
  simp only [ho, List.map_toArray, List.map_cons, List.map_nil, he, hf, Sem.run_bind, run_build_two hx hy, Result.andThen_ok, Sem.run_pure]
end Go.Proofs.Ytkakoiaahgchmaa
