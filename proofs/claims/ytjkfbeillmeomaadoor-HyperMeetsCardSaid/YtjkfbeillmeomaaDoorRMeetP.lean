/-
  Layer 11: rows of parts: cut, copied, changed.
-/
import Derived.Test.YtjkfbeillmeomaaDoorRMeet
namespace Go.Proofs.YtjkfbeillmeomaaDoor
set_option maxRecDepth 100000
open Go.ChangeShapes Go.WideShapes Go.ChangeAt Go.RowKit
/-- where a part of a row of parts begins -/
def cutP (a : Option Addr) (l cap : Nat) : Option Addr := if cap = l then a else a.map (·.add (l * 2))
theorem PartsAt.tail {w : World} {x o len cap : Nat} {ps : List Prt} (h : PartsAt w (some ⟨x, o, none⟩) len cap ps) (h0 : 0 < len) : PartsAt w (cutP (some ⟨x, o, none⟩) 1 cap) (len - 1) (cap - 1) (ps.drop 1) := by
  obtain ⟨h1, h2, h3, h4⟩ := h
  refine ⟨by simp; omega, by omega, by omega, .inr ?_⟩
  rcases h4 with ⟨h4, _⟩ | ⟨x', o', s', he, hc⟩
  · cases h4
  · cases he
    unfold cutP
    split
    · exact ⟨x, o, none, rfl, fun j hj => by omega⟩
    · refine ⟨x, o + 1 * 2, none, by rw [Option.map_some, Addr.add_mid], fun j hj => ?_⟩
      obtain ⟨_, q1, u, v, q2, q3, q4, q5⟩ := hc (1 + j) (by omega)
      rw [show (ps.drop 1).getD j ([], []) = ps.getD (1 + j) ([], []) by simp [List.getD_eq_getElem?_getD, Nat.add_comm]]
      rw [show o + (1 + j) * 2 = o + 1 * 2 + j * 2 by omega] at q2 q3
      exact ⟨rfl, q1, u, v, q2, q3, q4, q5⟩
theorem run_cutp_l (a : Option Addr) (len cap : Nat) (l : Int) (w : World) (h0 : 0 ≤ l) (h1 : l ≤ len) :
    (Instr.slice 73 (.slice a len cap) (some (.int .i64 l)) none none).run Tryd.prog w = .ok (.slice (cutP a l.toNat cap) (len - l.toNat) (cap - l.toNat)) w := by
  have ht : Tryd.prog.underlying 73 = some (.slice 88) := Tryd.underlying73
  have he : Tryd.prog.elem 73 = 88 := by simp [Program.elem, ht]
  rw [run_slice_l (w := w) 73 a len cap (by rw [he]; exact ht) _ l h0 h1]
  obtain ⟨i, hi1, hi2⟩ := Option.map_eq_some_iff.1 size_part
  simp [sizeOf, typeInfo, he, hi1, hi2, sliced, cutP]
/-- The first part of a row. -/
theorem OwnP.first {w : World} {base : Nat} {v : Value} {ps : List Prt} (h : OwnP w base v ps) (h0 : 0 < ps.length) : ∃ g cap u0 u1, v = .slice (some ⟨g, 0, none⟩) ps.length cap ∧ base ≤ g ∧ g < w.heap.size ∧ ps.length ≤ cap ∧ cap ≤ 9223372036854775807 ∧ w.cell? ⟨g, 0, none⟩ = some u0 ∧ w.cell? ⟨g, 1, none⟩ = some u1 ∧ RowT base (ps.getD 0 ([], [])).1.length (ps.getD 0 ([], [])).1 u0 w ∧ RowT base (ps.getD 0 ([], [])).2.length (ps.getD 0 ([], [])).2 u1 w := by
  obtain ⟨cs, h1, ⟨h2, ⟨rfl, h3⟩ | ⟨g, cap, cur, rfl, hg, hh, hle, hmx, hsz, htk⟩⟩, h4⟩ := h
  · omega
  · obtain ⟨c, h5, h6, h7⟩ := h4 0 h0
    obtain ⟨e1, e2⟩ := flat2_at cs 0 c h5
    have hb : Blk w g cur 88 := hh
    have at_ : ∀ k u, k < ps.length * 2 → (cs.flatMap fun c => [c.1, c.2])[k]? = some u → w.cell? ⟨g, k, none⟩ = some u := fun k u hk hu => by
      rw [hb.cell]
      rw [← htk, List.getElem?_take_of_lt (by omega)] at hu
      simpa using hu
    exact ⟨g, cap, c.1, c.2, rfl, hg, hb.lt, hle, by unfold maxLen at hmx; omega, at_ 0 _ (by omega) e1, at_ 1 _ (by omega) e2, h6, h7⟩
/-- A row of parts stays where another row of parts grows. -/
theorem OwnP.stays {w w' : World} {base base2 : Nat} {x v : Value} {ps qs : List Prt} (h : OwnP w base x ps) (hv : OwnP w base2 v qs) (hg : w.grownBy w' v.ownBlock) (hne : x.ownBlock = none ∨ x.ownBlock ≠ v.ownBlock) : OwnP w' base x ps := by
  obtain ⟨cs, h1, h2, h3⟩ := h
  refine ⟨cs, h1, h2.kept hg hne, fun j hj => ?_⟩
  obtain ⟨c, h4, h5, h6⟩ := h3 j hj
  exact ⟨c, h4, h5.grown hv.kind hg, h6.grown hv.kind hg⟩
/-- All parts of a row are appended to a row without any. -/
theorem run_append_parts {w : World} {base : Nat} {t : TypeId} {i : TypeInfo} {v z : Value} {ps : List Prt} (ty : TypeId) (ht : Tryd.prog.underlying t = some (.slice 88)) (hi : Tryd.prog.info? 88 = some i) (hz : i.zero = some z) (hzs : z.cells.size = 2) (hsize : i.size = 2) (hby : i.bytes = 48) {base2 : Nat} (hle : base ≤ base2) (hown : OwnP w base2 v [])
    {g cap : Nat} (hx : OwnP w base (.slice (some ⟨g, 0, none⟩) ps.length cap) ps) (hb : ps.length ≤ 100) (hbase : base2 ≤ w.heap.size) :
    ∃ v' w', (Builtin.append_ #[t, t] ty #[v, .slice (some ⟨g, 0, none⟩) ps.length cap]).run Tryd.prog w = .ok v' w' ∧ OwnP w' base v' ps ∧ w.grownBy w' v.ownBlock ∧ Below base2 w w' ∧ ∀ k, v'.ownBlock = some k → base2 ≤ k := by
  have hbel : ∀ {w' : World}, w.grownBy w' v.ownBlock → Below base2 w w' := fun hg => ⟨hg.os, hg.tape, hg.output, hg.size, fun k hk => hg.block k (by omega) (fun e => by have := (hown.lt k e.symm).1; omega)⟩
  have hkind := hown.kind
  obtain ⟨cs0, e0, hrow, _⟩ := hown
  obtain rfl : cs0 = [] := List.eq_nil_of_length_eq_zero e0
  obtain ⟨cs, h0, hrx, hall⟩ := hx
  have one : ∀ {n ds u}, RowT base n ds u w → u.oneCell' = true := fun h => by
    obtain ⟨_, _, g, _, rfl, _⟩ := h
    rfl
  obtain ⟨v', w', h1, h2, h3, _⟩ := run_append_own (P := Tryd.prog) w base2 t ty _ i z 2 48 ht hi hz hsize hby hzs (by omega) v 0 _ hrow ⟨g, 0, none⟩ ps.length cap (cs.flatMap fun c => [c.1, c.2]) (by rw [flat2_length, h0]) (hrx.cells rfl) (fun u hu => by
    simp only [List.mem_flatMap, List.mem_cons, List.not_mem_nil, or_false] at hu
    obtain ⟨c, hc, hu⟩ := hu
    obtain ⟨j, hj, hjc⟩ := List.getElem_of_mem hc
    obtain ⟨c', h4, h5, h6⟩ := hall j (by omega)
    rw [List.getElem?_eq_getElem hj, hjc] at h4
    injection h4 with h4
    subst h4
    rcases hu with rfl | rfl
    · exact one h5
    · exact one h6) (by unfold maxLen; omega) (by omega) hbase
  rw [Nat.zero_add, List.flatMap_nil, List.nil_append] at h2
  refine ⟨v', w', h1, ⟨cs, h0, ?_, fun j hj => ?_⟩, h3, hbel h3, fun k hk => (h2.lt k hk).1⟩
  · obtain ⟨q1, q2⟩ := h2
    refine ⟨q1, q2.imp id ?_⟩
    rintro ⟨g, cap, cur, rfl, hg, hh⟩
    exact ⟨g, cap, cur, rfl, Nat.le_trans hle hg, hh⟩
  · obtain ⟨c, h4, h5, h6⟩ := hall j hj
    exact ⟨c, h4, h5.grown hkind h3, h6.grown hkind h3⟩
theorem wpList_append_parts {w : World} {base : Nat} {t : TypeId} {i : TypeInfo} {v z : Value} {ps : List Prt} {ops : Array Oper} {rest : List Oper} {o : Oper} {A : Act} {Q : Exit → Act → World → Prop} (hgd : o.guard = none) (s x : Operand) (ho : o.op = .call { callee := .builtin .append, args := #[s, x], argTypes := #[t, t] })
    (ht : Tryd.prog.underlying t = some (.slice 88)) (hi : Tryd.prog.info? 88 = some i) (hz : i.zero = some z) (hzs : z.cells.size = 2) (hsize : i.size = 2) (hby : i.bytes = 48) (hs : A.eval s = v) {base2 : Nat} (hle : base ≤ base2) (hown : OwnP w base2 v [])
    {g cap : Nat} (hx : A.eval x = .slice (some ⟨g, 0, none⟩) ps.length cap) (hxo : OwnP w base (.slice (some ⟨g, 0, none⟩) ps.length cap) ps) (hb : ps.length ≤ 100) (hbase : base2 ≤ w.heap.size)
    (h : ∀ v' w', OwnP w' base v' ps → w.grownBy w' v.ownBlock → Below base2 w w' → (∀ k, v'.ownBlock = some k → base2 ≤ k) → wpList Tryd.prog ops Q rest (A.put o.dst v') w') : wpList Tryd.prog ops Q (o :: rest) A w :=
  wpList_plain hgd fun K hK => by
    obtain ⟨v', w', hr, h2, h3, h4, h5⟩ := run_append_parts o.type ht hi hz hzs hsize hby hle hown hxo hb hbase
    unfold Oper.wp execOp
    simp only [ho, resolve, invoke, builtin, Sem.run_bind, Sem.run_pure, Result.andThen_ok, List.map_toArray, List.map_cons, List.map_nil, hs, hx, hr, Oper.upon_value]
    exact hK _ _ (h v' w' h2 h3 h4 h5)
theorem run_build_noparts (w : World) : (Instr.buildSlice 73 0 #[]).run Tryd.prog w = .ok (.slice (some ⟨w.heap.size, 0, none⟩) 0 0) (w.alloc (.cells #[] 88 (0, 0))) := by
  obtain ⟨i, z, hi, hz0, _, hz1, _⟩ := info_part
  unfold Instr.buildSlice
  simp [run_underlying Tryd.underlying73, sizeOf, typeInfo, hi, hz1]
  simp [newRow, Instr.fill]
  rw [show (Array.map (fun _ => (default : Value)) (Array.range 0)) = #[] from Array.eq_empty_of_size_eq_zero (by simp)]
theorem wpList_build_noparts {ops : Array Oper} {rest : List Oper} {o : Oper} {A : Act} {w : World} {Q : Exit → Act → World → Prop} (hgd : o.guard = none) (ho : o.op = .buildSlice 73 0 #[]) (base : Nat) (hb : base ≤ w.heap.size)
    (h : ∀ w', OwnP w' base (.slice (some ⟨w.heap.size, 0, none⟩) 0 0) [] → Below w.heap.size w w' → w.heap.size < w'.heap.size → wpList Tryd.prog ops Q rest (A.put o.dst (.slice (some ⟨w.heap.size, 0, none⟩) 0 0)) w') : wpList Tryd.prog ops Q (o :: rest) A w :=
  wpList_plain hgd fun K hK => by
    unfold Oper.wp execOp
    simp only [ho, List.map_toArray, List.map_nil, Sem.run_bind, run_build_noparts, Result.andThen_ok, Sem.run_pure, Oper.upon_value]
    exact hK _ _ (h _ ⟨[], rfl, World.ownsRow_made w #[] 0 hb (by unfold maxLen; omega) rfl, fun j hj => by simp at hj⟩ ((Below.refl _ _).alloc (Nat.le_refl _) _) (by simp only [World.size_alloc]; omega))
theorem RowT.cut {w : World} {B n : Nat} {ds : List (List Int)} {g : Nat} (h : RowT B n ds (.slice (some ⟨g, 0, none⟩) n n) w) (hn : 1 ≤ n) (hm : n ≤ 9223372036854775807) : RowV (n - 1) ((ds.drop 1).take (n - 1)) (.slice (cutD (some ⟨g, 0, none⟩) 1 n) (n - 1) (n - 1)) w := by
  obtain ⟨a, c, he, hd⟩ := h.row hm
  cases he
  exact ⟨_, _, rfl, hd.cut 1 n hn (Nat.le_refl _)⟩
/-- The first part of a row is changed. -/
theorem wpList_store_part {ops : Array Oper} {rest : List Oper} {op : Oper} {a : Act} {w : World} {Q : Exit → Act → World → Prop} (hgd : op.guard = none) (x y : Operand) (ho : op.op = .store 88 x y) (g : Nat) (hx : a.eval x = .pointer (some ⟨g, 0, none⟩)) (u v : Value) (hy : a.eval y = .agg #[u, v]) (h1 : u.oneCell' = true) (h2 : v.oneCell' = true)
    {base cap : Nat} {p : Prt} {ps : List Prt} (hown : OwnP w base (.slice (some ⟨g, 0, none⟩) ps.length cap) ps) (h0 : 0 < ps.length)
    (hsz : ∀ j, j < ps.length → (ps.getD j ([], [])).1.length ≤ 9223372036854775807 ∧ (ps.getD j ([], [])).2.length ≤ 9223372036854775807)
    (hu : ∀ w', But g w w' → (∃ cur, Blk w g cur 88) → RowV p.1.length p.1 u w' ∧ RowV p.2.length p.2 v w')
    (h : ∀ w', But g w w' → PartsAt w' (some ⟨g, 0, none⟩) ps.length cap (p :: ps.drop 1) → wpList Tryd.prog ops Q rest (a.put op.dst undef) w') : wpList Tryd.prog ops Q (op :: rest) a w := by
  obtain ⟨cs, e0, ⟨e1, ⟨e2, _⟩ | ⟨g', cap', cur, e2, hg, hh, hle, hmx, hcs, htk⟩⟩, e4⟩ := hown
  · cases e2
  · cases e2
    have hb : Blk w g cur 88 := hh
    refine wpList_store_mid hgd _ x y ho g 0 #[u, v] hx hy (fun k hk' => ⟨?_, hb.free _⟩) (by exact size_part) (by simp [h1, h2]) ?_
    · have hk2 : k < 2 := hk'
      rw [hb.cell, Array.getElem?_eq_getElem (by omega)]; rfl
    · have hbut : But g w (w.setCells g 0 [u, v]) := But.setCells _ _ _ (But.of (Below.refl _ _))
      have hnew : ∀ k, (w.setCells g 0 [u, v]).cell? ⟨g, k, none⟩ = if k = 0 then some u else if k = 1 then some v else w.cell? ⟨g, k, none⟩ := by
        have k0 := Blk.setCells [] cur.toList [] 0 [u, v] (by simpa using hb) (by simp; omega)
        simp only [List.length_nil, Nat.zero_add, List.nil_append, List.append_nil] at k0
        intro k
        rw [k0.cell, hb.cell]
        unfold splice
        match k with
        | 0 => simp
        | 1 => simp
        | k + 2 => simp [Nat.add_comm]
      refine h _ hbut ⟨by simp; omega, hle, by unfold maxLen at hmx; omega, .inr ⟨g, 0, none, rfl, fun j hj => ?_⟩⟩
      have hlt : g < (w.setCells g 0 [u, v]).heap.size := Nat.lt_of_lt_of_le hb.lt hbut.size
      refine ⟨rfl, hlt, ?_⟩
      match j, hj with
      | 0, _ =>
        obtain ⟨r1, r2⟩ := hu _ hbut ⟨cur, hb⟩
        exact ⟨u, v, by rw [hnew]; rfl, by rw [hnew]; rfl, r1, r2⟩
      | j + 1, hj =>
        obtain ⟨c, h5, h6, h7⟩ := e4 (j + 1) hj
        obtain ⟨q1, q2⟩ := flat2_at cs (j + 1) c h5
        have at_ : ∀ k u, k < ps.length * 2 → (cs.flatMap fun c => [c.1, c.2])[k]? = some u → w.cell? ⟨g, k, none⟩ = some u := fun k u hk hu => by
          rw [hb.cell]
          rw [← htk, List.getElem?_take_of_lt (by omega)] at hu
          simpa using hu
        have row : ∀ {n ds z}, RowT base n ds z w → RowT base n ds z (w.setCells g 0 [u, v]) := fun ⟨r1, r2, g', rg, r3, r4⟩ => by
          refine ⟨r1, r2, g', rg, r3, hbut.blk r4 fun e => ?_⟩
          subst e
          have := (show w.heap[g']? = _ from hb).symm.trans (show w.heap[g']? = _ from r4)
          injection this with this
          injection this with _ this
          revert this
          decide
        rw [show (p :: ps.drop 1).getD (j + 1) ([], []) = ps.getD (j + 1) ([], []) by simp [List.getD_eq_getElem?_getD]]
        refine ⟨c.1, c.2, ?_, ?_, (row h6).row (hsz _ hj).1, (row h7).row (hsz _ hj).2⟩
        · rw [hnew, if_neg (by omega), if_neg (by omega), Nat.zero_add]; exact at_ _ _ (by omega) q1
        · rw [hnew, if_neg (by omega), if_neg (by omega), Nat.zero_add]; exact at_ _ _ (by omega) q2
theorem TextsAt.one {w : World} {g tn tc : Nat} {T : TypeId} {ta : Option Addr} {m : List Int} (h : Blk w g #[.slice ta tn tc] T) (hT : TextAt w ta tn tc m) : TextsAt w (some ⟨g, 0, none⟩) 1 1 [m] :=
  TextsAt.of_blk h rfl (Nat.le_refl _) (by omega) fun j hj => by
    obtain rfl : j = 0 := by omega
    exact ⟨ta, tn, tc, rfl, hT⟩
theorem manyS_pow {L n : Nat} (h : rightS L n = true) : manyS L n = ((2 ^ n : Nat) : Int) ^ L := by
  unfold manyS
  rw [if_pos h, show ((L : Int) * (n : Int)).toNat = n * L by rw [← Int.natCast_mul, Int.toNat_natCast, Nat.mul_comm], Nat.pow_mul]
  simp
theorem meets_ver {seed pub r text RT : List Int} {L n : Nat} {i : Int} (hr : rightS L n = true) (hn3 : n ≤ 3) (h0 : 0 ≤ i) (h1 : i < manyS L n) (hRT : nodeZ pub (treeZ ((L : Int) - 1) 0) (fun j => leafZ seed pub ((L : Int) - 1) 0 j) n 0 = RT) :
    verB L n i RT pub r (sgPs seed pub n ((2 ^ n : Nat) : Int) i (msgZ r RT i text) L) text = true := by
  have hr2 := hr
  simp only [rightS, decide_eq_true_eq] at hr2
  obtain ⟨k, rfl⟩ : ∃ k, L = k + 1 := ⟨L - 1, by omega⟩
  unfold verB
  rw [formB_good hr h0 h1 (by rw [sgPs_length]) (fun j hj => by
    rw [sgPs_length] at hj
    rw [sgPs_at _ _ _ _ _ _ hj]
    have := sgP_len seed pub n ((2 ^ n : Nat) : Int) i (msgZ r RT i text) j
    omega), Bool.true_and, decide_eq_true_eq, sgPs_length, Int.toNat_natCast, verK_root (Dg.msg _ _ _ _) (by omega) rfl k h0 (by rw [← manyS_pow hr]; exact h1), ← hRT]
  rw [show (((k + 1 : Nat) : Int) - 1) = (k : Int) by omega]
theorem sig_tuple {i : Int} {r : List Int} {v v' y : Value} (h : (.tuple #[.agg (sigC i r v).toArray, y] : Value) = .tuple #[.agg (sigC i r v').toArray, y]) : v = v' := by
  unfold sigC at h
  simpa using h
theorem meets_levels {L n : Nat} (hr : rightS L n = true) (hsm : decide ((L : Int) * ((2 ^ n : Nat) : Int) ≤ 8) = true) : n ≤ 3 := by
  simp only [rightS, decide_eq_true_eq] at hr hsm
  rcases (show n ≤ 3 ∨ n = 4 by omega) with h | rfl
  · exact h
  · omega
theorem sgPs_len (seed pub : List Int) (n : Nat) (p i : Int) (M : List Int) (L : Nat) : ∀ j, j < (sgPs seed pub n p i M L).length → ((sgPs seed pub n p i M L).getD j ([], [])).1.length = 67 ∧ ((sgPs seed pub n p i M L).getD j ([], [])).2.length = n := fun j hj => by
  rw [sgPs_length] at hj
  rw [sgPs_at _ _ _ _ _ _ hj]
  exact sgP_len _ _ _ _ _ _ _
theorem OwnP.partsAt {w : World} {base : Nat} {a : Option Addr} {len cap : Nat} {ps : List Prt} (h : OwnP w base (.slice a len cap) ps) (hs : ∀ j, j < ps.length → (ps.getD j ([], [])).1.length ≤ 9223372036854775807 ∧ (ps.getD j ([], [])).2.length ≤ 9223372036854775807) : PartsAt w a len cap ps := by
  obtain ⟨a', c', he, hp⟩ := h.parts hs
  cases he
  exact hp
theorem build_part2 (a b : Option Addr) (n c n2 c2 : Nat) (w : World) : (Instr.build 88 #[(0, .slice a n c), (1, .slice b n2 c2)]).run Tryd.prog w = .ok (.agg #[.slice a n c, .slice b n2 c2]) w := by
  refine run_build w _ _ _ ?_
  obtain ⟨i0, hi, hz0⟩ := Option.map_eq_some_iff.1 (show (Tryd.prog.info? 88).map (·.zero) = some (some (.agg #[.slice none 0 0, .slice none 0 0])) by kernel_rfl)
  obtain ⟨fields, hu, hq⟩ : ∃ fields, Tryd.prog.underlying 88 = some (.struct fields) ∧ fields.toList.mapM (fun f => (Tryd.prog.info? f.type).map fun i => (f.offset, i.size)) = some [(0, 1), (1, 1)] := ⟨_, Tryd.underlying88, by kernel_rfl⟩
  unfold Program.built
  simp only [hi, hu, hz0, hq]
  rw [fill_part _ _ 0 0 _ _ (by rfl) (by show 0 + 1 ≤ 2; omega)]
  rw [fill_part _ _ 1 1 _ _ (by rfl) (by exact Nat.le_refl 2), Instr.fill]
  rfl
theorem quiet_cut_l {op : Oper} {a : Act} {C : World → Prop} {K : Act → Prop} (x y : Operand) (ho : op.op = .slice 28 x (some y) none none) (a0 : Option Addr) (len cap n : Nat) (hx : a.eval x = .slice a0 len cap) (hy : a.eval y = .int .i64 n) (hn : n ≤ len)
    (h : K (a.put op.dst (.slice (cutD a0 n cap) (len - n) (cap - n)))) : op.quiet Tryd.prog a C K :=
  ⟨.slice (cutD a0 n cap) (len - n) (cap - n), fun w' _ => by
    have hr := run_cutd_l (P := Tryd.prog) Tryd.underlying28 size_digest a0 len cap (n : Int) w' (by omega) (by omega)
    rw [Int.toNat_natCast] at hr
    have he : Tryd.prog.elem 28 = 23 := by simp [Program.elem, Tryd.underlying28]
    have hs := run_sliceAt_slice (P := Tryd.prog) (w := w') 28 (.slice a0 len cap) (some (.int .i64 n)) none none (by rw [he]; exact Tryd.underlying28)
    rw [hr] at hs
    unfold Oper.quietAt execOp
    simp only [ho, hx, hy, Option.map_none, Option.map_some, Sem.run_bind, Sem.run_pure, Result.andThen_ok, hs]
    simp [Oper.quietUpon], h⟩
theorem RowT.kept {B n g : Nat} {ds : List (List Int)} {u : Value} {w w' : World} {cur : Array Value} (h : RowT B n ds u w) (hc : Blk w g cur 88) (hb : But g w w') : RowT B n ds u w' := by
  obtain ⟨r1, r2, g', rg, r3, r4⟩ := h
  refine ⟨r1, r2, g', rg, r3, hb.blk r4 fun e => ?_⟩
  subst e
  have := (show w.heap[g']? = _ from hc).symm.trans (show w.heap[g']? = _ from r4)
  injection this with this
  injection this with _ this
  revert this
  decide
theorem OwnP.but_part {w w' : World} {base b g n c : Nat} {ps qs : List Prt} {base2 n2 c2 : Nat} (h : OwnP w base (.slice (some ⟨g, 0, none⟩) n c) ps) (hq : OwnP w base2 (.slice (some ⟨b, 0, none⟩) n2 c2) qs) (hb : But b w w') (hne : g ≠ b) : OwnP w' base (.slice (some ⟨g, 0, none⟩) n c) ps := by
  obtain ⟨cur, hk⟩ := hq.kind b rfl
  obtain ⟨cs, h1, ⟨h2, ⟨h3, _⟩ | ⟨g', cap, cu, he, hg, hh, hle, hmx, hsz, htk⟩⟩, h4⟩ := h
  · cases h3
  · cases he
    have hbk : Blk w g cu 88 := hh
    refine ⟨cs, h1, ⟨h2, .inr ⟨g, c, cu, rfl, hg, hb.blk hbk hne, hle, hmx, hsz, htk⟩⟩, fun j hj => ?_⟩
    obtain ⟨c', h5, h6, h7⟩ := h4 j hj
    exact ⟨c', h5, h6.kept hk hb, h7.kept hk hb⟩
end Go.Proofs.YtjkfbeillmeomaaDoor
