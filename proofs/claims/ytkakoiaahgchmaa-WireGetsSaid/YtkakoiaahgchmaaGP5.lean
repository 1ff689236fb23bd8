/-
  Layer 20: digests out of bytes, as the reference takes them.
-/
import Derived.Test.YtkakoiaahgchmaaGP4
namespace Go.Proofs.Ytkakoiaahgchmaa
open Go.ChangeShapes Go.WideShapes Go.ChangeAt Go.RowKit

theorem own_but {w w' : World} {base n sz b : Nat} {e : TypeId} {v : Value} {xs : List Value} (h : w.ownsRow base e sz v n xs) (hb : But b w w') (hne : ¬ v.ownBlock = some b) : w'.ownsRow base e sz v n xs := by
  obtain ⟨h1, ⟨rfl, h2⟩ | ⟨g, cap, cur, rfl, hg, hh, h3⟩⟩ := h
  · exact ⟨h1, .inl ⟨rfl, h2⟩⟩
  · refine ⟨h1, .inr ⟨g, cap, cur, rfl, hg, ?_, h3⟩⟩
    rw [hb.block g (Array.getElem?_eq_some_iff.1 hh).1 (fun e => hne (by rw [e]; rfl))]
    exact hh
theorem OwnD.but {w w' : World} {base b : Nat} {e : TypeId} {v : Value} {ds : List (List Int)} (h : OwnD w base e v ds) (hb : But b w w') (hl : b < base) : OwnD w' base e v ds := ⟨own_but h.row hb (fun e => by have := (h.lt _ e).1; omega), h.each⟩
/-- Parts as they lie in memory, their rows appended to. -/
def OwnQ (w : World) (base : Nat) (v : Value) (ps : List Prt) : Prop :=
  ∃ cs : List (Value × Value), cs.length = ps.length ∧ w.ownsRow base 46 2 v ps.length (cs.flatMap fun c => [c.1, c.2]) ∧ ∀ j, j < ps.length → ∃ c, cs[j]? = some c ∧ OwnD w base 25 c.1 (ps.getD j ([], [])).1 ∧ OwnD w base 25 c.2 (ps.getD j ([], [])).2
theorem OwnQ.nil (w : World) (base : Nat) : OwnQ w base (.slice none 0 0) [] := ⟨[], rfl, World.ownsRow_nil w base _ 2, fun j hj => by simp at hj⟩
theorem OwnQ.below {w w' : World} {base : Nat} {v : Value} {ps : List Prt} (h : OwnQ w base v ps) (hb : Below w.heap.size w w') : OwnQ w' base v ps := by
  obtain ⟨cs, h1, h2, h3⟩ := h
  refine ⟨cs, h1, owns_below h2 hb, fun j hj => ?_⟩
  obtain ⟨c, h4, h5, h6⟩ := h3 j hj
  exact ⟨c, h4, h5.below hb, h6.below hb⟩
theorem OwnQ.lt {w : World} {base : Nat} {v : Value} {ps : List Prt} (h : OwnQ w base v ps) : ∀ k, v.ownBlock = some k → base ≤ k ∧ k < w.heap.size := by
  obtain ⟨cs, _, h2, _⟩ := h
  exact h2.lt
theorem OwnQ.kind {w : World} {base : Nat} {v : Value} {ps : List Prt} (h : OwnQ w base v ps) : ∀ k, v.ownBlock = some k → ∃ cur, Blk w k cur 46 := by
  obtain ⟨cs, h0, ⟨h1, ⟨rfl, h2⟩ | ⟨g, cap, cur, rfl, hg, hh, hle, hmx, hsz, htk⟩⟩, h3⟩ := h
  · intro k hk; cases hk
  · intro k hk
    cases hk
    exact ⟨cur, hh⟩
theorem OwnQ.slice {w : World} {base : Nat} {v : Value} {ps : List Prt} (h : OwnQ w base v ps) : ∃ a n c, v = .slice a n c := by
  obtain ⟨cs, h0, ⟨h1, ⟨rfl, h2⟩ | ⟨g, cap, cur, rfl, hg, hh, hle, hmx, hsz, htk⟩⟩, h3⟩ := h
  · exact ⟨_, _, _, rfl⟩
  · exact ⟨_, _, _, rfl⟩
theorem OwnD.rowv {w : World} {base : Nat} {e : TypeId} {v : Value} {ds : List (List Int)} (h : OwnD w base e v ds) : RowV ds.length ds v w := by
  obtain ⟨a, cap, rfl, hd, _⟩ := h.digs
  exact ⟨a, cap, rfl, hd⟩
theorem OwnD.one {w : World} {base : Nat} {e : TypeId} {v : Value} {ds : List (List Int)} (h : OwnD w base e v ds) : v.oneCell' = true := by
  obtain ⟨a, cap, rfl, hd, _⟩ := h.digs
  rfl
theorem OwnQ.parts {w : World} {base : Nat} {v : Value} {ps : List Prt} (h : OwnQ w base v ps) : ∃ a cap, v = .slice a ps.length cap ∧ PartsAt w a ps.length cap ps := by
  obtain ⟨cs, h0, ⟨h1, ⟨rfl, h2⟩ | ⟨g, cap, cur, rfl, hg, hh, hle, hmx, hsz, htk⟩⟩, h3⟩ := h
  · have h2' : ps.length = 0 := by omega
    obtain rfl := List.eq_nil_of_length_eq_zero h2'
    exact ⟨none, 0, rfl, PartsAt.nil w⟩
  · refine ⟨_, cap, rfl, rfl, hle, by unfold maxLen at hmx; omega, .inr ⟨g, 0, none, rfl, fun j hj => ?_⟩⟩
    obtain ⟨c, h4, h5, h6⟩ := h3 j hj
    have hb : Blk w g cur 46 := hh
    obtain ⟨e1, e2⟩ := flat2_at cs j c h4
    have at_ : ∀ k u, k < ps.length * 2 → (cs.flatMap fun c => [c.1, c.2])[k]? = some u → w.cell? ⟨g, k, none⟩ = some u := fun k u hk hu => by
      rw [hb.cell]
      rw [← htk, List.getElem?_take_of_lt (by omega)] at hu
      simpa using hu
    refine ⟨rfl, (Array.getElem?_eq_some_iff.1 hh).1, c.1, c.2, ?_, ?_, h5.rowv, h6.rowv⟩
    · rw [Nat.zero_add]; exact at_ _ _ (by omega) e1
    · rw [Nat.zero_add]; exact at_ _ _ (by omega) e2
theorem OwnD.grown {B : Nat} {ds : List (List Int)} {u : Value} {w w' : World} {o : Option Nat} (h : OwnD w B 25 u ds) (hk : ∀ k, o = some k → ∃ cur, Blk w k cur 46) (hg : w.grownBy w' o) : OwnD w' B 25 u ds := by
  refine ⟨h.row.kept hg ?_, h.each⟩
  rcases hu : u.ownBlock with _ | k
  · exact .inl rfl
  · refine .inr fun e => ?_
    obtain ⟨cur, hc⟩ := hk k e.symm
    obtain ⟨_, ⟨rfl, _⟩ | ⟨g, cap, cu, rfl, _, hh, _⟩⟩ := h.row
    · cases hu
    · obtain rfl : g = k := Option.some.inj hu
      have := (show w.heap[g]? = _ from hc).symm.trans hh
      injection this with this
      injection this with _ this
      revert this
      decide
set_option maxRecDepth 100000 in
/-- One part more. -/
theorem run_append_partq {w : World} {base : Nat} {t : TypeId} {i : TypeInfo} {v z : Value} {ps : List Prt} (ty : TypeId) (ht : Try.prog.underlying t = some (.slice 46)) (hi : Try.prog.info? 46 = some i) (hz : i.zero = some z) (hzs : z.cells.size = 2) (hsize : i.size = 2) (hby : i.bytes = 48) (hown : OwnQ w base v ps)
    {b : Nat} {x y : Value} {p : Prt} {T : TypeId} (hk : Blk w b #[x, y] T) (hx : OwnD w base 25 x p.1) (hy : OwnD w base 25 y p.2) (hb : ps.length ≤ 100) (hbase : base ≤ w.heap.size) :
    ∃ v' w', (Builtin.append_ #[t, t] ty #[v, .slice (some ⟨b, 0, none⟩) 1 1]).run Try.prog w = .ok v' w' ∧ OwnQ w' base v' (ps ++ [p]) ∧ w.grownBy w' v.ownBlock ∧ Below base w w' := by
  have hbel : ∀ {w' : World}, w.grownBy w' v.ownBlock → Below base w w' := fun hg => ⟨hg.os, hg.tape, hg.output, hg.size, fun k hk => hg.block k (by omega) (fun e => by have := (hown.lt k e.symm).1; omega)⟩
  have hkind := hown.kind
  obtain ⟨cs, h0, hrow, hall⟩ := hown
  obtain ⟨v', w', h1, h2, h3, _⟩ := run_append_own (P := Try.prog) w base t ty _ i z 2 48 ht hi hz hsize hby hzs (by omega) v ps.length _ hrow ⟨b, 0, none⟩ 1 1 [x, y] rfl (news_blk (cs := [x, y]) hk) (fun u hu => by
    simp only [List.mem_cons, List.not_mem_nil, or_false] at hu
    rcases hu with rfl | rfl
    · exact hx.one
    · exact hy.one) (by unfold maxLen; omega) (by omega) hbase
  refine ⟨v', w', h1, ⟨cs ++ [(x, y)], by simp [h0], ?_, fun j hj => ?_⟩, h3, hbel h3⟩
  · rw [List.flatMap_append, List.length_append]
    exact h2
  · rw [List.length_append] at hj
    simp only [List.length_cons, List.length_nil] at hj
    rcases Nat.lt_or_ge j ps.length with hlt | hge
    · obtain ⟨c, h4, h5, h6⟩ := hall j hlt
      rw [show (ps ++ [p]).getD j ([], []) = ps.getD j ([], []) by rw [List.getD_eq_getElem?_getD, List.getElem?_append_left hlt, List.getD_eq_getElem?_getD]]
      exact ⟨c, by rw [List.getElem?_append_left (by omega)]; exact h4, h5.grown hkind h3, h6.grown hkind h3⟩
    · obtain rfl : j = ps.length := by omega
      rw [show (ps ++ [p]).getD ps.length ([], []) = p by simp [List.getD_eq_getElem?_getD]]
      exact ⟨(x, y), by rw [← h0]; simp, hx.grown hkind h3, hy.grown hkind h3⟩
set_option maxRecDepth 100000 in
theorem wpList_append_partq {w : World} {base : Nat} {t : TypeId} {i : TypeInfo} {v z : Value} {ps : List Prt} {ops : Array Oper} {rest : List Oper} {o : Oper} {A : Act} {Q : Exit → Act → World → Prop} (hgd : o.guard = none) (s x : Operand) (ho : o.op = .call { callee := .builtin .append, args := #[s, x], argTypes := #[t, t] })
    (ht : Try.prog.underlying t = some (.slice 46)) (hi : Try.prog.info? 46 = some i) (hz : i.zero = some z) (hzs : z.cells.size = 2) (hsize : i.size = 2) (hby : i.bytes = 48) (hs : A.eval s = v) (hown : OwnQ w base v ps)
    {b : Nat} {y1 y2 : Value} {p : Prt} {T : TypeId} (hx : A.eval x = .slice (some ⟨b, 0, none⟩) 1 1) (hk : Blk w b #[y1, y2] T) (hy1 : OwnD w base 25 y1 p.1) (hy2 : OwnD w base 25 y2 p.2) (hb : ps.length ≤ 100) (hbase : base ≤ w.heap.size)
    (h : ∀ v' w', OwnQ w' base v' (ps ++ [p]) → w.grownBy w' v.ownBlock → Below base w w' → wpList Try.prog ops Q rest (A.put o.dst v') w') : wpList Try.prog ops Q (o :: rest) A w :=
  wpList_plain hgd fun K hK => by
    obtain ⟨v', w', hr, h2, h3, h4⟩ := run_append_partq o.type ht hi hz hzs hsize hby hown hk hy1 hy2 hb hbase
    unfold Oper.wp execOp
    simp only [ho, resolve, invoke, builtin, Sem.run_bind, Sem.run_pure, Result.andThen_ok, List.map_toArray, List.map_cons, List.map_nil, hs, hx, hr, Oper.upon_value]
    exact hK _ _ (h v' w' h2 h3 h4)
theorem OwnQ.re {w : World} {base base' : Nat} {v : Value} {ps : List Prt} (h : OwnQ w base v ps) (hb : base' ≤ base) : OwnQ w base' v ps := by
  obtain ⟨cs, h0, ⟨h1, h2⟩, h3⟩ := h
  refine ⟨cs, h0, ⟨h1, h2.imp id ?_⟩, fun j hj => ?_⟩
  · rintro ⟨g, cap, cur, rfl, hg, hh⟩
    exact ⟨g, cap, cur, rfl, Nat.le_trans hb hg, hh⟩
  · obtain ⟨c, h4, h5, h6⟩ := h3 j hj
    exact ⟨c, h4, h5.re hb, h6.re hb⟩
theorem OwnQ.but {b : Nat} {w w' : World} {base : Nat} {v : Value} {ps : List Prt} (h : OwnQ w base v ps) (hlt : b < base) (hb : But b w w') : OwnQ w' base v ps := by
  obtain ⟨l, h0, ⟨h1, h2⟩, h3⟩ := h
  refine ⟨l, h0, ⟨h1, h2.imp id ?_⟩, fun j hj => ?_⟩
  · rintro ⟨g, cap, cur, rfl, hg, hh, hle, hmx, hsz, htk⟩
    have hbk : Blk w g cur 46 := hh
    exact ⟨g, cap, cur, rfl, hg, hb.blk hbk (by omega), hle, hmx, hsz, htk⟩
  · obtain ⟨c, h4, h5, h6⟩ := h3 j hj
    exact ⟨c, h4, h5.but hb (by omega), h6.but hb (by omega)⟩
theorem build_part2 (a b : Option Addr) (n c n2 c2 : Nat) (w : World) : (Instr.build 46 #[(0, .slice a n c), (1, .slice b n2 c2)]).run Try.prog w = .ok (.agg #[.slice a n c, .slice b n2 c2]) w := by
  refine run_build w _ _ _ ?_
  obtain ⟨i0, hi, hz0⟩ := Option.map_eq_some_iff.1 (show (Try.prog.info? 46).map (·.zero) = some (some (.agg #[.slice none 0 0, .slice none 0 0])) by kernel_rfl)
  obtain ⟨fields, hu, hq⟩ : ∃ fields, Try.prog.underlying 46 = some (.struct fields) ∧ fields.toList.mapM (fun f => (Try.prog.info? f.type).map fun i => (f.offset, i.size)) = some [(0, 1), (1, 1)] := ⟨_, Try.underlying46, by kernel_rfl⟩
  unfold Program.built
  simp only [hi, hu, hz0, hq]
  rw [fill_part _ _ 0 0 _ _ (by rfl) (by show 0 + 1 ≤ 2; omega)]
  rw [fill_part _ _ 1 1 _ _ (by rfl) (by exact Nat.le_refl 2), Instr.fill]
  rfl
/-- A digest whose first k bytes are written. -/
def dK (u : List Int) (k : Nat) : List Int := u.take k ++ List.replicate (32 - k) 0
theorem dK_zero (u : List Int) : dK u 0 = zD := by simp [dK, zD]
theorem dK_full {u : List Int} (h : u.length = 32) : dK u 32 = u := by simp [dK, ← h]
theorem dK_length {u : List Int} (h : u.length = 32) {k : Nat} (hk : k ≤ 32) : (dK u k).length = 32 := by simp [dK, h]; omega
theorem dK_set {u : List Int} (h : u.length = 32) {k : Nat} (hk : k < 32) : (dK u k).set k (u.getD k 0) = dK u (k + 1) := by
  unfold dK
  rw [List.set_append_right _ _ (by rw [List.length_take]; omega), List.length_take, show k - min k u.length = 0 by omega, show 32 - k = (32 - (k + 1)) + 1 by omega, List.replicate_succ, List.set_cons_zero]
  rw [List.take_succ_eq_append_getElem (by omega), List.getD_eq_getElem?_getD, List.getElem?_eq_getElem (by omega), List.append_assoc]
  rfl

set_option maxHeartbeats 4000000 in
set_option maxRecDepth 100000 in
theorem refrows_any (x o n c : Nat) (t : List Int) (at_ many : Nat) (w : World) (hT : TextAt w (some ⟨x, o, none⟩) n c t) (hx : x < w.heap.size) (hm : many ≤ 1000) (hl : at_ + 32 * many ≤ n) (hn9 : n ≤ 1000000) :
    Calls Try.prog 28 #[.slice (some ⟨x, o, none⟩) n c, .int .i64 at_, .int .i64 many] w fun e w' => ∃ v, e = .returned v ∧ OwnD w' w.heap.size 25 v (rowsZ (t.drop at_) many) ∧ Below w.heap.size w w' := by
  have HT := hid hT
  have htl := hT.length
  have HSM := hid hT.small
  have Hb := hid (Below.refl w.heap.size w)
  clear hT
  go_enter Try.func28, Try.ntmps28
  go_wp2_with fail
  go_loopw [7, 8] (fun ov iv wr => ∃ k : Nat, k ≤ many ∧ iv = .int .i64 k ∧ OwnD wr w.heap.size 25 ov (rowsZ (t.drop at_) k) ∧ Below w.heap.size w wr) (fun _ iv _ => many - (intOf iv).toNat)
  case atStart => exact ⟨0, Nat.zero_le _, rfl, OwnD.nil _ _ _, Hb.out⟩
  case round =>
    obtain ⟨k, hk, rfl, ho, bel⟩ := hrel
    have HO := hid ho
    have HBwr := hid bel
    have hswr := bel.size
    clear ho bel
    by_cases hlt : k < many
    · have hc0 : (k : Int) < many := by omega
      obtain ⟨u, hu⟩ : ∃ u, u = ((t.drop at_).drop (k * 32)).take 32 := ⟨_, rfl⟩
      have hul : u.length = 32 := by rw [hu, List.length_take, List.length_drop, List.length_drop]; omega
      have HRS := hid (show rowsZ (t.drop at_) (k + 1) = rowsZ (t.drop at_) k ++ [u] by rw [rowsZ_succ, hu])
      have HUD := hid (show Dg u from ⟨hul, fun y hy => HSM.out y (by rw [hu] at hy; exact List.mem_of_mem_drop (List.mem_of_mem_drop (List.mem_of_mem_take hy)))⟩)
      have HUG := hid (fun (j : Nat) (hj : j < 32) => show t.getD (at_ + 32 * k + j) 0 = u.getD j 0 from by
        rw [hu]
        simp only [List.getD_eq_getElem?_getD, List.getElem?_take, List.getElem?_drop, hj, if_true]
        rw [show at_ + (k * 32 + j) = at_ + 32 * k + j by omega])
      have HUL := hid hul
      clear hu hul
      go_wp2_with fail
      obtain ⟨g, hg⟩ : ∃ g, g = wr.heap.size := ⟨_, rfl⟩
      have hgg : w.heap.size ≤ g := by omega
      have HB1 := hid (HBwr.out.alloc HBwr.out.size (.cells #[.int .u8 0, .int .u8 0, .int .u8 0, .int .u8 0, .int .u8 0, .int .u8 0, .int .u8 0, .int .u8 0, .int .u8 0, .int .u8 0, .int .u8 0, .int .u8 0, .int .u8 0, .int .u8 0, .int .u8 0, .int .u8 0, .int .u8 0, .int .u8 0, .int .u8 0, .int .u8 0, .int .u8 0, .int .u8 0, .int .u8 0, .int .u8 0, .int .u8 0, .int .u8 0, .int .u8 0, .int .u8 0, .int .u8 0, .int .u8 0, .int .u8 0, .int .u8 0] 25 (0, 0)))
      have Kd1 := hid (show Blk (wr.alloc (.cells #[.int .u8 0, .int .u8 0, .int .u8 0, .int .u8 0, .int .u8 0, .int .u8 0, .int .u8 0, .int .u8 0, .int .u8 0, .int .u8 0, .int .u8 0, .int .u8 0, .int .u8 0, .int .u8 0, .int .u8 0, .int .u8 0, .int .u8 0, .int .u8 0, .int .u8 0, .int .u8 0, .int .u8 0, .int .u8 0, .int .u8 0, .int .u8 0, .int .u8 0, .int .u8 0, .int .u8 0, .int .u8 0, .int .u8 0, .int .u8 0, .int .u8 0, .int .u8 0] 25 (0, 0))) g ((dK u 0).map (Value.int .u8)).toArray 25 from by rw [dK_zero, hg]; exact Blk.new rfl _ _)
      have HO1 := hid (HO.out.below ((Below.refl wr.heap.size wr).alloc (Nat.le_refl _) (.cells #[.int .u8 0, .int .u8 0, .int .u8 0, .int .u8 0, .int .u8 0, .int .u8 0, .int .u8 0, .int .u8 0, .int .u8 0, .int .u8 0, .int .u8 0, .int .u8 0, .int .u8 0, .int .u8 0, .int .u8 0, .int .u8 0, .int .u8 0, .int .u8 0, .int .u8 0, .int .u8 0, .int .u8 0, .int .u8 0, .int .u8 0, .int .u8 0, .int .u8 0, .int .u8 0, .int .u8 0, .int .u8 0, .int .u8 0, .int .u8 0, .int .u8 0, .int .u8 0] 25 (0, 0))))
      rw [← hg]
      have hgl : g < (wr.alloc (.cells #[.int .u8 0, .int .u8 0, .int .u8 0, .int .u8 0, .int .u8 0, .int .u8 0, .int .u8 0, .int .u8 0, .int .u8 0, .int .u8 0, .int .u8 0, .int .u8 0, .int .u8 0, .int .u8 0, .int .u8 0, .int .u8 0, .int .u8 0, .int .u8 0, .int .u8 0, .int .u8 0, .int .u8 0, .int .u8 0, .int .u8 0, .int .u8 0, .int .u8 0, .int .u8 0, .int .u8 0, .int .u8 0, .int .u8 0, .int .u8 0, .int .u8 0, .int .u8 0] 25 (0, 0))).heap.size := Kd1.out.lt
      generalize wr.alloc (.cells #[.int .u8 0, .int .u8 0, .int .u8 0, .int .u8 0, .int .u8 0, .int .u8 0, .int .u8 0, .int .u8 0, .int .u8 0, .int .u8 0, .int .u8 0, .int .u8 0, .int .u8 0, .int .u8 0, .int .u8 0, .int .u8 0, .int .u8 0, .int .u8 0, .int .u8 0, .int .u8 0, .int .u8 0, .int .u8 0, .int .u8 0, .int .u8 0, .int .u8 0, .int .u8 0, .int .u8 0, .int .u8 0, .int .u8 0, .int .u8 0, .int .u8 0, .int .u8 0] 25 (0, 0)) = w1 at *
      have hgw : wr.heap.size ≤ g := Nat.le_of_eq hg.symm
      clear hg
      go_loopw [10] (fun jv wq => ∃ j : Nat, j ≤ 32 ∧ jv = .int .i64 j ∧ Blk wq g ((dK u j).map (Value.int .u8)).toArray 25 ∧ But g w1 wq) (fun jv _ => 32 - (intOf jv).toNat)
      case atStart => exact ⟨0, Nat.zero_le _, rfl, Kd1.out, But.of (Below.refl _ _)⟩
      case round =>
        obtain ⟨j, hj, rfl, kd, bt⟩ := hrel
        have Kd := hid kd
        have HBt := hid bt
        have HBq := hid (bt.below HB1.out HB1.out.size hgg)
        clear kd bt
        by_cases hjl : j < 32
        · have hc1 : (j : Int) < 32 := by omega
          obtain ⟨x', o', he, -, hcx⟩ := (HT.out.below HBq.out).at_ (by omega)
          cases he
          have hcell := hcx (at_ + 32 * k + j) (by omega)
          rw [HUG.out j hjl] at hcell
          have HDS := hid (dK_set HUL.out hjl)
          obtain ⟨y, hy⟩ : ∃ y, u.getD j 0 = y := ⟨_, rfl⟩
          rw [hy] at hcell HDS
          clear hcx hy
          have hgne : ¬ x = g := by omega
          have hdl := dK_length HUL.out (k := j) (by omega)
          go_wp2_with (first
            | (refine wpList_index_s 1 (by first | rfl | go_simp) 31 _ _ rfl Try.underlying31 size_byte_ x o n c rfl _ _ rfl (at_ + 32 * k + j) (by omega) (by omega) ?_)
            | (refine wpList_store_cell rfl 5 _ _ rfl g j (.int .u8 y) rfl rfl rfl rfl _ 25 Kd.out (by rw [List.size_toArray, List.length_map, hdl]; exact hjl) size_byte_ ?_
               intro w3 hb3 hk3
               rw [List.setIfInBounds_toArray, ← List.map_set, HDS.out] at hk3
               have Kd3 := hid hk3
               have HBt3 := hid (HBt.out.trans hb3)
               clear hb3 hk3))
          exact ⟨⟨j + 1, by omega, by first | rfl | simp, Kd3.out, HBt3.out⟩, by simp [intOf]; omega⟩
        · have hj32 : j = 32 := by omega
          have hc1 : ¬ (j : Int) < 32 := by omega
          rw [hj32, dK_full HUL.out] at Kd
          have HOq := hid (show OwnD wr w.heap.size 25 u7 (rowsZ (t.drop at_) k) from ⟨own_but HO1.out.row HBt.out (fun e => by have := HO.out.lt _ e; omega), HO1.out.each⟩)
          obtain ⟨i1, hi, hz0, hz1, hz2⟩ := info_parts info_dig
          go_wp2_with (first
            | (refine wpList_load_blk rfl 25 _ rfl g rfl _ 25 Kd.out _ Try.underlying25 rfl 32 size_digest HUD.out.size ?_)
            | (refine wpList_build_one rfl _ rfl rfl HUD.out ?_)
            | (at_builtin; refine wpList_append_dig rfl _ _ rfl Try.underlying44 hi hz0 zD_cells32 hz1 hz2 rfl (HOq.out.below ((Below.refl wr.heap.size wr).alloc (Nat.le_refl _) (.cells (u.map (Value.int .u8)).toArray 25 (0, 0)))) rfl (Blk.new rfl (u.map (Value.int .u8)).toArray 25) HUD.out (by rw [rowsZ_length]; omega) (by rw [World.size_alloc]; have := HBq.out.size; omega) ?_
               intro v4 w4 ho4 hg4 hb4
               rw [← HRS.out] at ho4
               have HO4 := hid ho4
               have HB4 := hid (Below.trans (HBq.out.alloc HBq.out.size (.cells (u.map (Value.int .u8)).toArray 25 (0, 0))) hb4)
               clear ho4 hg4 hb4))
          exact ⟨⟨k + 1, by omega, by first | rfl | simp, HO4.out, HB4.out⟩, by simp [intOf]; omega⟩
    · have hkn : k = many := by omega
      subst hkn
      have hc0 : ¬ (k : Int) < k := by omega
      go_wp2_with fail
      go_returns
      exact ⟨_, rfl, HO.out, HBwr.out⟩
end Go.Proofs.Ytkakoiaahgchmaa
