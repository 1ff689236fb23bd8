/-
  Layer 17: how often an index is there.
-/
import Derived.Test.YthaicocfbmpnmaaDoorPtE
import Derived.DeepKeys4
import Derived.WideKeyEntry
namespace Go.Proofs.YthaicocfbmpnmaaDoor
open Go.ChangeShapes Go.WideShapes Go.ChangeAt Go.RowKit
open Go.WideMaps (KeyLaw)
open Go.ChangeMaps (setBlock)

set_option maxRecDepth 100000 in
theorem dig_laid : laidOutB Tryd.prog = true := by kernel_rfl
theorem dig_row : (23 : TypeId) < Tryd.prog.types.size := of_decide_eq_true (by kernel_rfl)
theorem dig_wide : (match Tryd.prog.underlying 23 with | some (.array _ _) | some (.struct _) => true | _ => false) = true := by rw [Tryd.underlying23]
set_option maxRecDepth 100000 in
theorem dig_typed : Tryd.prog.keyTypeAt 2 23 = true := by kernel_rfl
set_option maxRecDepth 100000 in
theorem digLaw : KeyLaw Tryd.prog 23 := deep_law_laid dig_laid (m := 2) (by omega) dig_row dig_typed dig_wide
/-- An index was counted so often. -/
def MapN (r : Nat) (kv : Value) (n : Nat) (w : World) : Prop := (n = 0 ∧ w.heap[r]? = some (.map #[] 0)) ∨ w.heap[r]? = some (.map #[⟨kv, .int .i64 n, 0⟩] 1)
theorem MapN.at_ {r : Nat} {kv : Value} {n : Nat} {w w' : World} (h : MapN r kv n w) (he : w'.heap[r]? = w.heap[r]?) : MapN r kv n w' := by
  unfold MapN at *
  rw [he]
  exact h
theorem MapN.lt {r : Nat} {kv : Value} {n : Nat} {w : World} (h : MapN r kv n w) : r < w.heap.size := by
  rcases h with ⟨_, h⟩ | h <;> exact (Array.getElem?_eq_some_iff.1 h).1
theorem MapN.below {r : Nat} {kv : Value} {n : Nat} {w w' : World} (h : MapN r kv n w) (hb : Below w.heap.size w w') : MapN r kv n w' := h.at_ (hb.block r h.lt)
theorem int_zero (w : World) : (zeroValue 3).run Tryd.prog w = .ok (.int .i64 0) w := by kernel_rfl
theorem run_lookup_n {r : Nat} {kv : Value} {kl : Lit} {n : Nat} {w : World} (hkey : keyOf Tryd.prog 23 kv = some kl) (h : MapN r kv n w) :
    (Instr.lookup 117 (.map (some r)) kv false).run Tryd.prog w = .ok (.int .i64 n) w := by
  rcases h with ⟨rfl, hb⟩ | hb
  · rcases digLaw.find w hkey [] (by simp) with ⟨h1, _⟩ | ⟨j, e0, _, h2, _⟩
    · simp [Instr.lookup, run_underlying Tryd.underlying117, MapKept.run_getObj_map hb, digLaw.check w true hkey, h1]
    · simp at h2
  · rcases digLaw.find w hkey [⟨kv, .int .i64 n, 0⟩] (by simp [hkey]) with ⟨_, h2⟩ | ⟨j, e0, h1, h2, _⟩
    · exact absurd rfl (h2 ⟨kv, .int .i64 n, 0⟩ (by simp))
    · obtain rfl : j = 0 := by
        have := (List.getElem?_eq_some_iff.1 h2).1
        simp at this; omega
      simp only [List.getElem?_cons_zero, Option.some.injEq] at h2
      subst h2
      simp [Instr.lookup, run_underlying Tryd.underlying117, MapKept.run_getObj_map hb, digLaw.check w false hkey, h1, Result.andThen]
theorem run_mapEntry_n {r : Nat} {kv : Value} {kl : Lit} {n : Nat} {w : World} (hkey : keyOf Tryd.prog 23 kv = some kl) (h : MapN r kv n w) :
    (Instr.mapEntry 117 (.map (some r)) kv).run Tryd.prog w = .ok (.tuple #[.int .i64 n, .int .i64 0]) (setBlock w r (.map #[⟨kv, .int .i64 n, 0⟩] 1)) := by
  rcases h with ⟨rfl, hb⟩ | hb
  · rcases digLaw.find w hkey [] (by simp) with ⟨h1, _⟩ | ⟨j, e0, _, h2, _⟩
    · simp [Instr.mapEntry, run_underlying Tryd.underlying117, MapKept.run_getObj_map hb, digLaw.check w false hkey, h1, MapKept.run_setObj_map _ hb, Result.andThen, setBlock, goInt]
    · simp at h2
  · rcases digLaw.find w hkey [⟨kv, .int .i64 n, 0⟩] (by simp [hkey]) with ⟨_, h2⟩ | ⟨j, e0, h1, h2, _⟩
    · exact absurd rfl (h2 ⟨kv, .int .i64 n, 0⟩ (by simp))
    · obtain rfl : j = 0 := by
        have := (List.getElem?_eq_some_iff.1 h2).1
        simp at this; omega
      simp only [List.getElem?_cons_zero, Option.some.injEq] at h2
      subst h2
      simp [Instr.mapEntry, run_underlying Tryd.underlying117, MapKept.run_getObj_map hb, digLaw.check w false hkey, h1, digLaw.stays w hkey, MapKept.run_setObj_map _ hb, Result.andThen, setBlock, goInt]
theorem run_entryStore_n {r : Nat} {kv v val : Value} {w : World} (hb : w.heap[r]? = some (.map #[⟨kv, v, 0⟩] 1)) :
    (Instr.entryStore 117 (.map (some r)) (.int .i64 0) val).run Tryd.prog w = .ok () (setBlock w r (.map #[⟨kv, val, 0⟩] 1)) := by
  have hidx : (#[⟨kv, v, 0⟩] : Array MapEntry).findIdx? (fun e => ((e.born : Nat) : Int) == (0 : Int)) = some 0 := by
    rw [Go.WideElems.findIdx_arr]
    simp [List.findIdx?_cons]
  have hmod : (#[⟨kv, v, 0⟩] : Array MapEntry).modify 0 (fun e => { e with val := val }) = #[⟨kv, val, 0⟩] := by
    apply Array.ext'
    simp
  simp [Instr.entryStore, MapKept.run_getObj_map hb, asInt, asIntOf, hidx, hmod, MapKept.run_setObj_map _ hb, Result.andThen, setBlock]
theorem setBlock_in (w : World) (r : Nat) (o : Obj) : FlowB.ButIn [r] w (setBlock w r o) :=
  ⟨rfl, rfl, rfl, by simp [setBlock], fun k hk hn => by
    show (w.heap.setIfInBounds r o)[k]? = _
    rw [Array.getElem?_setIfInBounds, if_neg (fun e => hn (by simp [e]))]⟩
theorem setBlock_at {w : World} {r : Nat} (h : r < w.heap.size) (o : Obj) : (setBlock w r o).heap[r]? = some o := by
  show (w.heap.setIfInBounds r o)[r]? = _
  rw [Array.getElem?_setIfInBounds, if_pos rfl, if_pos h]
/-- The entries of a row. -/
structure EntsAt (w : World) (a : Option Addr) (len cap : Nat) (es : List (List Int × List Int)) : Prop where
  length : es.length = len
  le : len ≤ cap
  each : ∀ x ∈ es, Dg x.1 ∧ Dg x.2
  mem : len = 0 ∨ ∃ x o, a = some ⟨x, o, none⟩ ∧ x < w.heap.size ∧ ∀ j, j < len → w.rangeAt x (o + j * 64) ((entL (es.getD j ([], [])).1 (es.getD j ([], [])).2).map (Value.int .u8))
theorem EntsAt.below {w w' : World} {a : Option Addr} {len cap : Nat} {es : List (List Int × List Int)} (h : EntsAt w a len cap es) (hb : Below w.heap.size w w') : EntsAt w' a len cap es := by
  obtain ⟨h1, h2, h3, h4 | ⟨x, o, rfl, hx, hc⟩⟩ := h
  · exact ⟨h1, h2, h3, .inl h4⟩
  · exact ⟨h1, h2, h3, .inr ⟨x, o, rfl, Nat.lt_of_lt_of_le hx hb.size, fun j hj => rangeAt_below (hc j hj) hx hb⟩⟩
/-- The world goes on, and the map keeps its number. -/
def MapR (r : Nat) (kv : Value) (n : Nat) (a b : World) : Prop := FlowB.ButIn [r] a b ∧ (MapN r kv n a → MapN r kv n b)
theorem mapR_rel (r : Nat) (kv : Value) (n : Nat) : Rel (MapR r kv n) :=
  ⟨fun h => ⟨(FlowB.rel_butIn [r]).of h, fun hm => hm.below h⟩, fun h k => ⟨(FlowB.rel_butIn [r]).trans h.1 k.1, fun hm => k.2 (h.2 hm)⟩⟩
theorem quiet_lookup {r : Nat} {kv : Value} {kl : Lit} {n : Nat} {op : Oper} {a : Act} {C : World → Prop} {K : Act → Prop} (x y : Operand) (ho : op.op = .lookup 117 x y false) (hx : a.eval x = .map (some r)) (hy : a.eval y = kv) (hkey : keyOf Tryd.prog 23 kv = some kl) (hC : ∀ w', C w' → MapN r kv n w')
    (h : K (a.put op.dst (.int .i64 n))) : op.quiet Tryd.prog a C K :=
  ⟨.int .i64 n, fun w' hw' => by
    unfold Oper.quietAt execOp
    simp only [ho, hx, hy, Sem.run_bind, Sem.run_pure, Result.andThen_ok, run_lookup_n hkey (hC w' hw')]
    simp [Oper.quietUpon], h⟩
theorem ent_front {a b : List Int} (_ha : Dg a) {w : World} {g : Nat} {T : TypeId} (h : Blk w g ((entL a b).map (Value.int .u8)).toArray T) : w.rangeAt g 0 (a.map (Value.int .u8)) := fun j v hv => by
  have hj : j < a.length := by have := (List.getElem?_eq_some_iff.1 hv).1; simpa using this
  rw [Nat.zero_add, h.cell, List.getElem?_toArray, entL, List.map_append, List.getElem?_append_left (by rw [List.length_map]; exact hj)]
  exact hv
theorem exec_mapEntry {o : Oper} {A : Act} {w w' : World} {x y : Operand} {vx vy v : Value} (ho : o.op = .mapEntry 117 x y) (hx : A.eval x = vx) (hy : A.eval y = vy) (hr : (Instr.mapEntry 117 vx vy).run Tryd.prog w = .ok v w') : (execOp A.eval o).run Tryd.prog w = .ok (.value v) w' := by
  unfold execOp
  simp only [ho, hx, hy, Sem.run_bind, hr, Result.andThen_ok, Sem.run_pure]
theorem wpList_entryStore {ops : Array Oper} {rest : List Oper} {o : Oper} {A : Act} {w : World} {Q : Exit → Act → World → Prop} {r : Nat} {kv v val : Value} (hgd : o.guard = none) (x s y : Operand) (ho : o.op = .entryStore 117 x s y) (hx : A.eval x = .map (some r)) (hs : A.eval s = .int .i64 0) (hy : A.eval y = val) (hb : w.heap[r]? = some (.map #[⟨kv, v, 0⟩] 1))
    (h : ∀ w', FlowB.ButIn [r] w w' → w'.heap[r]? = some (.map #[⟨kv, val, 0⟩] 1) → wpList Tryd.prog ops Q rest (A.put o.dst undef) w') : wpList Tryd.prog ops Q (o :: rest) A w :=
  wpList_plain hgd fun K hK => by
    unfold Oper.wp execOp
    simp only [ho, hx, hs, hy, Sem.run_bind, Sem.run_pure, Result.andThen_ok, run_entryStore_n hb, Oper.upon_skip]
    exact hK _ _ (h _ (setBlock_in _ _ _) (setBlock_at (Array.getElem?_eq_some_iff.1 hb).1 _))
theorem ent_size64 {a b : List Int} (ha : Dg a) (hb : Dg b) : (Tryd.prog.info? 25).map (·.size) = some (entL a b).length := by
  rw [show (entL a b).length = 64 by simp [entL, ha.len, hb.len]]; exact size_entry
set_option maxHeartbeats 4000000 in
set_option maxRecDepth 100000 in
theorem grow_twice (a : Option Addr) (cap : Nat) (es : List (List Int × List Int)) (d : List Int) (kl : Lit) (w : World) (hkey : keyOf Tryd.prog 23 (.agg (d.map (Value.int .u8)).toArray) = some kl) (hE : EntsAt w a 2 cap es) (hd : Dg d) (hs : ∀ j, j < 2 → (es.getD j ([], [])).1 = d) :
    Calls Tryd.prog 49 #[.slice a 2 cap] w fun e w' => e = .returned (.tuple #[.agg #[.slice none 0 0, .slice none 0 0], .int .i64 5]) ∧ Below w.heap.size w w' := by
  have HE := hid hE
  have HD := hid hd
  have Hsame := hid hs
  clear hE hs
  have b1 := (Below.refl w.heap.size w).alloc (Nat.le_refl _) (.cells #[.slice none 0 0, .slice none 0 0] 76 (0, 0))
  have Kf := hid (Blk.new (w := w) (n := w.heap.size) rfl #[.slice none 0 0, .slice none 0 0] 76)
  have Hb := hid b1
  have hbz := b1.size
  have Hbs := hid (show w.heap.size + 1 = (w.alloc (.cells #[.slice none 0 0, .slice none 0 0] 76 (0, 0))).heap.size by simp only [World.size_alloc])
  clear b1 
  have hmm : ∀ W : World, (Instr.makeMap 117 none).run Tryd.prog W = .ok (.map (some W.heap.size)) (W.alloc (.map #[] 0)) := fun W => run_makeMap _ W
  go_enter Tryd.func49, Tryd.ntmps49
  go_wp2_with fail
  have b1 := Hb.out.alloc Hb.out.size (.map #[] 0)
  have Kf1 := hid (Kf.out.old (.map #[] 0))
  have Hb1 := hid b1
  have hr1 : ((w.alloc (.cells #[.slice none 0 0, .slice none 0 0] 76 (0, 0))).alloc (.map #[] 0)).heap[w.heap.size + 1]? = some (.map #[] 0) := by
    rw [Hbs.out]
    exact World.alloc_heap_new _ _
  have HM1 := hid (show MapN (w.heap.size + 1) (.agg (d.map (Value.int .u8)).toArray) 0 ((w.alloc (.cells #[.slice none 0 0, .slice none 0 0] 76 (0, 0))).alloc (.map #[] 0)) from .inl ⟨rfl, hr1⟩)
  clear b1 hr1
  generalize hW1 : (w.alloc (.cells #[.slice none 0 0, .slice none 0 0] 76 (0, 0))).alloc (.map #[] 0) = w1 at *
  have hs1 := Hb1.out.size
  have hf1 := Kf1.out.lt
  go_loopw [15] (fun iv wr => ∃ j : Nat, j ≤ 1 ∧ iv = .int .i64 j ∧ Below w.heap.size w wr ∧ Blk wr w.heap.size #[.slice none 0 0, .slice none 0 0] 76 ∧ MapN (w.heap.size + 1) (.agg (d.map (Value.int .u8)).toArray) j wr) (fun iv _ => 2 - (intOf iv).toNat)
  case atStart => exact ⟨0, by omega, rfl, Hb1.out, Kf1.out, HM1.out⟩
  case round =>
    clear HM1 Kf1 Hb1
    obtain ⟨j, hj, rfl, bel, kf, mp⟩ := hrel
    have HBwr := hid bel
    have Kfwr := hid kf
    have HMwr := hid mp
    have hswr := bel.size
    have hrlt := mp.lt
    have hE := HE.out.below bel
    clear bel kf mp
    have hcI : (j : Int) < 2 := by omega
    obtain ⟨hE1, hE2, hE3, hE4 | ⟨x, o, rfl, hx, hc⟩⟩ := hE
    · omega
    have hRg := hid (hc j (by omega))
    rw [Hsame.out j (by omega)] at hRg
    have HCJ := hid (hE3 (es.getD j ([], [])) (by rw [List.getD_eq_getElem?_getD, List.getElem?_eq_getElem (by omega)]; exact List.getElem_mem _)).2
    generalize (es.getD j ([], [])).2 = c at *
    clear hc hE1 hE2 hE3
    go_wp2_with (first
       | (refine wpList_index_s 64 rfl 36 _ _ rfl Tryd.underlying36 size_entry x o 2 cap rfl _ _ rfl j rfl (by omega) ?_)
       | (refine wpList_load_mid rfl 25 _ rfl x (o + j * 64) rfl _ _ hRg.out Tryd.underlying25 rfl (by rw [List.length_map]; exact ent_size64 HD.out HCJ.out) ?_)
       | (
          refine wpList_store_blk rfl 25 _ _ rfl (wr.heap.size) ((entL d c).map (Value.int .u8)).toArray rfl rfl _ 25 (Blk.new rfl (byteCells 64 []) _) 64 size_entry zsize64 (two_size HD.out HCJ.out) (ints_one _ _) ?_
          intro w21 hbw21 hkw21
          have hw21 := hbw21.below ((Below.refl wr.heap.size wr).alloc (Nat.le_refl _) _) (by simp only [World.size_alloc]; omega) (Nat.le_refl _)
          have HBw21 := hid (Below.on HBwr.out hw21)
          have hsw21 := HBw21.out.size
          have Kfw21 := hid (Kfwr.out.below hw21)
          have hlfw21 := Kfwr.out.lt
          have Ktw21 := hid hkw21
          have hfw21 : w.heap.size ≤ wr.heap.size := HBwr.out.size
          have HM21 := hid (HMwr.out.below hw21)
          clear hbw21 hkw21 hw21))
    simp only [Act.put]
    have HF21 := hid (ent_front HD.out (b := c) Ktw21.out)
    have hrl := HM21.out.lt
    have hrt : ¬ wr.heap.size = w.heap.size + 1 := by omega
    refine FlowB.wp_region_flow_in (mapR_rel (w.heap.size + 1) (.agg (d.map (Value.int .u8)).toArray) j) (fun wz => MapN (w.heap.size + 1) (.agg (d.map (Value.int .u8)).toArray) j wz) 7 [0, 1, 2, 3, 4] [] [(.c 5, [6], [])] (by kernel_rfl) (by kernel_rfl) (fun _ h => h.1.size) HM21.out (fun _ _ h hb => h.below hb) ?_
    apply Exists.intro
    refine ⟨fun w0 hb0 hF0 => ?_, ?_⟩
    · skip
      have ml : ∀ w', (∃ x : Ext w0, w' = x.at_) → MapN (w.heap.size + 1) (.agg (d.map (Value.int .u8)).toArray) j w' := fun w' ⟨x, hx⟩ => hx ▸ (hb0.2 HM21.out).below x.same
      have zl : ∀ w', (∃ x : Ext w0, w' = x.at_) → w'.rangeAt wr.heap.size 0 (d.map (Value.int .u8)) := fun w' ⟨x, hx⟩ k v hv => by
        rw [hx]
        exact (x.same.cell (p := ⟨wr.heap.size, 0 + k, none⟩) (Nat.lt_of_lt_of_le Ktw21.out.lt hb0.1.size)).trans (hb0.1.cell Ktw21.out.lt (by simp only [List.mem_singleton]; exact hrt) (HF21.out k v hv))
      simp only [pick, List.getElem?_toArray, List.getElem?_cons_succ, List.getElem?_cons_zero, Option.toList_some, List.cons_append, List.nil_append]
      repeat (first | (go_big_quiet_want; refine quiet_load_mid 23 _ rfl wr.heap.size 0 rfl _ zl _ Tryd.underlying23 rfl (by rw [List.length_map, HD.out.len]; exact size_digest) ?_; go_big_quiet_on; simp only [Act.put, List.setIfInBounds_toArray, List.set_cons_zero, List.set_cons_succ]) | (go_big_quiet_want; refine quiet_lookup _ _ rfl rfl rfl hkey ml ?_; go_big_quiet_on; simp only [Act.put, List.setIfInBounds_toArray, List.set_cons_zero, List.set_cons_succ]) | go_big_quiet_step (fail))
      exact wpQuiet_nil rfl
    refine FlowB.AlChk.nil ?_
    refine FlowB.Walk.does rfl (fun v _ => v = .tuple #[.int .i64 j, .int .i64 0]) (fun _ w' => w'.heap[w.heap.size + 1]? = some (.map #[⟨.agg (d.map (Value.int .u8)).toArray, .int .i64 j, 0⟩] 1)) (fun v w' w'' _ h _ => h) (fun v w' w'' h k => by rw [k.block _ (Array.getElem?_eq_some_iff.1 h).1]; exact h) rfl (fun w1 hb1 hF1 hG1 => ?_) ?_
    · refine ⟨_, _, exec_mapEntry rfl rfl rfl (run_mapEntry_n hkey hG1), ⟨setBlock_in _ _ _, fun _ => .inr (setBlock_at hG1.lt _)⟩, rfl, setBlock_at hG1.lt _⟩
    rintro v1 w1 hb1 hF1 rfl
    apply Exists.intro
    refine ⟨fun w0 hb0 hF0 => ?_, ?_⟩
    · skip
      simp only [pick, List.getElem?_toArray, List.getElem?_cons_succ, List.getElem?_cons_zero, Option.toList_some, List.cons_append, List.nil_append, Act.put, List.setIfInBounds_toArray, List.set_cons_zero, List.set_cons_succ]
      repeat (go_big_quiet_step (fail))
      exact wpQuiet_nil rfl
    refine FlowB.AlChk.nil ?_
    refine FlowB.Walk.fin fun w30 h30 hF30 hG30 => ?_
    simp only [List.drop_succ_cons, List.drop_zero]
    have HB30 := hid (h30.1.below HBw21.out hsw21 (by simp only [List.mem_singleton, forall_eq]; omega))
    have Kf30 := hid (h30.1.blk Kfw21.out (by simp only [List.mem_singleton]; omega))
    have Kt30 := hid (h30.1.blk Ktw21.out (by simp only [List.mem_singleton]; exact hrt))
    have HG30 := hid hG30
    clear h30 hF30 hG30
    rcases (show j = 0 ∨ j = 1 by omega) with rfl | rfl
    · skip
      go_wp2_with (first
         | (
            refine wpList_entryStore rfl _ _ _ rfl rfl rfl rfl HG30.out ?_
            intro w40 hb40 hg40
            have HB40 := hid (hb40.below HB30.out HB30.out.size (by simp only [List.mem_singleton, forall_eq]; omega))
            have Kf40 := hid (hb40.blk Kf30.out (by simp only [List.mem_singleton]; omega))
            have Kt40 := hid (hb40.blk Kt30.out (by simp only [List.mem_singleton]; exact hrt))
            have HM40 := hid (show MapN (w.heap.size + 1) (.agg (d.map (Value.int .u8)).toArray) (0 + 1) w40 from .inr hg40)
            have HF40 := hid (ent_front HD.out (b := c) Kt40.out)
            have hlk := run_lookup_n hkey HM40.out
            clear hb40 hg40)
         | (refine wpList_load_mid rfl 23 _ rfl wr.heap.size 0 rfl _ _ HF40.out Tryd.underlying23 rfl (by rw [List.length_map, HD.out.len]; exact size_digest) ?_))
      exact ⟨⟨1, by omega, by first | rfl | simp, HB40.out, Kf40.out, HM40.out⟩, by simp [intOf]⟩
    · skip
      go_wp2_with (first
         | (
            refine wpList_entryStore rfl _ _ _ rfl rfl rfl rfl HG30.out ?_
            intro w40 hb40 hg40
            have HB40 := hid (hb40.below HB30.out HB30.out.size (by simp only [List.mem_singleton, forall_eq]; omega))
            have Kf40 := hid (hb40.blk Kf30.out (by simp only [List.mem_singleton]; omega))
            have Kt40 := hid (hb40.blk Kt30.out (by simp only [List.mem_singleton]; exact hrt))
            have HM40 := hid (show MapN (w.heap.size + 1) (.agg (d.map (Value.int .u8)).toArray) (1 + 1) w40 from .inr hg40)
            have HF40 := hid (ent_front HD.out (b := c) Kt40.out)
            have hlk := run_lookup_n hkey HM40.out
            have q0w61 := (Kf40.out.cell 0).trans (show _ = some _ from rfl)
            have r0w61 := Kf40.out.free 0
            have q1w61 := (Kf40.out.cell 1).trans (show _ = some _ from rfl)
            have r1w61 := Kf40.out.free 1
            have Kfw61 : Hid (Blk ((w40.setCell ⟨w.heap.size, 0, none⟩ (.slice none 0 0)).setCell ⟨w.heap.size, 1, none⟩ (.slice none 0 0)) (w.heap.size) #[.slice none 0 0, .slice none 0 0] 76) := hid (Blk.setAll_self Kf40.out [.slice none 0 0, .slice none 0 0] rfl)
            have HBw61 : Hid (Below w.heap.size w ((w40.setCell ⟨w.heap.size, 0, none⟩ (.slice none 0 0)).setCell ⟨w.heap.size, 1, none⟩ (.slice none 0 0))) := hid (Below.setAll (by omega) [.slice none 0 0, .slice none 0 0] 0 _ HB40.out)
            have hsw61 := HBw61.out.size
            clear hb40 hg40)
         | (refine wpList_load_mid rfl 23 _ rfl wr.heap.size 0 rfl _ _ HF40.out Tryd.underlying23 rfl (by rw [List.length_map, HD.out.len]; exact size_digest) ?_))
      exact bodyPost_ret (v := .tuple #[.agg #[.slice none 0 0, .slice none 0 0], .int .i64 5]) (results_blk_tmp Tryd.results49 _ (w.heap.size) rfl _ rfl _ 76 Kfw61.out _ Tryd.underlying76 rfl 2 size_forest rfl) rfl ⟨rfl, HBw61.out⟩
end Go.Proofs.YthaicocfbmpnmaaDoor
