/-
  Put together, as far as wanted: EPrH EPrX EPrY EPrI EPrJ EPrKM ExA ExB ExC ExE ENPair ExF ExG ExH ExI ExJ ExK ExO ExQ ExV.
-/
import Derived.Test.YtkakoiaahgchmaaDoorPX2
namespace Go.Proofs.YtkakoiaahgchmaaDoor
set_option maxRecDepth 100000
open Go.ChangeShapes Go.WideShapes Go.ChangeAt Go.RowKit
set_option maxHeartbeats 4000000 in
theorem absent_any (o i d : List Int) (ad : Option Addr) (len cap : Nat) (ns : List (List Int)) (b : Bool) (w : World) (ho : Dg o) (hi : Dg i) (hd : Dg d) (hns : DigsAt w ad len cap ns) (tab : ShaTab w)
    (cl : ∀ W : World, DigsAt W ad len cap ns → ShaTab W → Calls Tryd.prog 52 #[.agg ((emptyL 0).map (Value.int .u8)).toArray, .agg (o.map (Value.int .u8)).toArray, .agg (i.map (Value.int .u8)).toArray, .agg (prC d (.slice ad len cap)).toArray] W fun e w' => e = .returned (.bool b) ∧ Below W.heap.size W w') :
    Calls Tryd.prog 24 #[.agg (o.map (Value.int .u8)).toArray, .agg (i.map (Value.int .u8)).toArray, .agg (prC d (.slice ad len cap)).toArray] w fun e w' => e = .returned (.bool b) ∧ Below w.heap.size w w' := by
  have CE := hid (fun (W : World) (t : ShaTab W) => empty_any W t)
  have CD := hid cl
  have Hds := hid (empN_each 257)
  have Hlen := hid (empN_length 257)
  have Hget := hid (empN_get (n := 257) (k := 0) (by omega))
  have HE := hid (Dg.emptyL 0)
  clear cl
  generalize empN 257 = ds at *
  generalize emptyL 0 = E at *
  have b1 := (Below.refl w.heap.size w).alloc (Nat.le_refl _) (.cells (o.map (Value.int .u8)).toArray 23 (0, 0))
  have b2 := b1.alloc b1.size (.cells (i.map (Value.int .u8)).toArray 23 (0, 0))
  have b3 := b2.alloc b2.size (.cells (prC d (.slice ad len cap)).toArray 26 (0, 0))
  have Ko := hid (((Blk.new (w := w) (n := w.heap.size) rfl (o.map (Value.int .u8)).toArray 23).old (.cells (i.map (Value.int .u8)).toArray 23 (0, 0))).old (.cells (prC d (.slice ad len cap)).toArray 26 (0, 0)))
  have Ki := hid ((Blk.new (w := (w.alloc (.cells (o.map (Value.int .u8)).toArray 23 (0, 0)))) (n := w.heap.size + 1) (by simp only [World.size_alloc]) (i.map (Value.int .u8)).toArray 23).old (.cells (prC d (.slice ad len cap)).toArray 26 (0, 0)))
  have Kp := hid (Blk.new (w := ((w.alloc (.cells (o.map (Value.int .u8)).toArray 23 (0, 0))).alloc (.cells (i.map (Value.int .u8)).toArray 23 (0, 0)))) (n := w.heap.size + 1 + 1) (by simp only [World.size_alloc]) (prC d (.slice ad len cap)).toArray 26)
  have Hb := hid b3
  have hbz := b3.size
  have Hbs := hid (show w.heap.size + 1 + 1 + 1 = (((w.alloc (.cells (o.map (Value.int .u8)).toArray 23 (0, 0))).alloc (.cells (i.map (Value.int .u8)).toArray 23 (0, 0))).alloc (.cells (prC d (.slice ad len cap)).toArray 26 (0, 0))).heap.size by simp only [World.size_alloc])
  have Htab := hid tab
  clear b1 b2 b3 tab 
  go_enter Tryd.func24, Tryd.ntmps24
  go_wp2_with fail
  refine wp_region_flow 7 [3, 4, 5] [] [(.c 0, [1, 2, 6], [])] (by kernel_rfl) (by kernel_rfl) ?_
  apply Exists.intro
  refine ⟨fun w0 hb0 hF0 => ?_, ?_⟩
  · skip
    have x0 : ∀ w', (∃ x : Ext w0, w' = x.at_) → ∃ T, Blk w' (w.heap.size) (o.map (Value.int .u8)).toArray T := fun w' ⟨x, hx⟩ => ⟨_, hx ▸ (Ko.out.below hb0).below x.same⟩
    have x1 : ∀ w', (∃ x : Ext w0, w' = x.at_) → ∃ T, Blk w' (w.heap.size + 1) (i.map (Value.int .u8)).toArray T := fun w' ⟨x, hx⟩ => ⟨_, hx ▸ (Ki.out.below hb0).below x.same⟩
    have x2 : ∀ w', (∃ x : Ext w0, w' = x.at_) → ∃ T, Blk w' (w.heap.size + 1 + 1) (prC d (.slice ad len cap)).toArray T := fun w' ⟨x, hx⟩ => ⟨_, hx ▸ (Kp.out.below hb0).below x.same⟩
    simp only [pick, List.getElem?_toArray, List.getElem?_cons_succ, List.getElem?_cons_zero, Option.toList_some, List.cons_append, List.nil_append]
    repeat (first | (go_big_quiet_want; refine quiet_load_blk 23 _ rfl (w.heap.size) rfl _ x0 _ Tryd.underlying23 rfl 32 size_digest ho.size ?_; go_big_quiet_on; simp only [Act.put, List.setIfInBounds_toArray, List.set_cons_zero, List.set_cons_succ]) | (go_big_quiet_want; refine quiet_load_blk 23 _ rfl (w.heap.size + 1) rfl _ x1 _ Tryd.underlying23 rfl 32 size_digest hi.size ?_; go_big_quiet_on; simp only [Act.put, List.setIfInBounds_toArray, List.set_cons_zero, List.set_cons_succ]) | (go_big_quiet_want; refine quiet_load_blk 26 _ rfl (w.heap.size + 1 + 1) rfl _ x2 _ Tryd.underlying26 rfl 33 size_proof (prC_size hd _) ?_; go_big_quiet_on; simp only [Act.put, List.setIfInBounds_toArray, List.set_cons_zero, List.set_cons_succ]) | go_big_quiet_step (fail))
    exact wpQuiet_nil rfl
  refine AlChk.nil ?_
  refine Walk.call rfl 32 #[] (fun v w' => ∃ g, v = .slice (some ⟨g, 0, none⟩) 257 257 ∧ Blk w' g (dcs ds) 23) (fun v w' w'' h k => by obtain ⟨g, h1, h2⟩ := h; exact ⟨g, h1, h2.below k⟩) rfl (fun w1 hb1 hF1 => ⟨by go_simp, ?_⟩) ?_
  · refine (CE.out w1 (Htab.out.below (Below.on Hb.out hb1))).mono ?_
    rintro e w2 ⟨rfl, b2, k2⟩
    exact ⟨_, rfl, b2, _, rfl, k2⟩
  rintro v0 w1 hb1 hF1 ⟨g, rfl, _⟩
  apply Exists.intro
  refine ⟨fun w0 hb0 hF0 => ?_, ?_⟩
  · skip
    obtain ⟨_, g', hg', kg⟩ := hF0
    cases hg'
    have yr : ∀ w', (∃ x : Ext w0, w' = x.at_) → w'.rangeAt g (0 + 0 * 32) (E.map (Value.int .u8)) := fun w' ⟨x, hx⟩ => by
      have h := dig_rng (kg.below x.same) Hds.out (j := 0) (by rw [Hlen.out]; omega)
      rw [Hget.out] at h
      rw [hx]
      exact h
    have c0 := fun e : Ext w0 => CD.out e.at_ (hns.below (Below.on (Below.on Hb.out hb0) e.same)) (Htab.out.below (Below.on (Below.on Hb.out hb0) e.same))
    simp only [pick, List.getElem?_toArray, List.getElem?_cons_succ, List.getElem?_cons_zero, Option.toList_some, List.cons_append, List.nil_append, Act.put, List.setIfInBounds_toArray, List.set_cons_zero, List.set_cons_succ]
    repeat (first | (go_big_quiet_want; refine quiet_index_digs 24 _ _ rfl Tryd.underlying24 size_digest g 0 257 257 rfl _ _ rfl 0 rfl (by omega) ?_; go_big_quiet_on; simp only [Act.put, List.setIfInBounds_toArray, List.set_cons_zero, List.set_cons_succ]) | (go_big_quiet_want; refine quiet_load_mid 23 _ rfl g (0 + 0 * 32) rfl _ yr _ Tryd.underlying23 rfl (by rw [List.length_map, HE.out.len]; exact size_digest) ?_; go_big_quiet_on; simp only [Act.put, List.setIfInBounds_toArray, List.set_cons_zero, List.set_cons_succ]) | go_big_quiet_step (first | (go_at_call 52; with_reducible exact Calls.ext (c0 _))))
    exact wpQuiet_nil rfl
  refine AlChk.nil ?_
  refine Walk.fin fun w5 h5 hF5 _ => ?_
  simp only [List.drop_succ_cons, List.drop_zero]
  have HB5 := hid (Below.on Hb.out h5)
  clear h5 hF5
  go_wp2_with fail
  go_returns
  exact ⟨rfl, HB5.out⟩
end Go.Proofs.YtkakoiaahgchmaaDoor
namespace Go.Proofs.YtkakoiaahgchmaaDoor
set_option maxRecDepth 100000
open Go.ChangeShapes Go.WideShapes Go.ChangeAt Go.RowKit
theorem digs_cells {H : Type} {enc : TypeId × Value → H} {P : Program} {W : World} {n : Nat} {t e q : TypeId} {cs : List Value} {x : DataW H × List MemPlace} (hu : P.underlying t = some (.slice e)) (he : P.underlying e = some (.array 32 q)) (hq : P.underlying q = some (.int .u8))
    (ce : P.cellsOf e = 32) (cq : P.cellsOf q = 1) (h : DataW.trod enc P W 0 (fun _ => true) true n t cs = some x) :
    ∃ (a : Option Addr) (len cap : Nat) (ds : List (List Int)), cs = [.slice a len cap] ∧ DigsAt W a len cap ds := by
  rcases Go.Deep.open_slice hu h with ⟨rfl, _⟩ | ⟨x, len, cap, m, n, D, Pl, rfl, _, hl, hm, hmm, _, hall⟩
  · exact ⟨none, 0, 0, [], rfl, DigsAt.nil W⟩
  · obtain ⟨b, off, s⟩ := x
    simp only [if_true] at hmm
    have hall' : ∀ i, i < cap → ∃ dd : List Int, Dg dd ∧ W.cells? 0 ((⟨b, off, s⟩ : Addr).add (i * 32)) 32 = some (dd.map (Value.int .u8)) := fun i hi => by
      obtain ⟨cs', h1, h2⟩ := hall i (by omega)
      rw [ce] at h1
      obtain ⟨dd, h3, rfl⟩ := digest_cells he hq ce cq h2
      exact ⟨dd, h3, h1⟩
    let f : Nat → List Int := fun i => if h : i < cap then Classical.choose (hall' i h) else []
    have hf : ∀ i, i < cap → Dg (f i) ∧ W.cells? 0 ((⟨b, off, s⟩ : Addr).add (i * 32)) 32 = some ((f i).map (Value.int .u8)) := fun i hi => by
      simp only [f, hi, dif_pos]
      exact Classical.choose_spec (hall' i hi)
    refine ⟨_, len, cap, (List.range len).map f, rfl, ⟨by simp, hl, by unfold maxLen at hm; omega, fun d hd => ?_, .inr ⟨b, off, s, rfl, fun i hi => ?_⟩⟩⟩
    · simp only [List.mem_map, List.mem_range] at hd
      obtain ⟨i, hi, rfl⟩ := hd
      exact (hf i (by omega)).1
    · have hc := (World.cells?_some (hf i (by omega)).2).2.2
      have h0 := (World.cells?_some (hf 0 (by omega)).2).2.2 0 (by omega)
      have hl0 := (hf 0 (by omega)).1.len
      have hli := (hf i (by omega)).1.len
      rw [List.getElem?_map, List.getElem?_eq_getElem (by omega)] at h0
      have hs : s = none := by
        have := World.cell?_spot h0
        simpa [Addr.add] using this
      subst hs
      have hx : b < W.heap.size := by
        rw [Addr.add_mid, Addr.add_mid] at h0
        exact World.block_lt_of_cell? W _ h0
      refine ⟨rfl, hx, fun k v hv => ?_⟩
      have e : ((List.range len).map f).getD i [] = f i := by simp [hi]
      rw [e] at hv
      have hk : k < 32 := by
        have := (List.getElem?_eq_some_iff.1 hv).1
        simp only [List.length_map, hli] at this
        exact this
      have := hc k hk
      rw [Addr.add_mid, Addr.add_mid] at this
      rw [this]
      exact hv
end Go.Proofs.YtkakoiaahgchmaaDoor
namespace Go.Proofs.YtkakoiaahgchmaaDoor
set_option maxRecDepth 100000
open Go.ChangeShapes Go.WideShapes Go.ChangeAt Go.RowKit
set_option maxHeartbeats 4000000 in
theorem siblings_any (d : List Int) (ad : Option Addr) (len cap : Nat) (w : World) :
    Calls Tryd.prog 62 #[.agg (prC d (.slice ad len cap)).toArray] w fun e w' => e = .returned (.func (.func 83) #[] #[.pointer (some ⟨w.heap.size, 0, none⟩)]) ∧ Below w.heap.size w w' ∧ Blk w' w.heap.size (prC d (.slice ad len cap)).toArray 26 := by
  have b1 := (Below.refl w.heap.size w).alloc (Nat.le_refl _) (.cells (prC d (.slice ad len cap)).toArray 26 (0, 0))
  have Kp := hid (Blk.new (w := w) (n := w.heap.size) rfl (prC d (.slice ad len cap)).toArray 26)
  have Hb := hid b1
  have hbz := b1.size
  have Hbs := hid (show w.heap.size + 1 = (w.alloc (.cells (prC d (.slice ad len cap)).toArray 26 (0, 0))).heap.size by simp only [World.size_alloc])
  clear b1 
  go_enter Tryd.func62, Tryd.ntmps62
  go_wp2_with fail
  go_returns
  exact ⟨rfl, Hb.out, Kp.out⟩
end Go.Proofs.YtkakoiaahgchmaaDoor
namespace Go.Proofs.YtkakoiaahgchmaaDoor
set_option maxRecDepth 100000
open Go.ChangeShapes Go.WideShapes Go.ChangeAt Go.RowKit Go.Shelf
/-- Below block b all is as it was; from there on all cells are, but those of block b. -/
structure KeepC (b : Nat) (W W' : World) : Prop where
  low : Below b W W'
  same : ∀ (k : Nat) (o : Obj), k ≠ b → W.heap[k]? = some o → o.isCells = true → W'.heap[k]? = some o
theorem KeepC.trans {b : Nat} {X Y Z : World} (h : KeepC b X Y) (k : KeepC b Y Z) : KeepC b X Z := ⟨h.low.trans k.low, fun i o hi hx ho => k.same i o hi (h.same i o hi hx ho) ho⟩
theorem KeepC.of_below {b : Nat} {W W' : World} (hb : b ≤ W.heap.size) (h : Below W.heap.size W W') : KeepC b W W' :=
  ⟨h.mono hb, fun _ _ _ hk _ => (h.block _ (Array.getElem?_eq_some_iff.1 hk).1).trans hk⟩
theorem KeepC.of_but {b : Nat} {W W' : World} (hb : b ≤ W.heap.size) (h : But b W W') : KeepC b W W' :=
  ⟨⟨h.os, h.tape, h.output, h.size, fun k hk => h.block k (by omega) (by omega)⟩, fun _ _ hne hk _ => (h.block _ (Array.getElem?_eq_some_iff.1 hk).1 hne).trans hk⟩
theorem KeepC.putObj {b n : Nat} (hb : b ≤ n) (W : World) (l : Nat) (o o' : Obj) (hn : n ≤ l) (h : W.heap[l]? = some o) (ho : o.isCells = false) : KeepC b W (W.putObj l o') :=
  ⟨(Below.refl b W).grown (grownBy_putObj' W l o') (by have := (Array.getElem?_eq_some_iff.1 h).1; omega) (fun k e => by cases e; omega), fun k q _ hk hq => by
    by_cases e : k = l
    · subst e; rw [h] at hk; cases hk; rw [ho] at hq; cases hq
    · exact (World.putObj_heap_other e).trans hk⟩
theorem KeepC.blk {b n : Nat} {W W' : World} {cs : Array Value} {T : TypeId} (h : KeepC b W W') (k : Blk W n cs T) (hne : n ≠ b) : Blk W' n cs T := h.same n _ hne k rfl
theorem keepsFrom_below {B : Nat} {W W' : World} (h : Below W.heap.size W W') : KeepsFrom B W W' :=
  ⟨h.size, fun _ _ _ hk _ => (h.block _ (Array.getElem?_eq_some_iff.1 hk).1).trans hk⟩
theorem keepsFrom_but {b B : Nat} {W W' : World} (hb : b < B) (h : But b W W') : KeepsFrom B W W' :=
  ⟨h.size, fun _ _ hB hk _ => (h.block _ (Array.getElem?_eq_some_iff.1 hk).1 (by omega)).trans hk⟩
def noDefer (o : Oper) : Bool := match o.op with | .defer _ => false | _ => true
theorem noDefer_ne {o : Oper} (h : noDefer o = true) : ∀ c, o.op ≠ .defer c := fun c hc => by
  unfold noDefer at h
  rw [hc] at h
  cases h
theorem callsIn_any {F : Fence} (hF : F.plain = Fence.wide) {n : Nat} {P : Program} {f : FuncId} {args : Array Value} {w : World} {R : Ending → World → Prop} (h : Calls P f args w R) : CallsIn F n P f args w R := by
  have h1 : CallsIn F.plain n P f args w R := by rw [hF]; exact callsIn_wide.2 h
  exact h1
theorem rowsIn_any {F : Fence} (hF : F.plain = Fence.wide) {n : Nat} {P : Program} {row : String} {args : Array Value} {w : World} {R : Value → World → Prop} (h : Rows P row args w R) : RowsIn F n P row args w R := by
  have h1 : RowsIn F.plain n P row args w R := by
    rw [hF]
    intro c cs _
    obtain ⟨v, w1, h1, s1⟩ := h c cs
    exact ⟨v, w1, h1, stepsIn_wide.2 s1⟩
  exact h1
theorem wpListIn_pre {F : Fence} (hF : F.plain = Fence.wide) {n : Nat} {P : Program} {ops : Array Oper} {Q : Exit → Act → World → Prop} (rest : List Oper) : ∀ (L : List Oper) (a : Act) (w : World), L.all noDefer = true → wpList P ops (fun e a w => e = .normal ∧ wpListIn F n P ops Q rest a w) L a w → wpListIn F n P ops Q (L ++ rest) a w
  | [], _, _, _, h => h.2
  | o :: L, a, w, hnd, h => by
    have hfn : ∀ f, F.fn f := fun f => by
      have h1 : F.plain.fn f := by rw [hF]; trivial
      exact h1
    have hdp : F.depth = none := by
      have h1 : F.plain.depth = none := by rw [hF]; rfl
      exact h1
    rw [List.all_cons, Bool.and_eq_true] at hnd
    have ih := fun a w => wpListIn_pre hF (P := P) (ops := ops) (Q := Q) (n := n) rest L a w hnd.2
    have hout : ¬ LetsOut (fun e a w => e = Exit.normal ∧ wpListIn F n P ops Q rest a w) := fun ⟨_, _, h, _⟩ => by cases h
    unfold wpList at h
    rw [List.cons_append]
    unfold wpListIn
    split at h
    · rename_i hw
      rw [if_pos hw]
      rcases h with h | ⟨_, h⟩
      · refine ⟨fun f _ => hfn f, ?_⟩
        rw [Oper.semAt_plain F _ _ (noDefer_ne hnd.1)]
        unfold Oper.wp at h
        revert h
        generalize (execOp a.eval o).run P w = r
        intro h
        unfold Oper.upon at h
        split at h
        · exact ih _ _ h
        · exact ih _ _ h
        · exact ih _ _ h
        · refine ⟨fun h => (by rw [hdp] at h; cases h), callsIn_any hF (h.mono ?_)⟩
          intro e w1 h1
          cases e with
          | returned v => exact ih _ _ h1
          | panicked c => exact absurd h1.1 (by simp)
          | outgrown => exact (hout h1).elim
        · refine ⟨fun h => (by rw [hdp] at h; cases h), ?_⟩
          exact rowsIn_any hF (h.mono fun v w1 h1 => ih _ _ h1)
        · exact absurd h.1 (by simp)
        · exact h.elim
      · exact (hout h).elim
    · rename_i hw
      rw [if_neg hw]
      exact ⟨fun f _ => hfn f, ih _ _ h⟩
theorem wpListIn_any {F : Fence} (hF : F.plain = Fence.wide) {n : Nat} {P : Program} {ops : Array Oper} {Q : Exit → Act → World → Prop} (L : List Oper) (a : Act) (w : World) (hnd : L.all noDefer = true) (h : wpList P ops (fun e a w => e = .normal ∧ Q .normal a w) L a w) : wpListIn F n P ops Q L a w := by
  have := wpListIn_pre hF (P := P) (ops := ops) (Q := Q) (n := n) [] L a w hnd h
  rwa [List.append_nil] at this
theorem wpListIn_one {F : Fence} (hF : F.plain = Fence.wide) {n : Nat} {P : Program} {ops : Array Oper} {Q : Exit → Act → World → Prop} {rest : List Oper} {o : Oper} {a : Act} {w : World} (hnd : noDefer o = true) (h : wpList P ops (fun e a w => e = .normal ∧ wpListIn F n P ops Q rest a w) [o] a w) : wpListIn F n P ops Q (o :: rest) a w :=
  wpListIn_pre hF rest [o] a w (by simp [hnd]) h
/-- A region within a range over a function, walked as anywhere. -/
theorem wpIn_region_as {F : Fence} (hF : F.plain = Fence.wide) {n id : Nat} {P : Program} {L : List Oper} {Q : Exit → Act → World → Prop} {a : Act} {w : World} (hnd : L.all noDefer = true) (h : wpList P L.toArray (fun e a w => e = .normal ∧ Q .normal a w) L a w) : (Code.region id L.toArray false).wpIn F n P Q a w :=
  wpIn_region_lit (wpListIn_any hF L a w hnd h)
theorem grown_below {w w' : World} (h : Below w.heap.size w w') : w.grownBy w' none := ⟨h.os, h.tape, h.output, h.size, fun k hk _ => h.block k hk⟩
/-- The places up to k. -/
def upF (k : Nat) : List (Fin 256) := (List.finRange 256).take k
theorem upF_succ {k : Nat} (hk : k < 256) : upF (k + 1) = upF k ++ [⟨k, hk⟩] := by
  unfold upF
  rw [List.take_add_one, List.getElem?_eq_getElem (by rw [List.length_finRange]; exact hk)]
  simp
theorem upF_length {k : Nat} (hk : k ≤ 256) : (upF k).length = k := by
  unfold upF
  rw [List.length_take, List.length_finRange]
  omega
/-- Where one has come to when these places are climbed. -/
def foldC (d i : List Int) (ns : List (List Int)) (x : List Int) (pre : List (Fin 256)) : List Int := pre.foldl (fun X (k : Fin 256) => stepL i k.1 X (sibL d ns k.1)) x
theorem foldC_snoc (d i : List Int) (ns : List (List Int)) (x : List Int) (pre : List (Fin 256)) (k : Fin 256) : foldC d i ns x (pre ++ [k]) = stepL i k.1 (foldC d i ns x pre) (sibL d ns k.1) := by
  simp [foldC]
theorem foldC_up (d i : List Int) (ns : List (List Int)) (x : List Int) : ∀ {k : Nat}, k ≤ 256 → foldC d i ns x (upF k) = climbK d i ns x k
  | 0, _ => rfl
  | k + 1, h => by rw [upF_succ (by omega), foldC_snoc, foldC_up d i ns x (by omega)]; rfl
theorem Dg.foldC {x : List Int} (hx : Dg x) (d i : List Int) (ns : List (List Int)) (pre : List (Fin 256)) : Dg (foldC d i ns x pre) := by
  rcases List.eq_nil_or_concat pre with rfl | ⟨l, a, rfl⟩
  · exact hx
  · rw [List.concat_eq_append, foldC_snoc]; exact Dg.stepL _ _ _ _
theorem Dg.sibL {w : World} {d : List Int} {ad : Option Addr} {len cap : Nat} {ns : List (List Int)} (hn : knN d 256 = len) (hns : DigsAt w ad len cap ns) {k : Nat} (hk : k < 256) : Dg (sibL d ns k) := by
  unfold Go.Proofs.YtkakoiaahgchmaaDoor.sibL
  split
  · rename_i h
    have h1 : knN d (k + 1) = knN d k + (if knB d k then 1 else 0) := rfl
    rw [if_pos h] at h1
    have h2 := knN_mono d (show k + 1 ≤ 256 by omega)
    exact Dg.getD hns.each (by rw [hns.length]; omega)
  · exact Dg.emptyL k
end Go.Proofs.YtkakoiaahgchmaaDoor
namespace Go.Proofs.YtkakoiaahgchmaaDoor
set_option maxRecDepth 100000
open Go.ChangeShapes Go.WideShapes Go.ChangeAt Go.RowKit Go.Shelf
attribute [local go_sem] Oper.semAt_some
theorem quiet_cut_l {op : Oper} {a : Act} {C : World → Prop} {K : Act → Prop} (x y : Operand) (ho : op.op = .slice 24 x (some y) none none) (a0 : Option Addr) (len cap n : Nat) (v : Int) (hx : a.eval x = .slice a0 len cap) (hy : a.eval y = .int .i64 v) (hv : v = n) (hn : n ≤ len)
    (h : K (a.put op.dst (.slice (cutD a0 n cap) (len - n) (cap - n)))) : op.quiet Tryd.prog a C K :=
  ⟨.slice (cutD a0 n cap) (len - n) (cap - n), fun w' _ => by
    subst hv
    have hr := run_cutd_l (P := Tryd.prog) Tryd.underlying24 size_digest a0 len cap (n : Int) w' (by omega) (by omega)
    rw [Int.toNat_natCast] at hr
    have he : Tryd.prog.elem 24 = 23 := by simp [Program.elem, Tryd.underlying24]
    have hs := run_sliceAt_slice (P := Tryd.prog) (w := w') 24 (.slice a0 len cap) (some (.int .i64 n)) none none (by rw [he]; exact Tryd.underlying24)
    rw [hr] at hs
    unfold Oper.quietAt execOp
    simp only [ho, hx, hy, Option.map_none, Option.map_some, Sem.run_bind, Sem.run_pure, Result.andThen_ok, hs]
    simp [Oper.quietUpon], h⟩
theorem cut_one {w : World} {a : Option Addr} {len cap q : Nat} {ns : List (List Int)} (h : DigsAt w a (len - q) (cap - q) (ns.drop q)) (hq : q + 1 ≤ len) : DigsAt w (cutD a 1 (cap - q)) (len - (q + 1)) (cap - (q + 1)) (ns.drop (q + 1)) := by
  have h1 := h.cut 1 (len - q) (by omega) (Nat.le_refl _)
  rw [List.drop_drop, List.take_of_length_le (by have := h.length; rw [List.length_drop] at this; rw [List.length_drop]; omega), Nat.sub_sub, Nat.sub_sub, show q + 1 = q + 1 from rfl] at h1
  exact h1
set_option maxHeartbeats 4000000 in
theorem siblings_stops (n : Nat) (d : List Int) (ad : Option Addr) (len cap : Nat) (ns : List (List Int)) (pb : Nat) (w W0 : World) (hd : Dg d) (hn : knN d 256 = len) (hns : DigsAt w ad len cap ns) (hB : Below w.heap.size w W0) (hpb : w.heap.size < pb) (hk : Blk W0 pb (prC d (.slice ad len cap)).toArray 26) (tab : ShaTab W0) :
    SeqStopsK Fence.wide n Tryd.prog 83 #[.pointer (some ⟨pb, 0, none⟩)] (fun k : Fin 256 => #[.int .i64 (k.1 : Int), .agg ((sibL d ns k.1).map (Value.int .u8)).toArray]) (KeepC w.heap.size) (fun ys => ys = upF 256) (fun pre => ∃ k, k ≤ 256 ∧ pre = upF k) 256 W0 := fun l J Jx W hW hJ hJx hY h0 => by
  have HK := hid (hk.below hW)
  have HB := hid (Below.on hB hW)
  have HT := hid (tab.below hW)
  have HNS := hid hns
  have HY := hid hY
  have HJ := hid hJ
  have H0 := hid h0
  have hpl := HK.out.lt
  have hws := HB.out.size
  have CE := hid (fun (W : World) (t : ShaTab W) => empty_any W t)
  have hEe := hid (empN_each 257)
  have hEl := hid (empN_length 257)
  have hEg := hid (fun (k : Nat) (h : k < 257) => empN_get (n := 257) (k := k) h)
  generalize empN 257 = es at *
  have c1 : W.cell? ⟨pb, 32, none⟩ = some (.slice ad len cap) := prC_nodes hd HK.out
  clear hW hB tab hns hY hJ hJx h0 hk
  refine callsIn_of_wp Tryd.func83 rfl trivial ?_ rfl
  simp only [Tryd.ntmps83, List.size_toArray, List.length_cons, List.length_nil, Nat.reduceAdd, Nat.reduceSub, Array.replicate_succ, Array.replicate_zero, List.push_toArray, List.append_toArray, List.nil_append, List.cons_append]
  apply wpIn_seq_k
  intro _ _
  refine wpIn_region_as rfl rfl ?_
  go_wp2_with fail
  apply wpIn_seq_k
  intro _ _
  refine wpIn_region_as rfl rfl ?_
  go_wp2_with fail
  refine (CE.out _ HT.out).mono ?_
  rintro e w1 ⟨rfl, b1, k1⟩
  have HK1 := hid (HK.out.below b1)
  have HB1 := hid (Below.on HB.out b1)
  have hb1s := b1.size
  have HG1 := hid k1
  have HJ1 := hid (HJ.out [] W w1 none H0.out (grown_below b1) (by intro r e; cases e))
  have hcut : ∀ W' : World, (Instr.slice 24 (.slice (some ⟨W.heap.size, 0, none⟩) 257 257) none (some (.int .i64 256)) none).run Tryd.prog W' = .ok (.slice (some ⟨W.heap.size, 0, none⟩) 256 257) W' := fun W' => by
    have h := run_cutd_h (P := Tryd.prog) Tryd.underlying24 size_digest (some ⟨W.heap.size, 0, none⟩) 257 257 256 W' (by omega) (by omega)
    exact h
  clear b1 k1 c1
  go_wp2_with fail
  apply wpIn_block
  gi_loopw [3, 11] (fun rv kv wr => ∃ k : Nat, k ≤ 256 ∧ kv = .int .i64 k ∧ (∃ ra, rv = .slice ra (len - knN d k) (cap - knN d k) ∧ DigsAt w ra (len - knN d k) (cap - knN d k) (ns.drop (knN d k))) ∧ J (upF k) wr ∧ Below w.heap.size w wr ∧ Blk wr pb (prC d (.slice ad len cap)).toArray 26 ∧ Blk wr W.heap.size (dcs es) 23) (fun _ kv _ => 256 - (intOf kv).toNat)
  case atStart => exact ⟨0, Nat.zero_le _, rfl, ⟨ad, rfl, by rw [show knN d 0 = 0 from rfl]; exact HNS.out⟩, HJ1.out, HB1.out, HK1.out, HG1.out⟩
  case round =>
    obtain ⟨k, hk, rfl, ⟨ra, rfl, hra⟩, hj, bel, kp, kg⟩ := hrel
    have HRA := hid hra
    have HKr := hid kp
    have HGr := hid kg
    have HBr := hid bel
    have HJr := hid hj
    have hsr := bel.size
    have hplr := kp.lt
    have hglr := kg.lt
    clear kp kg bel hj hra
    by_cases hlt : k < 256
    · skip
      have hc0 : (k : Int) < 256 := by omega
      apply wpIn_seq_k
      intro _ _
      refine wpIn_region_as rfl rfl ?_
      go_wp2_with fail
      apply wpIn_seq_k
      intro _ _
      refine wpIn_cond_true rfl ?_
      apply wpIn_skip
      gi_step
      gi_step
      apply wpIn_seq_k
      intro _ _
      apply wpIn_block
      apply wpIn_seq_k
      intro _ _
      have hE : es.getD k [] = emptyL k := hEg.out k (by omega)
      have HE := hid (Dg.emptyL k)
      have Hr0 := hid (by have h := dig_rng HGr.out hEe.out (j := k) (by rw [hEl.out]; omega); rw [hE] at h; exact h)
      clear hE
      refine wpIn_region_as rfl rfl ?_
      go_wp2_with (first
               | (refine wpList_index_digs rfl 24 _ _ rfl Tryd.underlying24 size_digest W.heap.size 0 256 257 rfl _ _ rfl k rfl (by omega) ?_)
               | (refine wpList_load_mid rfl 23 _ rfl W.heap.size (0 + k * 32) rfl _ _ Hr0.out Tryd.underlying23 rfl (by rw [List.length_map, HE.out.len]; exact size_digest) ?_)
               | (
               refine wpList_store_blk rfl 23 _ _ rfl (wr.heap.size) ((emptyL k).map (Value.int .u8)).toArray rfl rfl _ 23 (Blk.new rfl (byteCells 32 []) _) 32 size_digest zsize HE.out.size (ints_one _ _) ?_
               intro w2 hb2 hk2
               have b2 := hb2.below ((Below.refl wr.heap.size wr).alloc (Nat.le_refl _) _) (by simp only [World.size_alloc]; omega) (Nat.le_refl _)
               have HB2 := hid b2
               have hs2 := b2.size
               have HK2 := hid (HKr.out.below b2)
               have HG2 := hid (HGr.out.below b2)
               have HS2 := hid hk2
               have hsl2 := hk2.lt
               clear hb2 hk2 b2))
      apply wpIn_seq_k
      intro _ _
      apply wpIn_seq_k
      intro _ _
      have hxx := dg_at hd (k / 8)
      have hlen := hd.len
      have hxe : w2.cell? ⟨pb, k / 8, none⟩ = some (.int .u8 (d.getD (k / 8) 0)) := by
        have h := prC_known HK2.out (k / 8) (.int .u8 (d.getD (k / 8) 0)) (by rw [List.getElem?_map, List.getD_eq_getElem?_getD, List.getElem?_eq_getElem (by omega)]; rfl)
        rw [Nat.zero_add] at h
        exact h
      have hI0 : ¬ (k : Int) / 8 < 0 := by omega
      have hI1 : ¬ (32 : Int) ≤ (k : Int) / 8 := by omega
      have hI2 : ¬ (k : Int) % 8 < 0 := by omega
      have hkb : knB d k = decide (d.getD (k / 8) 0 / 2 ^ (k % 8) % 2 = 1) := rfl
      have hsn : knN d (k + 1) = knN d k + (if knB d k then 1 else 0) := rfl
      have hsb : sibL d ns k = if knB d k then ns.getD (knN d k) [] else emptyL k := rfl
      have hmn := knN_mono d (show k + 1 ≤ 256 by omega)
      have HSd := hid (Dg.sibL hn HNS.out (k := k) (by omega))
      have HYk := hid (HY.out (upF k) ⟨k, hlt⟩)
      dsimp only at HYk
      generalize d.getD (k / 8) 0 = x at *
      have h2 : 0 ≤ x / 2 ^ (k % 8) ∧ x / 2 ^ (k % 8) < 256 := ⟨Int.ediv_nonneg hxx.1 (Int.le_of_lt (Int.pow_pos (by omega))), Int.lt_of_le_of_lt (Int.ediv_le_self _ hxx.1) hxx.2⟩
      have hbt := and_one' h2
      generalize sibL d ns k = Sb at *
      cases hB : knB d k
      · skip
        rw [hB] at hkb hsn hsb
        clear hB
        have hc1 : (bits .and .u8 (x / 2 ^ (k % 8)) 1 == 1) = false := by
          rw [hbt]
          have := of_decide_eq_false hkb.symm
          simpa using this
        rw [if_neg (by simp)] at hsn hsb
        rw [Nat.add_zero] at hsn
        rw [← hsb] at HS2
        generalize hq : knN d k = q at *
        have HN := hid hsn
        have HQ := hid hq
        have HSB := hid hsb
        clear hbt hkb hsn hq hsb h2 hxx
        refine wpIn_region_as rfl rfl ?_
        go_wp2_with fail
        refine wpIn_cond_false rfl ?_
        apply wpIn_skip
        gi_step
        gi_step
        have HJY := hid (HJ.out (upF k) wr w2 none HJr.out (grown_below HB2.out) (by intro r e; cases e))
        have HBY := hid (Below.on HBr.out HB2.out)
        have HKY := hid HK2.out
        have HGY := hid HG2.out
        have HSY := hid HS2.out
        have hsY := HBY.out.size
        obtain ⟨fn, tmps, assign, body, hy, hR⟩ := HYk.out w2 HJY.out (by rw [upF_length (by omega)]; exact hlt)
        have HR := hid hR
        clear hR
        apply wpIn_seq_k
        intro _ _
        apply wpIn_region_lit
        gi_wp2_with (refine wpListIn_one (F := Fence.wide) rfl rfl ?_; refine wpList_load_blk rfl 23 _ rfl (wr.heap.size) rfl _ 23 HSY.out _ Tryd.underlying23 rfl 32 size_digest HSd.out.size ?_; refine wpList_nil ⟨rfl, ?_⟩)
        refine ⟨fun h => (by simp [Fence.wide] at h), HR.out.mono ?_⟩
        rintro e W3 (⟨rfl, hJ3, hk3⟩ | ⟨rfl, hJx3⟩)
        · skip
          have HJ3 := hid hJ3
          have HK3 := hid hk3
          clear hJ3 hk3
          gi_wp2_with fail
          go_roundw
          case rel => exact ⟨k + 1, by omega, by simp, ⟨ra, by simp only [HN.out, Nat.add_zero], by simp only [HN.out, Nat.add_zero]; exact HRA.out⟩, by rw [upF_succ hlt]; exact HJ3.out, HBY.out.trans HK3.out.low, HK3.out.blk HKY.out (by omega), HK3.out.blk HGY.out (by omega)⟩
          case measure => simp [intOf]; omega
        · skip
          have HJ3 := hid hJx3
          clear hJx3
          gi_wp2_with fail
          refine bodyPost_ret (results_none rfl _ _ _) rfl ?_
          exact ⟨⟨_, rfl⟩, .inr ⟨_, ⟨k + 1, by omega, rfl⟩, by rw [upF_succ hlt]; exact HJ3.out⟩⟩
      · skip
        rw [hB] at hkb hsn hsb
        clear hB
        have hc1 : (bits .and .u8 (x / 2 ^ (k % 8)) 1 == 1) = true := by
          rw [hbt]
          have := of_decide_eq_true hkb.symm
          simpa using this
        rw [if_pos rfl] at hsn hsb
        generalize hq : knN d k = q at *
        have hql : q + 1 ≤ len := by omega
        have HN := hid hsn
        have HQ := hid hq
        have HSB := hid hsb
        clear hbt hkb hsn hq hsb h2 hxx
        obtain ⟨g, ro, rfl, hg, hr⟩ := HRA.out.at_ (by omega)
        have Hr1 := hid (by have h := hr 0 (by omega); rw [show (ns.drop q).getD 0 [] = ns.getD q [] by simp [List.getD_eq_getElem?_getD], ← HSB.out] at h; exact h)
        clear hr
        refine wpIn_region_as rfl rfl ?_
        go_wp2_with fail
        refine wpIn_cond_true rfl ?_
        refine wpIn_wide.2 ?_
        refine FlowB.wp_region_butIn [wr.heap.size] (fun wz => Blk wz wr.heap.size ((emptyL k).map (Value.int .u8)).toArray 23) 6 [0, 1, 2, 3, 4] [] [(.c 5, [], [])] (by kernel_rfl) (by kernel_rfl) HS2.out (fun _ _ h hb => h.below hb) ?_
        apply Exists.intro
        refine ⟨fun w0 hb0 hF0 => ?_, ?_⟩
        · skip
          have yr : ∀ w', (∃ x : Ext w0, w' = x.at_) → w'.rangeAt g (ro + 0 * 32) (Sb.map (Value.int .u8)) := fun w' ⟨x, hx⟩ => by
            rw [hx]
            exact rangeAt_below (w := w0) (fun j v hv => by
              have h1 := HB2.out
              rw [show w0.cell? ⟨g, ro + 0 * 32 + j, none⟩ = w.cell? ⟨g, ro + 0 * 32 + j, none⟩ from (hb0.below (Below.on HBr.out h1) (by have := h1.size; omega) (by intro b hb; simp only [List.mem_singleton] at hb; omega)).cell (p := ⟨g, ro + 0 * 32 + j, none⟩) hg]
              exact Hr1.out j v hv) (by have := hb0.size; have := HB2.out.size; omega) x.same
          simp only [pick, List.getElem?_toArray, List.getElem?_cons_succ, List.getElem?_cons_zero, Option.toList_some, List.cons_append, List.nil_append]
          repeat (first | (go_big_quiet_want; refine quiet_index_digs 24 _ _ rfl Tryd.underlying24 size_digest g ro (len - q) (cap - q) rfl _ _ rfl 0 rfl (by omega) ?_; go_big_quiet_on; simp only [Act.put, List.setIfInBounds_toArray, List.set_cons_zero, List.set_cons_succ]) | (go_big_quiet_want; refine quiet_load_mid 23 _ rfl g (ro + 0 * 32) rfl _ yr _ Tryd.underlying23 rfl (by rw [List.length_map, HSd.out.len]; exact size_digest) ?_; go_big_quiet_on; simp only [Act.put, List.setIfInBounds_toArray, List.set_cons_zero, List.set_cons_succ]) | (go_big_quiet_want; refine quiet_cut_l _ _ rfl (some ⟨g, ro, none⟩) (len - q) (cap - q) 1 _ rfl rfl rfl (by omega) ?_; go_big_quiet_on; simp only [Act.put, List.setIfInBounds_toArray, List.set_cons_zero, List.set_cons_succ]) | go_big_quiet_step (fail))
          exact wpQuiet_nil rfl
        refine FlowB.AlChk.nil ?_
        refine FlowB.Walk.skips rfl (fun wz => Blk wz wr.heap.size (Sb.map (Value.int .u8)).toArray 23) (fun _ _ h hb => h.below hb) rfl (fun w1 hb1 hF1 hG1 => ?_) ?_
        · exact FlowB.store_skips 23 _ _ rfl (wr.heap.size) (Sb.map (Value.int .u8)).toArray rfl rfl _ 23 hG1 32 size_digest HE.out.size HSd.out.size (ints_one _ _) (by simp) (fun w2 h2 h3 => h3)
        intro w1 hb1 hF1
        apply Exists.intro
        refine ⟨fun w2 hb2 hF2 => wpQuiet_nil rfl, ?_⟩
        refine FlowB.AlChk.nil ?_
        refine FlowB.Walk.fin fun w4 h4 _ hG4 => ?_
        simp only [List.drop_succ_cons, List.drop_zero]
        have HB4 := hid (h4.below HB2.out (by have := HB2.out.size; omega) (by intro b hb; simp only [List.mem_singleton] at hb; omega))
        have HK4 := hid (h4.blk HK2.out (by simp only [List.mem_singleton]; omega))
        have HG4 := hid (h4.blk HG2.out (by simp only [List.mem_singleton]; omega))
        have HS4 := hid hG4
        clear h4 hG4 hb1 hF1
        go_wp2_with fail
        have HJY := hid (HJ.out (upF k) wr w4 none HJr.out (grown_below HB4.out) (by intro r e; cases e))
        have HBY := hid (Below.on HBr.out HB4.out)
        have HKY := hid HK4.out
        have HGY := hid HG4.out
        have HSY := hid HS4.out
        have hsY := HBY.out.size
        obtain ⟨fn, tmps, assign, body, hy, hR⟩ := HYk.out w4 HJY.out (by rw [upF_length (by omega)]; exact hlt)
        have HR := hid hR
        clear hR
        apply wpIn_seq_k
        intro _ _
        apply wpIn_region_lit
        gi_wp2_with (refine wpListIn_one (F := Fence.wide) rfl rfl ?_; refine wpList_load_blk rfl 23 _ rfl (wr.heap.size) rfl _ 23 HSY.out _ Tryd.underlying23 rfl 32 size_digest HSd.out.size ?_; refine wpList_nil ⟨rfl, ?_⟩)
        refine ⟨fun h => (by simp [Fence.wide] at h), HR.out.mono ?_⟩
        rintro e W3 (⟨rfl, hJ3, hk3⟩ | ⟨rfl, hJx3⟩)
        · skip
          have HJ3 := hid hJ3
          have HK3 := hid hk3
          clear hJ3 hk3
          gi_wp2_with fail
          go_roundw
          case rel => exact ⟨k + 1, by omega, by simp, ⟨_, by rw [HN.out]; first | rfl | simp [Nat.sub_sub], by rw [HN.out]; exact cut_one HRA.out (by omega)⟩, by rw [upF_succ hlt]; exact HJ3.out, HBY.out.trans HK3.out.low, HK3.out.blk HKY.out (by omega), HK3.out.blk HGY.out (by omega)⟩
          case measure => simp [intOf]; omega
        · skip
          have HJ3 := hid hJx3
          clear hJx3
          gi_wp2_with fail
          refine bodyPost_ret (results_none rfl _ _ _) rfl ?_
          exact ⟨⟨_, rfl⟩, .inr ⟨_, ⟨k + 1, by omega, rfl⟩, by rw [upF_succ hlt]; exact HJ3.out⟩⟩
    · skip
      have hk7 : k = 256 := by omega
      subst hk7
      have hc0 : ¬ ((256 : Int) < 256) := by omega
      gi_wp2_with fail
      go_end0
      exact ⟨⟨_, rfl⟩, .inl HJr.out⟩
end Go.Proofs.YtkakoiaahgchmaaDoor
namespace Go.Proofs.YtkakoiaahgchmaaDoor
set_option maxRecDepth 100000
open Go.ChangeShapes Go.WideShapes Go.ChangeAt Go.RowKit Go.Shelf
attribute [local go_sem] Oper.semAt_some
theorem Blk.grownC {W W' : World} {b : Nat} {cs : Array Value} {T : TypeId} {row : Option Nat} (h : Blk W b cs T) (hg : W.grownBy W' row) (hr : ∀ r, row = some r → ∃ o : Obj, W.heap[r]? = some o ∧ o.isCells = false) : Blk W' b cs T :=
  (hg.block b h.lt (fun e => by obtain ⟨o, ho, hc⟩ := hr b e.symm; rw [show W.heap[b]? = _ from h] at ho; cases ho; cases hc)).trans h
theorem bitL_two (d : List Int) (k : Nat) : bitL d k = 0 ∨ bitL d k = 1 := by
  unfold bitL
  omega
set_option maxHeartbeats 4000000 in
theorem climb_good (x i d : List Int) (ad : Option Addr) (len cap : Nat) (ns : List (List Int)) (w : World) (hx : Dg x) (hi : Dg i) (hd : Dg d) (hn : knN d 256 = len) (hns : DigsAt w ad len cap ns) (tab : ShaTab w) :
    Calls Tryd.prog 35 #[.agg (x.map (Value.int .u8)).toArray, .agg (i.map (Value.int .u8)).toArray, .agg (prC d (.slice ad len cap)).toArray] w fun e w' => e = .returned (.tuple #[.agg ((climbK d i ns x 256).map (Value.int .u8)).toArray, .int .i64 0]) ∧ Below w.heap.size w w' := by
  have b1 := (Below.refl w.heap.size w).alloc (Nat.le_refl _) (.cells (x.map (Value.int .u8)).toArray 23 (0, 0))
  have b2 := b1.alloc b1.size (.cells (i.map (Value.int .u8)).toArray 23 (0, 0))
  have b3 := b2.alloc b2.size (.cells (prC d (.slice ad len cap)).toArray 26 (0, 0))
  have b4 := b3.alloc b3.size (.cells (byteCells 32 []) 23 (0, 0))
  have Kx := hid ((((Blk.new (w := w) (n := w.heap.size) rfl (x.map (Value.int .u8)).toArray 23).old (.cells (i.map (Value.int .u8)).toArray 23 (0, 0))).old (.cells (prC d (.slice ad len cap)).toArray 26 (0, 0))).old (.cells (byteCells 32 []) 23 (0, 0)))
  have Ki := hid (((Blk.new (w := (w.alloc (.cells (x.map (Value.int .u8)).toArray 23 (0, 0)))) (n := w.heap.size + 1) (by simp only [World.size_alloc]) (i.map (Value.int .u8)).toArray 23).old (.cells (prC d (.slice ad len cap)).toArray 26 (0, 0))).old (.cells (byteCells 32 []) 23 (0, 0)))
  have Kp := hid ((Blk.new (w := ((w.alloc (.cells (x.map (Value.int .u8)).toArray 23 (0, 0))).alloc (.cells (i.map (Value.int .u8)).toArray 23 (0, 0)))) (n := w.heap.size + 1 + 1) (by simp only [World.size_alloc]) (prC d (.slice ad len cap)).toArray 26).old (.cells (byteCells 32 []) 23 (0, 0)))
  have Kr := hid (Blk.new (w := (((w.alloc (.cells (x.map (Value.int .u8)).toArray 23 (0, 0))).alloc (.cells (i.map (Value.int .u8)).toArray 23 (0, 0))).alloc (.cells (prC d (.slice ad len cap)).toArray 26 (0, 0)))) (n := w.heap.size + 1 + 1 + 1) (by simp only [World.size_alloc]) (byteCells 32 []) 23)
  have Hb := hid b4
  have hbz := b4.size
  have Hbs := hid (show w.heap.size + 1 + 1 + 1 + 1 = ((((w.alloc (.cells (x.map (Value.int .u8)).toArray 23 (0, 0))).alloc (.cells (i.map (Value.int .u8)).toArray 23 (0, 0))).alloc (.cells (prC d (.slice ad len cap)).toArray 26 (0, 0))).alloc (.cells (byteCells 32 []) 23 (0, 0))).heap.size by simp only [World.size_alloc])
  have Htab := hid tab
  clear b1 b2 b3 b4 tab 
  have CK := hid (fun W : World => complete_any d ad len cap W hd)
  rw [decide_eq_true hn] at CK
  have CS := hid (fun W : World => siblings_any d ad len cap W)
  have CN := hid (fun (a b : List Int) (ha : Dg a) (hb : Dg b) (W : World) (t : ShaTab W) => lonode_any a b W ha hb t)
  have CB := hid (fun (k : Nat) (hk : k < 256) (W : World) => bit_in i k W hi hk)
  refine (callsIn_wide (n := 7)).1 ?_
  refine callsIn_of_wp_marks Tryd.func35 rfl trivial ?_ rfl
  simp only [Tryd.ntmps35, List.size_toArray, List.length_cons, List.length_nil, Nat.reduceAdd, Nat.reduceSub, Array.replicate_succ, Array.replicate_zero, List.push_toArray, List.append_toArray, List.nil_append, List.cons_append]
  apply wpIn_seq_k
  intro _ _
  refine wpIn_region_as rfl rfl ?_
  go_wp2_with fail
  apply wpIn_seq_k
  intro _ _
  apply wpIn_seq_k
  intro _ _
  refine wpIn_region_as rfl rfl ?_
  go_wp2_with (refine wpList_load_blk rfl 26 _ rfl (w.heap.size + 1 + 1) rfl _ 26 Kp.out _ Tryd.underlying26 rfl 33 size_proof (prC_size hd _) ?_)
  refine (CK.out _).mono ?_
  rintro e w1 ⟨rfl, bw1⟩
  have HBw1 := hid (Below.on Hb.out bw1)
  have hsw1 := HBw1.out.size
  have Kxw1 := hid (Kx.out.below bw1)
  have Kiw1 := hid (Ki.out.below bw1)
  have Kpw1 := hid (Kp.out.below bw1)
  have Krw1 := hid (Kr.out.below bw1)
  clear bw1
  go_wp2_with fail
  refine wpIn_cond_false rfl ?_
  apply wpIn_skip
  gi_step
  gi_step
  apply wpIn_seq_k
  intro _ _
  apply wpIn_seq_k
  intro _ _
  refine wpIn_region_as rfl rfl ?_
  go_wp2_with (refine wpList_load_blk rfl 26 _ rfl (w.heap.size + 1 + 1) rfl _ 26 Kpw1.out _ Tryd.underlying26 rfl 33 size_proof (prC_size hd _) ?_)
  refine (CS.out _).mono ?_
  rintro e w2 ⟨rfl, b2, k2⟩
  have KQ := hid k2
  clear k2
  have HBw2 := hid (Below.on HBw1.out b2)
  have hsw2 := HBw2.out.size
  have Kxw2 := hid (Kxw1.out.below b2)
  have Kiw2 := hid (Kiw1.out.below b2)
  have Kpw2 := hid (Kpw1.out.below b2)
  have Krw2 := hid (Krw1.out.below b2)
  clear b2
  go_wp2_with fail
  apply wpIn_block
  have hns2 := hns
  have hsz : w.heap.size + 1 + 1 + 1 + 1 ≤ w1.heap.size := by have := Krw1.out.lt; omega
  have hsy : w1.heap.size < w2.heap.size := KQ.out.lt
  have htb := Htab.out.below HBw2.out
  refine wpIn_rangeFunc_ownH rfl (by omega) (gf := 83) (lb := #[.pointer (some ⟨w1.heap.size, 0, none⟩)]) rfl trivial (enters_of Tryd.func83 (by kernel_rfl) rfl)
    (siblings_stops _ d ad len cap ns w1.heap.size w w2 hd hn hns HBw2.out (by omega) KQ.out htb)
    (fun h k => h.trans k) (fun W l o o' hl h ho _ => KeepC.putObj (n := w2.heap.size) (by omega) W l o o' hl h ho) (Below.refl _ _) (fun _ => rfl)
    (fun pre W => (Blk W w.heap.size ((foldC d i ns x pre).map (Value.int .u8)).toArray 23 ∧ Blk W (w.heap.size + 1) (i.map (Value.int .u8)).toArray 23 ∧ Blk W (w.heap.size + 1 + 1 + 1) (byteCells 32 []) 23) ∧ Below w.heap.size w W)
    (fun _ _ _ => False)
    (OwnFrom.and (Own.from (fun s A B row hs hg hr => ⟨hs.1.grownC hg hr, hs.2.1.grownC hg hr, hs.2.2.grownC hg hr⟩) _) (ownFrom_below (Nat.le_refl _) (by omega)))
    (fun _ _ _ _ _ hs _ _ => hs)
    ⟨⟨Kxw2.out, Kiw2.out, Krw2.out⟩, HBw2.out⟩
    (fun k a' W => ∃ Bx, Blk W Bx ((sibL d ns k.1).map (Value.int .u8)).toArray 23 ∧ a' = { tmps := #[.agg (x.map (Value.int .u8)).toArray, .agg (i.map (Value.int .u8)).toArray, .agg (prC d (.slice ad len cap)).toArray, .pointer (some ⟨w.heap.size, 0, none⟩), .pointer (some ⟨w.heap.size + 1, 0, none⟩), .pointer (some ⟨w.heap.size + 1 + 1, 0, none⟩), .pointer (some ⟨w.heap.size + 1 + 1 + 1, 0, none⟩), .int .i64 0, .int .i64 (k.1 : Int), .pointer (some ⟨Bx, 0, none⟩), .agg (prC d (.slice ad len cap)).toArray, .bool true, .bool false, undef, .agg (prC d (.slice ad len cap)).toArray, .func (.func 83) #[] #[.pointer (some ⟨w1.heap.size, 0, none⟩)], .int .i64 (k.1 : Int), .agg ((sibL d ns k.1).map (Value.int .u8)).toArray, undef, undef, undef, undef, undef, undef, undef, undef, undef, undef, undef], defers := [] })
    (fun k a' => fun _ A B row hs hg hr => by
      obtain ⟨Bx, h2, h3⟩ := hs
      exact ⟨Bx, h2.grownC hg (fun r e => (hr r e).2), h3⟩) ?assign ?body ?done ?stop
  case stop =>
    rintro D c pre W _ _ h _
    exact h.elim
  case assign =>
    rintro l pre k W K hi hK
    apply wpIn_seq_k
    intro _ _
    refine wpIn_region_as rfl rfl ?_
    go_wp2_with fail
    have HSd := hid (Dg.sibL hn hns k.2)
    have HW := hid hi
    clear hi
    refine wpIn_region_as rfl rfl ?_
    go_wp2_with (
          refine wpList_store_blk rfl 23 _ _ rfl (W.heap.size) ((sibL d ns k.1).map (Value.int .u8)).toArray rfl rfl _ 23 (Blk.new rfl (byteCells 32 []) _) 32 size_digest zsize HSd.out.size (ints_one _ _) ?_
          intro w3 hb3 hk3
          have b3 := hb3.below ((Below.refl W.heap.size W).alloc (Nat.le_refl _) _) (by simp only [World.size_alloc]; omega) (Nat.le_refl _)
          have HB3 := hid b3
          have HK3 := hid hk3
          clear hb3 hk3 b3)
    have hWs := HW.out.2.size
    exact hK _ _ (keepsFrom_below HB3.out) (KeepC.of_below (by omega) HB3.out) ⟨⟨HW.out.1.1.below HB3.out, HW.out.1.2.1.below HB3.out, HW.out.1.2.2.below HB3.out⟩, Below.on HW.out.2 HB3.out⟩ ⟨W.heap.size, HK3.out, rfl⟩
  case body =>
    rintro l pre k a' W hl _ ⟨⟨kx, ki, kr⟩, bel⟩ ⟨Bx, kb, rfl⟩ _
    have HX := hid kx
    have HI := hid ki
    have HR := hid kr
    have HS := hid kb
    have HBW := hid bel
    have hbl := bel.size
    have hxl := kx.lt
    have hil := ki.lt
    have hrl := kr.lt
    have hsl := kb.lt
    have htW := hid (Htab.out.below bel)
    clear kx ki kr kb bel
    have HSd := hid (Dg.sibL hn hns k.2)
    have HFd := hid (Dg.foldC hx d i ns pre)
    have HF := hid (foldC_snoc d i ns x pre k)
    have HI0 := hid hi
    obtain ⟨k, hk⟩ := k
    dsimp only at *
    generalize sibL d ns k = Sb at *
    generalize foldC d i ns x pre = X at *
    apply wpIn_block
    apply wpIn_seq_k
    intro _ _
    refine wpIn_region_as rfl rfl ?_
    go_wp2_with (refine wpList_load_blk rfl 23 _ rfl (w.heap.size + 1) rfl _ 23 HI.out _ Tryd.underlying23 rfl 32 size_digest HI0.out.size ?_)
    refine (CB.out k hk _).mono ?_
    rintro e w5 ⟨rfl, b5⟩
    have HX5 := hid (HX.out.below b5)
    have HI5 := hid (HI.out.below b5)
    have HR5 := hid (HR.out.below b5)
    have HS5 := hid (HS.out.below b5)
    have HB5 := hid b5
    have hs5 := b5.size
    have ht5 := hid (htW.out.below b5)
    clear b5
    by_cases hq : bitL i k = 0
    · skip
      have HST : Hid (stepL i k X Sb = nodeL X Sb) := hid (by unfold stepL; rw [if_pos hq])
      rw [hq]
      clear hq
      go_wp2_with fail
      refine wpIn_cond_true rfl ?_
      refine wpIn_region_as rfl rfl ?_
      go_wp2_with (first | (refine wpList_load_blk rfl 23 _ rfl (w.heap.size) rfl _ 23 HX5.out _ Tryd.underlying23 rfl 32 size_digest HFd.out.size ?_) | (refine wpList_load_blk rfl 23 _ rfl (Bx) rfl _ 23 HS5.out _ Tryd.underlying23 rfl 32 size_digest HSd.out.size ?_))
      refine (CN.out X Sb HFd.out HSd.out _ ht5.out).mono ?_
      rintro e w6 ⟨rfl, b6⟩
      have HX6 := hid (HX5.out.below b6)
      have HI6 := hid (HI5.out.below b6)
      have HR6 := hid (HR5.out.below b6)
      have HB6 := hid (Below.on HB5.out b6)
      have HNd := hid (Dg.nodeL X Sb)
      have hs6 := b6.size
      generalize nodeL X Sb = T at *
      clear b6
      go_wp2_with (
         refine wpList_store_blk rfl 23 _ _ rfl (w.heap.size) (T.map (Value.int .u8)).toArray rfl rfl _ 23 HX6.out 32 size_digest HFd.out.size HNd.out.size (ints_one _ _) ?_
         intro w7 hb7 hk7
         have HK7 := hid hk7
         have HN7 := hid hb7
         have HI7 := hid (hb7.blk HI6.out (by omega))
         have HR7 := hid (hb7.blk HR6.out (by omega))
         clear hb7 hk7)
      have h6 := HB6.out
      have h7 := HN7.out
      refine ⟨(keepsFrom_below h6).trans (keepsFrom_but (by omega) h7), (KeepC.of_below (by omega) h6).trans (KeepC.of_but (by omega) h7), ⟨by rw [HF.out, HST.out]; exact HK7.out, HI7.out, HR7.out⟩, h7.below (Below.on HBW.out h6) (by have := h6.size; omega) (Nat.le_refl _)⟩
    · skip
      have HST : Hid (stepL i k X Sb = nodeL Sb X) := hid (by unfold stepL; rw [if_neg hq])
      have hq1 : bitL i k = 1 := by have := bitL_two i k; omega
      rw [hq1]
      clear hq hq1
      go_wp2_with fail
      refine wpIn_cond_false rfl ?_
      refine wpIn_region_as rfl rfl ?_
      go_wp2_with (first | (refine wpList_load_blk rfl 23 _ rfl (w.heap.size) rfl _ 23 HX5.out _ Tryd.underlying23 rfl 32 size_digest HFd.out.size ?_) | (refine wpList_load_blk rfl 23 _ rfl (Bx) rfl _ 23 HS5.out _ Tryd.underlying23 rfl 32 size_digest HSd.out.size ?_))
      refine (CN.out Sb X HSd.out HFd.out _ ht5.out).mono ?_
      rintro e w6 ⟨rfl, b6⟩
      have HX6 := hid (HX5.out.below b6)
      have HI6 := hid (HI5.out.below b6)
      have HR6 := hid (HR5.out.below b6)
      have HB6 := hid (Below.on HB5.out b6)
      have HNd := hid (Dg.nodeL Sb X)
      have hs6 := b6.size
      generalize nodeL Sb X = T at *
      clear b6
      go_wp2_with (
         refine wpList_store_blk rfl 23 _ _ rfl (w.heap.size) (T.map (Value.int .u8)).toArray rfl rfl _ 23 HX6.out 32 size_digest HFd.out.size HNd.out.size (ints_one _ _) ?_
         intro w7 hb7 hk7
         have HK7 := hid hk7
         have HN7 := hid hb7
         have HI7 := hid (hb7.blk HI6.out (by omega))
         have HR7 := hid (hb7.blk HR6.out (by omega))
         clear hb7 hk7)
      have h6 := HB6.out
      have h7 := HN7.out
      refine ⟨(keepsFrom_below h6).trans (keepsFrom_but (by omega) h7), (KeepC.of_below (by omega) h6).trans (KeepC.of_but (by omega) h7), ⟨by rw [HF.out, HST.out]; exact HK7.out, HI7.out, HR7.out⟩, h7.below (Below.on HBW.out h6) (by have := h6.size; omega) (Nat.le_refl _)⟩
  case done =>
    rintro D ys W hD rfl ⟨⟨kx, ki, kr⟩, bel⟩ hK
    rw [foldC_up d i ns x (Nat.le_refl _)] at kx
    have HX := hid kx
    have HR := hid kr
    have HBW := hid bel
    have HCd := hid (Dg.climbK hx d i ns 256)
    generalize climbK d i ns x 256 = T at *
    have HKD := hid hK
    have hbl := bel.size
    have hrl := kr.lt
    have hKl : D < W.heap.size := (Array.getElem?_eq_some_iff.1 hK).1
    clear kx ki kr bel hK
    gi_step
    gi_step
    apply wpIn_seq_k
    intro _ _
    refine wpIn_region_as rfl rfl ?_
    go_wp2_with (first
             | (refine wpList_load_blk rfl 23 _ rfl (w.heap.size) rfl _ 23 HX.out _ Tryd.underlying23 rfl 32 size_digest HCd.out.size ?_)
             | (
                refine wpList_store_blk rfl 23 _ _ rfl (w.heap.size + 1 + 1 + 1) (T.map (Value.int .u8)).toArray rfl rfl _ 23 HR.out 32 size_digest zsize HCd.out.size (ints_one _ _) ?_
                intro w9 hb9 hk9
                have HB9 := hid (hb9.below HBW.out HBW.out.size (by omega))
                have HK9 := hid hk9
                have HD9 := hid ((hb9.block D hKl (by omega)).trans HKD.out)
                clear hb9 hk9))
    apply wpIn_ret
    refine ⟨by simp, .inl ⟨_, _, rfl, run_takeDeferred HD9.out, ?_⟩⟩
    have g9 := grownBy_putObj' w9 D (.deferred none)
    have n9 : ∀ r, some D = some r → ∃ o : Obj, w9.heap[r]? = some o ∧ o.isCells = false := fun r e => by cases e; exact ⟨_, HD9.out, rfl⟩
    refine ⟨_, results_blk_tmp Tryd.results35 _ (w.heap.size + 1 + 1 + 1) rfl _ rfl _ 23 (HK9.out.grownC g9 n9) _ Tryd.underlying23 rfl 32 size_digest HCd.out.size, rfl, HB9.out.trans (belowK_b (w := w) (Nat.le_refl _) w9 D _ _ (by omega) HD9.out rfl rfl)⟩
end Go.Proofs.YtkakoiaahgchmaaDoor
namespace Go.Proofs.YtkakoiaahgchmaaDoor
set_option maxRecDepth 100000
open Go.ChangeShapes Go.WideShapes Go.ChangeAt Go.RowKit
/-- A digest that begins with 1, and with 9. -/
def oneD : List Int := 1 :: List.replicate 31 0
def nineD : List Int := 9 :: List.replicate 31 0
end Go.Proofs.YtkakoiaahgchmaaDoor
namespace Go.Proofs.YtkakoiaahgchmaaDoor
set_option maxRecDepth 100000
open Go.ChangeShapes Go.WideShapes Go.ChangeAt Go.RowKit
end Go.Proofs.YtkakoiaahgchmaaDoor
namespace Go.Proofs.YtkakoiaahgchmaaDoor
set_option maxRecDepth 100000
open Go.ChangeShapes Go.WideShapes Go.ChangeAt Go.RowKit
theorem OwnB.none_ {w : World} {base : Nat} {e : TypeId} {a : Option Addr} {n c : Nat} {bs : List Int} (h : OwnB w base e (.slice a n c) bs) : OwnB w base e (.slice a 0 c) [] := by
  obtain ⟨⟨h1, ⟨h2, h3⟩ | ⟨g, cap, cur, h2, hg, hh, hle, hmx, hsz, htk⟩⟩, hs⟩ := h
  · injection h2 with e1 e2 e3
    subst e1 e2 e3
    exact OwnB.nil w base e
  · injection h2 with e1 e2 e3
    subst e1 e2 e3
    exact ⟨⟨rfl, .inr ⟨g, _, cur, rfl, hg, hh, Nat.zero_le _, hmx, hsz, by simp⟩⟩, by simp⟩
theorem wpList_append_zeros {P : Program} {w : World} {base : Nat} {t e tn : TypeId} {i : TypeInfo} {v : Value} {bs : List Int} {ops : Array Oper} {rest : List Oper} {o : Oper} {A : Act} {Q : Exit → Act → World → Prop} (hgd : o.guard = none) (s x : Operand) (ho : o.op = .call { callee := .builtin .append, args := #[s, x], argTypes := #[t, tn] })
    (ht : P.underlying t = some (.slice e)) (htn : P.underlying tn = some (.int .i64)) (hi : P.info? e = some i) (hz : i.zero = some (.int .u8 0)) (hsize : i.size = 1) (hby : i.bytes = 1) (hs : A.eval s = v) (hown : OwnB w base e v bs)
    (k : Nat) (hx : A.eval x = .int .i64 k) (hb : bs.length + k ≤ 140737488355328) (hbase : base ≤ w.heap.size)
    (h : ∀ v' w', OwnB w' base e v' (bs ++ List.replicate k 0) → w.grownBy w' v.ownBlock → Below base w w' → wpList P ops Q rest (A.put o.dst v') w') : wpList P ops Q (o :: rest) A w :=
  wpList_plain hgd fun K hK => by
    obtain ⟨v', w', hr, h2, h3, h4⟩ := run_append_zeros o.type ht htn hi hz hsize hby hown k hb hbase
    unfold Oper.wp execOp
    simp only [ho, resolve, invoke, builtin, Sem.run_bind, Sem.run_pure, Result.andThen_ok, List.map_toArray, List.map_cons, List.map_nil, hs, hx, hr, Oper.upon_value]
    exact hK _ _ (h v' w' h2 h3 h4)
set_option maxHeartbeats 4000000 in
theorem grow_none_g (w : World) : Calls Tryd.prog 81 #[.slice none 0 0, .int .i64 0] w fun e w' => ∃ v, e = .returned v ∧ OwnB w' w.heap.size 5 v [] ∧ Below w.heap.size w w' := by
  go_enter Tryd.func81, Tryd.ntmps81
  go_wp2
  go_returns
  exact ⟨_, rfl, OwnB.nil w w.heap.size 5, by go_grown⟩
set_option maxHeartbeats 4000000 in
theorem grow_some_g (k : Nat) (w : World) (h0 : 0 < k) (hb : k ≤ 140737488355328) : Calls Tryd.prog 81 #[.slice none 0 0, .int .i64 k] w fun e w' => ∃ v, e = .returned v ∧ OwnB w' w.heap.size 5 v [] ∧ Below w.heap.size w w' := by
  obtain ⟨i0, hi, hz0, hz1, hz2⟩ := info_parts info_byte
  have q1 : ¬ (k : Int) < 0 := by omega
  have q2 : (0 : Int) < k := by omega
  have HN := hid (OwnB.nil w w.heap.size 5)
  have hw : wrap64 (k : Int) = k := by unfold wrap64; omega
  go_enter Tryd.func81, Tryd.ntmps81
  go_wp2_with (at_builtin; refine wpList_append_zeros rfl _ _ rfl Tryd.underlying29 Tryd.underlying3 hi hz0 hz1 hz2 rfl HN.out k rfl ?c1 ?c2 ?_)
  intro v4 w4 own4 g4 b4
  obtain ⟨va, vn, vc, rfl⟩ : ∃ a n c, v4 = .slice a n c := by
    obtain ⟨a, c, e, _⟩ := own4.text
    exact ⟨a, _, c, e⟩
  have HO := hid own4.none_
  have H4 := hid b4
  have hcut := fun W : World => run_cut_h (P := Tryd.prog) Tryd.underlying29 (by rw [hi]; simp [hz1]) va vn vc 0 W (by omega) (by omega)
  clear own4 g4 b4
  go_wp2_with fail
  go_returns
  exact ⟨_, rfl, HO.out, H4.out⟩
theorem grow_any_g (k : Nat) (w : World) (hb : k ≤ 140737488355328) : Calls Tryd.prog 81 #[.slice none 0 0, .int .i64 k] w fun e w' => ∃ v, e = .returned v ∧ OwnB w' w.heap.size 5 v [] ∧ Below w.heap.size w w' := by
  rcases Nat.eq_zero_or_pos k with rfl | h
  · exact grow_none_g w
  · exact grow_some_g k w h hb
set_option maxHeartbeats 4000000 in
theorem concat_any (a : Option Addr) (len cap : Nat) (ts : List (List Int)) (w : World) (hT : TextsAt w a len cap ts) (hbnd : sumLen ts ≤ 140737488355328) :
    Calls Tryd.prog 60 #[.slice a len cap] w fun e w' => ∃ v, e = .returned v ∧ Below w.heap.size w w' ∧ TextV ts.flatten v w' := by
  have hlen : ts.length = len := hT.length
  have hcp := hT.le
  have hmx := hT.max
  have HT := hid hT
  clear hT
  obtain ⟨i0, hi, hz0, hz1, hz2⟩ := info_parts info_byte
  go_enter Tryd.func60, Tryd.ntmps60
  go_wp2_with fail
  go_loopw [3, 11] (fun sv iv wr => ∃ k : Nat, k ≤ len ∧ iv = .int .i64 k ∧ sv = .int .i64 (sumLen (ts.take k) : Nat) ∧ w = wr) (fun _ i _ => len - (intOf i).toNat)
  case atStart => exact ⟨0, by omega, rfl, by simp [sumLen], rfl⟩
  case round =>
    obtain ⟨k, hk, rfl, rfl, rfl⟩ := hrel
    by_cases hlt : k < len
    · obtain ⟨r, off, a', l', c', rfl, hrl, hc, hTk⟩ := HT.out.at_ k hlt
      have e1 := sumLen_take ts k (by omega)
      have e2 := sumLen_le ts (k + 1)
      have e4 := hTk.length
      rw [e4] at e1
      have hc0 : (k : Int) < len := by omega
      have Hnext := hid (show ((sumLen (ts.take (k + 1)) : Nat) : Int) = (sumLen (ts.take k) : Nat) + (l' : Nat) by omega)
      have hnn : ¬ ((sumLen (ts.take k) : Nat) : Int) + (l' : Nat) < 0 := by omega
      have hwr : wrap64 (((sumLen (ts.take k) : Nat) : Int) + (l' : Nat)) = ((sumLen (ts.take k) : Nat) : Int) + (l' : Nat) := by unfold wrap64; omega
      clear e1 e2 e4 hTk
      generalize sumLen (ts.take k) = sk at *
      go_wp2_with fail
      exact ⟨⟨k + 1, by omega, by go_num, by rw [Hnext.out, hwr], by first | rfl | trivial⟩, by simp [intOf]; omega⟩
    · have hkl : k = len := by omega
      have hft : ts.take k = ts := List.take_of_length_le (by omega)
      rw [hft]
      have hc0 : ¬ (k : Int) < len := by omega
      go_wp2_with fail
      refine (grow_any_g (sumLen ts) _ hbnd).mono ?_
      rintro e w1 ⟨v1, rfl, own1, bel1⟩
      have HO1 := hid own1
      have HB1 := hid bel1
      clear own1 bel1
      go_wp2_with fail
      go_loopw [6, 27] (fun v i wr => ∃ k : Nat, k ≤ len ∧ i = .int .i64 k ∧ OwnB wr w.heap.size 5 v (ts.take k).flatten ∧ Below w.heap.size w wr) (fun _ i _ => len - (intOf i).toNat)
      case atStart => exact ⟨0, by omega, rfl, by simpa using HO1.out, HB1.out⟩
      case round =>
        obtain ⟨k, hk, rfl, hown, bel⟩ := hrel
        have Hown := hid hown
        have Hbel := hid bel
        have hsz := bel.size
        clear hown bel
        by_cases hlt : k < len
        · obtain ⟨r, off, a', l', c', rfl, hrl, hc, hTk⟩ := HT.out.at_ k hlt
          have hcw : wr.cell? ⟨r, off + k, none⟩ = some (.slice a' l' c') := (Hbel.out.cell (p := ⟨r, off + k, none⟩) hrl).trans hc
          have hTw := hid (hTk.below Hbel.out)
          have HF := hid (flatten_take ts k (by omega))
          have hsl : (ts.take k).flatten.length + l' ≤ 140737488355328 := by
            have e1 := sumLen_take ts k (by omega)
            have e2 := sumLen_le ts (k + 1)
            have e3 := flatten_length (ts.take k)
            have e4 := hTk.length
            omega
          have Hsl := hid hsl
          have hc0 : (k : Int) < len := by omega
          clear hTk hc hsl
          generalize ts.getD k [] = tk at *
          go_wp2_with (at_builtin; refine wpList_append_text rfl _ _ rfl Tryd.underlying29 hi hz0 hz1 hz2 rfl Hown.out rfl hTw.out ?c1 ?c2 ?_)
          case c1 => exact Hsl.out
          case c2 => exact hsz
          intro v4 w4 own4 g4 b4
          rw [← HF.out] at own4
          have H4 := hid (And.intro own4 (Hbel.out.trans b4))
          clear own4 g4 b4 hTw Hown
          go_wp2_with fail
          exact ⟨⟨k + 1, by omega, by go_num, H4.out.1, H4.out.2⟩, by simp [intOf]; omega⟩
        · have hkl : k = len := by omega
          have hft : (ts.take k).flatten = ts.flatten := by rw [List.take_of_length_le (by omega)]
          rw [hft] at Hown
          have hc0 : ¬ (k : Int) < len := by omega
          go_wp2_with fail
          go_returns
          exact ⟨_, rfl, Hbel.out, TextV.of_own Hown.out⟩
/-- What is handed back is nil just where what came in is. -/
theorem clone_any {w : World} {a : Option Addr} {len cap : Nat} {bs : List Int} (hT : TextAt w a len cap bs) (hl : len ≤ 140737488355328) :
    Calls Tryd.prog 50 #[.slice a len cap] w fun e w' => ∃ a' c', e = .returned (.slice a' len c') ∧ Below w.heap.size w w' ∧ TextAt w' a' len c' bs ∧ ∀ p : Addr, a' = some p → w.heap.size ≤ p.block ∧ ∃ cs, w'.heap[p.block]? = some (.cells cs 5 (0, 0)) := by
  obtain ⟨i0, hi, hz0, hz1, hz2⟩ := info_parts info_byte
  have hlen := hT.length
  have kE : OwnB (w.alloc (Obj.cells #[] 5)) w.heap.size 5 (.slice (some ⟨w.heap.size, 0, none⟩) 0 0) [] := OwnB.of_blk (Blk.new rfl _ _) (Nat.le_refl _) rfl (by omega) (by simp)
  have belE : Below w.heap.size w (w.alloc (Obj.cells #[] 5)) := (Below.refl _ _).alloc (Nat.le_refl _) _
  have hq := fun (w : World) (a : Option Addr) (n c : Nat) => Lib.run_eql_slice_nil (P := Tryd.prog) w 29 5 a n c 0 0 Tryd.underlying29
  cases a with
  | none =>
    rcases hT.mem with ⟨_, rfl, rfl⟩ | ⟨x, o, s, h, _⟩
    · go_enter Tryd.func50, Tryd.ntmps50
      go_wp2
      go_ret
      exact ⟨none, 0, rfl, Below.refl _ _, hT, fun p hp => by cases hp⟩
    · cases h
  | some p =>
    have hT' := hT.below belE
    clear hT
    go_enter Tryd.func50, Tryd.ntmps50
    go_wp2_with (at_builtin; refine wpList_append_text rfl _ _ rfl Tryd.underlying29 hi hz0 hz1 hz2 rfl kE rfl hT' ?c1 ?c2 ?_)
    case c1 => simp; omega
    case c2 => exact belE.size
    intro v' w3 hown _ hb
    have bel := belE.trans hb
    clear hb belE kE hT'
    obtain ⟨a', c', rfl, q1, q2⟩ := hown.text2
    rw [hlen] at q1
    rw [hlen]
    clear hown
    go_wp2_with fail
    go_ret
    exact ⟨a', c', rfl, bel, q1, q2⟩
set_option maxHeartbeats 4000000 in
theorem equal_any (a1 a2 : Option Addr) (n1 n2 c1 c2 : Nat) (xs ys : List Int) (w : World) (h1 : TextAt w a1 n1 c1 xs) (h2 : TextAt w a2 n2 c2 ys) :
    Calls Tryd.prog 49 #[.slice a1 n1 c1, .slice a2 n2 c2] w fun e w' => e = .returned (.bool (decide (xs = ys))) ∧ Below w.heap.size w w' := by
  have Hb := hid (Below.refl w.heap.size w)
  have cv1 := h1.string Tryd.underlying29 Tryd.underlying5 Tryd.underlying9
  have cv2 := h2.string Tryd.underlying29 Tryd.underlying5 Tryd.underlying9
  have hq := eqStrB h1.small h2.small
  clear h1 h2
  go_enter Tryd.func49, Tryd.ntmps49
  go_wp2_with fail
  go_returns
  exact ⟨by first | rfl | rw [hq], Hb.out⟩
set_option maxHeartbeats 4000000 in
theorem joined_any (x : Int) (a : Option Addr) (len cap : Nat) (ts : List (List Int)) (w : World) (hx : 0 ≤ x ∧ x < 256) (hT : TextsAt w a len cap ts) (hbnd : sumLen ts ≤ 1000000) :
    Calls Tryd.prog 34 #[.int .u8 x, .slice a len cap] w fun e w' => ∃ v, e = .returned v ∧ Below w.heap.size w w' ∧ OwnB w' w.heap.size 5 v ([x] ++ ts.flatten) := by
  have Hb := hid (Below.refl w.heap.size w)
  have HT := hid hT
  clear hT
  obtain ⟨i0, hi, hz0, hz1, hz2⟩ := info_parts info_byte
  have HB1 := hid (OwnB.of_blk (base := w.heap.size) (e := 5) (bs := [x]) (n := 1) (Blk.new (w := w) rfl #[.int .u8 x] 5) (Nat.le_refl _) rfl (by omega) (by simpa using hx))
  have Ha := hid ((Below.refl w.heap.size w).alloc (Nat.le_refl _) (.cells #[.int .u8 x] 5))
  go_enter Tryd.func34, Tryd.ntmps34
  go_wp2_with fail
  refine (concat_any a len cap ts _ (HT.out.below Ha.out) (by omega)).mono ?_
  rintro e w1 ⟨v1, rfl, b1, t1⟩
  obtain ⟨a1, n1, c1, rfl, ht1⟩ := t1
  have HT1 := hid ht1
  have HO1 := hid (HB1.out.below b1)
  have HB2 := hid (Below.on Ha.out b1)
  have hs2 := HB2.out.size
  have hn1 := ht1.length
  have hsl := flatten_length ts
  clear b1 ht1
  go_wp2_with (at_builtin; refine wpList_append_text rfl _ _ rfl Tryd.underlying29 hi hz0 hz1 hz2 rfl HO1.out rfl HT1.out ?c1 ?c2 ?_)
  case c1 => simp; omega
  case c2 => exact hs2
  intro v4 w4 own4 g4 b4
  have HO4 := hid own4
  have HB4 := hid (HB2.out.trans b4)
  clear own4 g4 b4
  go_wp2_with fail
  go_returns
  exact ⟨_, rfl, HB4.out, HO4.out⟩
end Go.Proofs.YtkakoiaahgchmaaDoor
namespace Go.Proofs.YtkakoiaahgchmaaDoor
set_option maxRecDepth 100000
open Go.ChangeShapes Go.WideShapes Go.ChangeAt Go.RowKit
/-- The first place at which both have something, and these differ. -/
def firstU (ts us : List (List Int)) : Option Nat := (List.range (min ts.length us.length)).find? fun j => decide (ts.getD j [] ≠ us.getD j [])
theorem firstU_some {ts us : List (List Int)} {k : Nat} (h1 : k < ts.length) (h2 : k < us.length) (hs : ∀ j, j < k → ts.getD j [] = us.getD j []) (hn : ts.getD k [] ≠ us.getD k []) : firstU ts us = some k := by
  unfold firstU
  rw [List.find?_range_eq_some]
  refine ⟨by simpa using hn, by simp; omega, fun j hj => by simpa using hs j hj⟩
theorem firstU_none {ts us : List (List Int)} (hs : ∀ j, j < min ts.length us.length → ts.getD j [] = us.getD j []) : firstU ts us = none := by
  unfold firstU
  rw [List.find?_eq_none]
  intro j hj
  simpa using hs j (List.mem_range.1 hj)
theorem firstU_at {ts us : List (List Int)} {k : Nat} (h : firstU ts us = some k) : k < ts.length ∧ k < us.length ∧ (∀ j, j < k → ts.getD j [] = us.getD j []) ∧ ts.getD k [] ≠ us.getD k [] := by
  unfold firstU at h
  rw [List.find?_range_eq_some] at h
  obtain ⟨h1, h2, h3⟩ := h
  have h2 := List.mem_range.1 h2
  exact ⟨by omega, by omega, fun j hj => by simpa using h3 j hj, by simpa using h1⟩
set_option maxHeartbeats 4000000 in
theorem unlike_any (a1 a2 : Option Addr) (n1 n2 c1 c2 : Nat) (ts us : List (List Int)) (w : World) (hT : TextsAt w a1 n1 c1 ts) (hU : TextsAt w a2 n2 c2 us) :
    Calls Tryd.prog 48 #[.slice a1 n1 c1, .slice a2 n2 c2, .func (.func 49) #[] #[]] w fun e w' => e = .returned (.tuple #[.int .i64 ((firstU ts us).getD 0 : Nat), .bool (firstU ts us).isSome]) ∧ Below w.heap.size w w' := by
  have Hb := hid (Below.refl w.heap.size w)
  have HT := hid hT
  have HU := hid hU
  have hl1 := hT.length
  have hl2 := hU.length
  have hm1 := hT.max
  have hm2 := hU.max
  have hc1 := hT.le
  have hc2 := hU.le
  clear hT hU
  by_cases hlt12 : n2 < n1
  · skip
    have hMi : (n2 : Int) < (n1 : Int) := by omega
    go_enter Tryd.func48, Tryd.ntmps48
    go_wp2_with fail
    go_loopw [14] (fun iv wr => ∃ k : Nat, k ≤ n2 ∧ iv = .int .i64 k ∧ (∀ j, j < k → ts.getD j [] = us.getD j []) ∧ Below w.heap.size w wr) (fun iv _ => n2 - (intOf iv).toNat)
    case atStart => exact ⟨0, Nat.zero_le _, rfl, fun j hj => absurd hj (Nat.not_lt_zero _), Hb.out⟩
    case round =>
      obtain ⟨k, hk, rfl, hsm, bel⟩ := hrel
      have HBwr := hid bel
      have HSM := hid hsm
      clear bel hsm
      by_cases hcj : k < n2
      · skip
        have hcI : (k : Int) < (n2 : Int) := by omega
        obtain ⟨x, xo, xa, xl, xc, rfl, hx, hxc, hxt⟩ := HT.out.at_ k (by omega)
        obtain ⟨y, yo, ya, yl, yc, rfl, hy, hyc, hyt⟩ := HU.out.at_ k (by omega)
        have HXT := hid hxt
        have HYT := hid hyt
        have HFS := hid (fun (h : ts.getD k [] ≠ us.getD k []) => firstU_some (ts := ts) (us := us) (k := k) (by omega) (by omega) HSM.out h)
        have HNX := hid (fun (h : ts.getD k [] = us.getD k []) (j : Nat) (hj : j < k + 1) => show ts.getD j [] = us.getD j [] from by
          rcases Nat.lt_succ_iff_lt_or_eq.1 hj with h1 | rfl
          · exact HSM.out j h1
          · exact h)
        generalize ts.getD k [] = tk at *
        generalize us.getD k [] = uk at *
        clear hxt hyt
        go_wp2_with fail
        by_cases hde : tk = uk
        · skip
          have HDE := hid hde
          have CE := hid (fun (W : World) (h1 : TextAt W xa xl xc tk) (h2 : TextAt W ya yl yc uk) => equal_any xa ya xl yl xc yc tk uk W h1 h2)
          rw [decide_eq_true hde] at CE
          clear hde
          refine wp_region_flow 11 (List.range 11) [] [] (by kernel_rfl) (by kernel_rfl) ?_
          apply Exists.intro
          refine ⟨fun w0 hb0 hF0 => ?_, ?_⟩
          · skip
            have c0 := fun e : Ext w0 => CE.out e.at_ (HXT.out.below (Below.on HBwr.out (Below.on hb0 e.same))) (HYT.out.below (Below.on HBwr.out (Below.on hb0 e.same)))
            have y0 : ∀ w', (∃ x : Ext w0, w' = x.at_) → w'.cell? ⟨x, xo + k, none⟩ = some (.slice xa xl xc) := fun w' ⟨e, he⟩ => he ▸ ((Below.on HBwr.out (Below.on hb0 e.same)).cell (p := ⟨x, xo + k, none⟩) hx).trans hxc
            have y1 : ∀ w', (∃ x : Ext w0, w' = x.at_) → w'.cell? ⟨y, yo + k, none⟩ = some (.slice ya yl yc) := fun w' ⟨e, he⟩ => he ▸ ((Below.on HBwr.out (Below.on hb0 e.same)).cell (p := ⟨y, yo + k, none⟩) hy).trans hyc
            simp only [pick, List.range, List.range.loop, List.getElem?_toArray, List.getElem?_cons_succ, List.getElem?_cons_zero, Option.toList_some, List.cons_append, List.nil_append]
            repeat (first | (go_big_quiet_want; refine quiet_index_s 1 31 _ _ rfl Tryd.underlying31 size_text x xo n1 c1 rfl _ _ rfl k rfl (by omega) ?_; go_big_quiet_on; simp only [Act.put, List.setIfInBounds_toArray, List.set_cons_zero, List.set_cons_succ]) | (go_big_quiet_want; refine quiet_load_one 29 _ rfl ⟨x, xo + k, none⟩ rfl _ y0 _ Tryd.underlying29 rfl ?_; go_big_quiet_on; simp only [Act.put, List.setIfInBounds_toArray, List.set_cons_zero, List.set_cons_succ]) | (go_big_quiet_want; refine quiet_index_s 1 31 _ _ rfl Tryd.underlying31 size_text y yo n2 c2 rfl _ _ rfl k rfl (by omega) ?_; go_big_quiet_on; simp only [Act.put, List.setIfInBounds_toArray, List.set_cons_zero, List.set_cons_succ]) | (go_big_quiet_want; refine quiet_load_one 29 _ rfl ⟨y, yo + k, none⟩ rfl _ y1 _ Tryd.underlying29 rfl ?_; go_big_quiet_on; simp only [Act.put, List.setIfInBounds_toArray, List.set_cons_zero, List.set_cons_succ]) | go_big_quiet_step (first | (go_at_call 49; with_reducible exact Calls.ext (c0 _))))
            exact wpQuiet_nil rfl
          refine AlChk.nil ?_
          refine Walk.fin fun w31 hw31 _ _ => ?_
          simp only [List.drop_succ_cons, List.drop_zero]
          have HBw31 := hid (Below.on HBwr.out hw31)
          have hsw31 := HBw31.out.size
          clear hw31
          go_wp2_with fail
          exact ⟨⟨k + 1, by omega, by first | rfl | simp, HNX.out HDE.out, HBw31.out⟩, by simp [intOf]; omega⟩
        · skip
          have HDE := hid hde
          have CE := hid (fun (W : World) (h1 : TextAt W xa xl xc tk) (h2 : TextAt W ya yl yc uk) => equal_any xa ya xl yl xc yc tk uk W h1 h2)
          rw [decide_eq_false hde] at CE
          clear hde
          refine wp_region_flow 11 (List.range 11) [] [] (by kernel_rfl) (by kernel_rfl) ?_
          apply Exists.intro
          refine ⟨fun w0 hb0 hF0 => ?_, ?_⟩
          · skip
            have c0 := fun e : Ext w0 => CE.out e.at_ (HXT.out.below (Below.on HBwr.out (Below.on hb0 e.same))) (HYT.out.below (Below.on HBwr.out (Below.on hb0 e.same)))
            have y0 : ∀ w', (∃ x : Ext w0, w' = x.at_) → w'.cell? ⟨x, xo + k, none⟩ = some (.slice xa xl xc) := fun w' ⟨e, he⟩ => he ▸ ((Below.on HBwr.out (Below.on hb0 e.same)).cell (p := ⟨x, xo + k, none⟩) hx).trans hxc
            have y1 : ∀ w', (∃ x : Ext w0, w' = x.at_) → w'.cell? ⟨y, yo + k, none⟩ = some (.slice ya yl yc) := fun w' ⟨e, he⟩ => he ▸ ((Below.on HBwr.out (Below.on hb0 e.same)).cell (p := ⟨y, yo + k, none⟩) hy).trans hyc
            simp only [pick, List.range, List.range.loop, List.getElem?_toArray, List.getElem?_cons_succ, List.getElem?_cons_zero, Option.toList_some, List.cons_append, List.nil_append]
            repeat (first | (go_big_quiet_want; refine quiet_index_s 1 31 _ _ rfl Tryd.underlying31 size_text x xo n1 c1 rfl _ _ rfl k rfl (by omega) ?_; go_big_quiet_on; simp only [Act.put, List.setIfInBounds_toArray, List.set_cons_zero, List.set_cons_succ]) | (go_big_quiet_want; refine quiet_load_one 29 _ rfl ⟨x, xo + k, none⟩ rfl _ y0 _ Tryd.underlying29 rfl ?_; go_big_quiet_on; simp only [Act.put, List.setIfInBounds_toArray, List.set_cons_zero, List.set_cons_succ]) | (go_big_quiet_want; refine quiet_index_s 1 31 _ _ rfl Tryd.underlying31 size_text y yo n2 c2 rfl _ _ rfl k rfl (by omega) ?_; go_big_quiet_on; simp only [Act.put, List.setIfInBounds_toArray, List.set_cons_zero, List.set_cons_succ]) | (go_big_quiet_want; refine quiet_load_one 29 _ rfl ⟨y, yo + k, none⟩ rfl _ y1 _ Tryd.underlying29 rfl ?_; go_big_quiet_on; simp only [Act.put, List.setIfInBounds_toArray, List.set_cons_zero, List.set_cons_succ]) | go_big_quiet_step (first | (go_at_call 49; with_reducible exact Calls.ext (c0 _))))
            exact wpQuiet_nil rfl
          refine AlChk.nil ?_
          refine Walk.fin fun w31 hw31 _ _ => ?_
          simp only [List.drop_succ_cons, List.drop_zero]
          have HBw31 := hid (Below.on HBwr.out hw31)
          have hsw31 := HBw31.out.size
          clear hw31
          go_wp2_with fail
          go_returns
          exact ⟨by rw [HFS.out HDE.out]; rfl, HBw31.out⟩
      · skip
        have hke : k = n2 := by omega
        subst hke
        have hcI : ¬ (k : Int) < (k : Int) := by omega
        have HNO := hid (firstU_none (ts := ts) (us := us) (fun j hj => HSM.out j (by omega)))
        go_wp2_with fail
        go_returns
        exact ⟨by rw [HNO.out]; rfl, HBwr.out⟩
  · skip
    have hMi : ¬ (n2 : Int) < (n1 : Int) := by omega
    go_enter Tryd.func48, Tryd.ntmps48
    go_wp2_with fail
    go_loopw [14] (fun iv wr => ∃ k : Nat, k ≤ n1 ∧ iv = .int .i64 k ∧ (∀ j, j < k → ts.getD j [] = us.getD j []) ∧ Below w.heap.size w wr) (fun iv _ => n1 - (intOf iv).toNat)
    case atStart => exact ⟨0, Nat.zero_le _, rfl, fun j hj => absurd hj (Nat.not_lt_zero _), Hb.out⟩
    case round =>
      obtain ⟨k, hk, rfl, hsm, bel⟩ := hrel
      have HBwr := hid bel
      have HSM := hid hsm
      clear bel hsm
      by_cases hcj : k < n1
      · skip
        have hcI : (k : Int) < (n1 : Int) := by omega
        obtain ⟨x, xo, xa, xl, xc, rfl, hx, hxc, hxt⟩ := HT.out.at_ k (by omega)
        obtain ⟨y, yo, ya, yl, yc, rfl, hy, hyc, hyt⟩ := HU.out.at_ k (by omega)
        have HXT := hid hxt
        have HYT := hid hyt
        have HFS := hid (fun (h : ts.getD k [] ≠ us.getD k []) => firstU_some (ts := ts) (us := us) (k := k) (by omega) (by omega) HSM.out h)
        have HNX := hid (fun (h : ts.getD k [] = us.getD k []) (j : Nat) (hj : j < k + 1) => show ts.getD j [] = us.getD j [] from by
          rcases Nat.lt_succ_iff_lt_or_eq.1 hj with h1 | rfl
          · exact HSM.out j h1
          · exact h)
        generalize ts.getD k [] = tk at *
        generalize us.getD k [] = uk at *
        clear hxt hyt
        go_wp2_with fail
        by_cases hde : tk = uk
        · skip
          have HDE := hid hde
          have CE := hid (fun (W : World) (h1 : TextAt W xa xl xc tk) (h2 : TextAt W ya yl yc uk) => equal_any xa ya xl yl xc yc tk uk W h1 h2)
          rw [decide_eq_true hde] at CE
          clear hde
          refine wp_region_flow 11 (List.range 11) [] [] (by kernel_rfl) (by kernel_rfl) ?_
          apply Exists.intro
          refine ⟨fun w0 hb0 hF0 => ?_, ?_⟩
          · skip
            have c0 := fun e : Ext w0 => CE.out e.at_ (HXT.out.below (Below.on HBwr.out (Below.on hb0 e.same))) (HYT.out.below (Below.on HBwr.out (Below.on hb0 e.same)))
            have y0 : ∀ w', (∃ x : Ext w0, w' = x.at_) → w'.cell? ⟨x, xo + k, none⟩ = some (.slice xa xl xc) := fun w' ⟨e, he⟩ => he ▸ ((Below.on HBwr.out (Below.on hb0 e.same)).cell (p := ⟨x, xo + k, none⟩) hx).trans hxc
            have y1 : ∀ w', (∃ x : Ext w0, w' = x.at_) → w'.cell? ⟨y, yo + k, none⟩ = some (.slice ya yl yc) := fun w' ⟨e, he⟩ => he ▸ ((Below.on HBwr.out (Below.on hb0 e.same)).cell (p := ⟨y, yo + k, none⟩) hy).trans hyc
            simp only [pick, List.range, List.range.loop, List.getElem?_toArray, List.getElem?_cons_succ, List.getElem?_cons_zero, Option.toList_some, List.cons_append, List.nil_append]
            repeat (first | (go_big_quiet_want; refine quiet_index_s 1 31 _ _ rfl Tryd.underlying31 size_text x xo n1 c1 rfl _ _ rfl k rfl (by omega) ?_; go_big_quiet_on; simp only [Act.put, List.setIfInBounds_toArray, List.set_cons_zero, List.set_cons_succ]) | (go_big_quiet_want; refine quiet_load_one 29 _ rfl ⟨x, xo + k, none⟩ rfl _ y0 _ Tryd.underlying29 rfl ?_; go_big_quiet_on; simp only [Act.put, List.setIfInBounds_toArray, List.set_cons_zero, List.set_cons_succ]) | (go_big_quiet_want; refine quiet_index_s 1 31 _ _ rfl Tryd.underlying31 size_text y yo n2 c2 rfl _ _ rfl k rfl (by omega) ?_; go_big_quiet_on; simp only [Act.put, List.setIfInBounds_toArray, List.set_cons_zero, List.set_cons_succ]) | (go_big_quiet_want; refine quiet_load_one 29 _ rfl ⟨y, yo + k, none⟩ rfl _ y1 _ Tryd.underlying29 rfl ?_; go_big_quiet_on; simp only [Act.put, List.setIfInBounds_toArray, List.set_cons_zero, List.set_cons_succ]) | go_big_quiet_step (first | (go_at_call 49; with_reducible exact Calls.ext (c0 _))))
            exact wpQuiet_nil rfl
          refine AlChk.nil ?_
          refine Walk.fin fun w31 hw31 _ _ => ?_
          simp only [List.drop_succ_cons, List.drop_zero]
          have HBw31 := hid (Below.on HBwr.out hw31)
          have hsw31 := HBw31.out.size
          clear hw31
          go_wp2_with fail
          exact ⟨⟨k + 1, by omega, by first | rfl | simp, HNX.out HDE.out, HBw31.out⟩, by simp [intOf]; omega⟩
        · skip
          have HDE := hid hde
          have CE := hid (fun (W : World) (h1 : TextAt W xa xl xc tk) (h2 : TextAt W ya yl yc uk) => equal_any xa ya xl yl xc yc tk uk W h1 h2)
          rw [decide_eq_false hde] at CE
          clear hde
          refine wp_region_flow 11 (List.range 11) [] [] (by kernel_rfl) (by kernel_rfl) ?_
          apply Exists.intro
          refine ⟨fun w0 hb0 hF0 => ?_, ?_⟩
          · skip
            have c0 := fun e : Ext w0 => CE.out e.at_ (HXT.out.below (Below.on HBwr.out (Below.on hb0 e.same))) (HYT.out.below (Below.on HBwr.out (Below.on hb0 e.same)))
            have y0 : ∀ w', (∃ x : Ext w0, w' = x.at_) → w'.cell? ⟨x, xo + k, none⟩ = some (.slice xa xl xc) := fun w' ⟨e, he⟩ => he ▸ ((Below.on HBwr.out (Below.on hb0 e.same)).cell (p := ⟨x, xo + k, none⟩) hx).trans hxc
            have y1 : ∀ w', (∃ x : Ext w0, w' = x.at_) → w'.cell? ⟨y, yo + k, none⟩ = some (.slice ya yl yc) := fun w' ⟨e, he⟩ => he ▸ ((Below.on HBwr.out (Below.on hb0 e.same)).cell (p := ⟨y, yo + k, none⟩) hy).trans hyc
            simp only [pick, List.range, List.range.loop, List.getElem?_toArray, List.getElem?_cons_succ, List.getElem?_cons_zero, Option.toList_some, List.cons_append, List.nil_append]
            repeat (first | (go_big_quiet_want; refine quiet_index_s 1 31 _ _ rfl Tryd.underlying31 size_text x xo n1 c1 rfl _ _ rfl k rfl (by omega) ?_; go_big_quiet_on; simp only [Act.put, List.setIfInBounds_toArray, List.set_cons_zero, List.set_cons_succ]) | (go_big_quiet_want; refine quiet_load_one 29 _ rfl ⟨x, xo + k, none⟩ rfl _ y0 _ Tryd.underlying29 rfl ?_; go_big_quiet_on; simp only [Act.put, List.setIfInBounds_toArray, List.set_cons_zero, List.set_cons_succ]) | (go_big_quiet_want; refine quiet_index_s 1 31 _ _ rfl Tryd.underlying31 size_text y yo n2 c2 rfl _ _ rfl k rfl (by omega) ?_; go_big_quiet_on; simp only [Act.put, List.setIfInBounds_toArray, List.set_cons_zero, List.set_cons_succ]) | (go_big_quiet_want; refine quiet_load_one 29 _ rfl ⟨y, yo + k, none⟩ rfl _ y1 _ Tryd.underlying29 rfl ?_; go_big_quiet_on; simp only [Act.put, List.setIfInBounds_toArray, List.set_cons_zero, List.set_cons_succ]) | go_big_quiet_step (first | (go_at_call 49; with_reducible exact Calls.ext (c0 _))))
            exact wpQuiet_nil rfl
          refine AlChk.nil ?_
          refine Walk.fin fun w31 hw31 _ _ => ?_
          simp only [List.drop_succ_cons, List.drop_zero]
          have HBw31 := hid (Below.on HBwr.out hw31)
          have hsw31 := HBw31.out.size
          clear hw31
          go_wp2_with fail
          go_returns
          exact ⟨by rw [HFS.out HDE.out]; rfl, HBw31.out⟩
      · skip
        have hke : k = n1 := by omega
        subst hke
        have hcI : ¬ (k : Int) < (k : Int) := by omega
        have HNO := hid (firstU_none (ts := ts) (us := us) (fun j hj => HSM.out j (by omega)))
        go_wp2_with fail
        go_returns
        exact ⟨by rw [HNO.out]; rfl, HBwr.out⟩
end Go.Proofs.YtkakoiaahgchmaaDoor
namespace Go.Proofs.YtkakoiaahgchmaaDoor
set_option maxRecDepth 100000
open Go.ChangeShapes Go.WideShapes Go.ChangeAt Go.RowKit
set_option maxHeartbeats 4000000 in
theorem part_none (a1 a2 : Option Addr) (n1 n2 c1 c2 : Nat) (ts us : List (List Int)) (w : World) (hT : TextsAt w a1 n1 c1 ts) (hU : TextsAt w a2 n2 c2 us) (hf : firstU ts us = none) :
    Calls Tryd.prog 19 #[.slice a1 n1 c1, .slice a2 n2 c2] w fun e w' => e = .returned (.tuple #[.slice none 0 0, .slice none 0 0, .bool false]) ∧ Below w.heap.size w w' := by
  have Hb := hid (Below.refl w.heap.size w)
  have CU := hid (unlike_any a1 a2 n1 n2 c1 c2 ts us w hT hU)
  rw [hf] at CU
  go_enter Tryd.func19, Tryd.ntmps19
  go_wp2_with fail
  refine CU.out.mono ?_
  rintro e w1 ⟨rfl, b1⟩
  have HBw1 := hid (Below.on Hb.out b1)
  have hsw1 := HBw1.out.size
  clear b1
  go_wp2_with fail
  go_returns
  exact ⟨rfl, HBw1.out⟩
set_option maxHeartbeats 4000000 in
theorem part_some (a1 a2 : Option Addr) (n1 n2 c1 c2 : Nat) (ts us : List (List Int)) (w : World) (hT : TextsAt w a1 n1 c1 ts) (hU : TextsAt w a2 n2 c2 us) (hr1 : ∀ t ∈ ts, t.length ≤ 140737488351232) (hr2 : ∀ t ∈ us, t.length ≤ 140737488351232) {k : Nat} (hf : firstU ts us = some k) :
    Calls Tryd.prog 19 #[.slice a1 n1 c1, .slice a2 n2 c2] w fun e w' => ∃ u v, e = .returned (.tuple #[u, v, .bool true]) ∧ TextV (ts.getD k []) u w' ∧ TextV (us.getD k []) v w' ∧ Below w.heap.size w w' := by
  have Hb := hid (Below.refl w.heap.size w)
  have CU := hid (unlike_any a1 a2 n1 n2 c1 c2 ts us w hT hU)
  rw [hf] at CU
  have hk := firstU_at hf
  have hl1 := hT.length
  have hl2 := hU.length
  obtain ⟨x, xo, xa, xl, xc, rfl, hx, hxc, hxt⟩ := hT.at_ k (by omega)
  obtain ⟨y, yo, ya, yl, yc, rfl, hy, hyc, hyt⟩ := hU.at_ k (by omega)
  have HXT := hid hxt
  have HYT := hid hyt
  have hlx := hxt.length
  have hly := hyt.length
  have hrx := hr1 (ts.getD k []) (by rw [List.getD_eq_getElem?_getD, List.getElem?_eq_getElem (by omega)]; exact List.getElem_mem _)
  have hry := hr2 (us.getD k []) (by rw [List.getD_eq_getElem?_getD, List.getElem?_eq_getElem (by omega)]; exact List.getElem_mem _)
  have hkn1 : k < n1 := by omega
  have hkn2 : k < n2 := by omega
  generalize ts.getD k [] = tk at *
  generalize us.getD k [] = uk at *
  clear hxt hyt hT hU hk
  go_enter Tryd.func19, Tryd.ntmps19
  go_wp2_with fail
  refine CU.out.mono ?_
  rintro e w1 ⟨rfl, b1⟩
  have HBw1 := hid (Below.on Hb.out b1)
  have hsw1 := HBw1.out.size
  clear b1
  go_wp2_with fail
  refine wp_region_flow 10 [0, 1, 2, 3, 5, 6, 7, 8] [] [(.c 4, [], []), (.c 9, [], [])] (by kernel_rfl) (by kernel_rfl) ?_
  apply Exists.intro
  refine ⟨fun w0 hb0 hF0 => ?_, ?_⟩
  · skip
    have y0 : ∀ w', (∃ x : Ext w0, w' = x.at_) → w'.cell? ⟨x, xo + k, none⟩ = some (.slice xa xl xc) := fun w' ⟨e, he⟩ => he ▸ ((Below.on HBw1.out (Below.on hb0 e.same)).cell (p := ⟨x, xo + k, none⟩) hx).trans hxc
    have y1 : ∀ w', (∃ x : Ext w0, w' = x.at_) → w'.cell? ⟨y, yo + k, none⟩ = some (.slice ya yl yc) := fun w' ⟨e, he⟩ => he ▸ ((Below.on HBw1.out (Below.on hb0 e.same)).cell (p := ⟨y, yo + k, none⟩) hy).trans hyc
    simp only [pick, List.getElem?_toArray, List.getElem?_cons_succ, List.getElem?_cons_zero, Option.toList_some, List.cons_append, List.nil_append]
    repeat (first | (go_big_quiet_want; refine quiet_index_s 1 31 _ _ rfl Tryd.underlying31 size_text x xo n1 c1 rfl _ _ rfl k rfl hkn1 ?_; go_big_quiet_on; simp only [Act.put, List.setIfInBounds_toArray, List.set_cons_zero, List.set_cons_succ]) | (go_big_quiet_want; refine quiet_load_one 29 _ rfl ⟨x, xo + k, none⟩ rfl _ y0 _ Tryd.underlying29 rfl ?_; go_big_quiet_on; simp only [Act.put, List.setIfInBounds_toArray, List.set_cons_zero, List.set_cons_succ]) | (go_big_quiet_want; refine quiet_index_s 1 31 _ _ rfl Tryd.underlying31 size_text y yo n2 c2 rfl _ _ rfl k rfl hkn2 ?_; go_big_quiet_on; simp only [Act.put, List.setIfInBounds_toArray, List.set_cons_zero, List.set_cons_succ]) | (go_big_quiet_want; refine quiet_load_one 29 _ rfl ⟨y, yo + k, none⟩ rfl _ y1 _ Tryd.underlying29 rfl ?_; go_big_quiet_on; simp only [Act.put, List.setIfInBounds_toArray, List.set_cons_zero, List.set_cons_succ]) | go_big_quiet_step (fail))
    exact wpQuiet_nil rfl
  refine AlChk.nil ?_
  refine Walk.call rfl 50 #[.slice xa xl xc] (TextV tk) (fun v w' w'' h k => h.below k) rfl (fun w1 hb1 hF1 => ⟨by go_simp, ?_⟩) ?_
  · skip
    refine (clone_any (HXT.out.below (Below.on HBw1.out hb1)) (by omega)).mono ?_
    rintro e w2 ⟨a, c, rfl, b2, t2, -⟩
    exact ⟨_, rfl, b2, _, _, _, rfl, t2⟩
  rintro v0 w1 hb1 hF1 ⟨pa, pn, pc, rfl, _⟩
  apply Exists.intro
  refine ⟨fun w0 hb0 hF0 => ?_, ?_⟩
  · skip
    exact wpQuiet_nil rfl
  refine AlChk.nil ?_
  refine Walk.call rfl 50 #[.slice ya yl yc] (TextV uk) (fun v w' w'' h k => h.below k) rfl (fun w1 hb1 hF1 => ⟨by go_simp, ?_⟩) ?_
  · skip
    refine (clone_any (HYT.out.below (Below.on HBw1.out hb1)) (by omega)).mono ?_
    rintro e w2 ⟨a, c, rfl, b2, t2, -⟩
    exact ⟨_, rfl, b2, _, _, _, rfl, t2⟩
  rintro v1 w1 hb1 hF1 ⟨qa, qn, qc, rfl, _⟩
  apply Exists.intro
  refine ⟨fun w0 hb0 hF0 => ?_, ?_⟩
  · skip
    exact wpQuiet_nil rfl
  refine AlChk.nil ?_
  refine Walk.fin fun w2 hw2 hFw2 _ => ?_
  simp only [List.drop_succ_cons, List.drop_zero]
  have HFw2 := hid hFw2
  have HBw2 := hid (Below.on HBw1.out hw2)
  have hsw2 := HBw2.out.size
  clear hw2 hFw2
  go_wp2_with fail
  go_returns
  exact ⟨_, _, rfl, HFw2.out.1.2, HFw2.out.2, HBw2.out⟩
set_option maxHeartbeats 4000000 in
theorem lnone_yes (w : World) :
    Calls Tryd.prog 21 #[.slice none 0 0, .slice none 0 0, .bool false] w fun e w' => e = .returned (.bool true) ∧ Below w.heap.size w w' := by
  have Hb := hid (Below.refl w.heap.size w)
  go_enter Tryd.func21, Tryd.ntmps21
  go_wp2_with fail
  go_returns
  exact ⟨by first | rfl | simp, Hb.out⟩
set_option maxHeartbeats 4000000 in
theorem found_yes (a1 a2 : Option Addr) (n1 n2 c1 c2 : Nat) (xs ys : List Int) (w : World) (h1 : TextAt w a1 n1 c1 xs) (h2 : TextAt w a2 n2 c2 ys) (hb1 : n1 ≤ 1000000) (hb2 : n2 ≤ 1000000) (hd : xs ≠ ys) (hs : sumZ xs = sumZ ys) :
    Calls Tryd.prog 25 #[.slice a1 n1 c1, .slice a2 n2 c2, .bool true] w fun e w' => e = .returned (.bool true) ∧ Below w.heap.size w w' := by
  have Hb := hid (Below.refl w.heap.size w)
  have cv1 := h1.string Tryd.underlying29 Tryd.underlying5 Tryd.underlying9
  have cv2 := h2.string Tryd.underlying29 Tryd.underlying5 Tryd.underlying9
  have hq := eqStrB h1.small h2.small
  have HT1 := hid h1
  have HT2 := hid h2
  have hne : decide (xs = ys) = false := decide_eq_false hd
  rw [hne] at hq
  have hD := Dg.sum xs
  have qs := fun W : World => eqD_self (sumZ xs) hD.len W
  have C1 := hid (fun (W : World) (h : TextAt W a1 n1 c1 xs) => refsum_any a1 n1 c1 xs W h (by omega))
  have C2 := hid (fun (W : World) (h : TextAt W a2 n2 c2 ys) => refsum_any a2 n2 c2 ys W h (by omega))
  rw [← hs] at C2
  generalize sumZ xs = X at *
  clear h1 h2 hs
  go_enter Tryd.func25, Tryd.ntmps25
  go_wp2_with fail
  refine (C1.out _ (HT1.out.below Hb.out)).mono ?_
  rintro e w1 ⟨rfl, bw1⟩
  have HBw1 := hid (Below.on Hb.out bw1)
  have hsw1 := HBw1.out.size
  clear bw1
  go_wp2_with fail
  refine (C2.out _ (HT2.out.below HBw1.out)).mono ?_
  rintro e w2 ⟨rfl, bw2⟩
  have HBw2 := hid (Below.on HBw1.out bw2)
  have hsw2 := HBw2.out.size
  clear bw2
  go_wp2_with fail
  go_returns
  exact ⟨by first | rfl | simp, HBw2.out⟩
end Go.Proofs.YtkakoiaahgchmaaDoor
namespace Go.Proofs.YtkakoiaahgchmaaDoor
set_option maxRecDepth 100000
open Go.ChangeShapes Go.WideShapes Go.ChangeAt Go.RowKit
open Go.Shelf (Ren)
open Go.Sort (Holds)
def revTRen : Ren := ⟨fun | 35 => 65 | n => n, fun | 22 => 31 | 23 => 29 | 3 => 3 | 4 => 4 | 0 => 0 | n => n, fun | n => n⟩
theorem revTLays : SlLaysE.n35 Tryd.prog revTRen where
  mixed := by kernel_rfl
  f35 := ⟨ "slices.Reverse[[][]byte,[]byte]", by decide, Tryd.func65.trans (congrArg some (by kernel_rfl))⟩
  t0 := Tryd.underlying0
  a0 := Tryd.isAgg0
  z0 := Tryd.sizeOf0
  v0 := Tryd.zeroValue0
  t3 := Tryd.underlying3
  a3 := Tryd.isAgg3
  z3 := Tryd.sizeOf3
  v3 := Tryd.zeroValue3
  t4 := Tryd.underlying4
  a4 := Tryd.isAgg4
  z4 := Tryd.sizeOf4
  v4 := Tryd.zeroValue4
  t22 := Tryd.underlying31
  a22 := Tryd.isAgg31
  z22 := Tryd.sizeOf31
  v22 := Tryd.zeroValue31
  a23 := Tryd.isAgg29
  z23 := Tryd.sizeOf29
def revBRen : Ren := ⟨fun | 35 => 73 | n => n, fun | 22 => 76 | 23 => 4 | 3 => 3 | 4 => 4 | 0 => 0 | n => n, fun | n => n⟩
theorem revBLays : SlLaysE.n35 Tryd.prog revBRen where
  mixed := by kernel_rfl
  f35 := ⟨ "slices.Reverse[[]bool,bool]", by decide, Tryd.func73.trans (congrArg some (by kernel_rfl))⟩
  t0 := Tryd.underlying0
  a0 := Tryd.isAgg0
  z0 := Tryd.sizeOf0
  v0 := Tryd.zeroValue0
  t3 := Tryd.underlying3
  a3 := Tryd.isAgg3
  z3 := Tryd.sizeOf3
  v3 := Tryd.zeroValue3
  t4 := Tryd.underlying4
  a4 := Tryd.isAgg4
  z4 := Tryd.sizeOf4
  v4 := Tryd.zeroValue4
  t22 := Tryd.underlying76
  a22 := Tryd.isAgg76
  z22 := Tryd.sizeOf76
  v22 := Tryd.zeroValue76
  a23 := Tryd.isAgg4
  z23 := Tryd.sizeOf4
/-- A row of cells of the call's own. -/
def OwnV (w : World) (base : Nat) (e : TypeId) (v : Value) (xs : List Value) : Prop := w.ownsRow base e 1 v xs.length xs ∧ ∀ x ∈ xs, x.oneCell' = true
theorem OwnV.nil (w : World) (base : Nat) (e : TypeId) : OwnV w base e (.slice none 0 0) [] := ⟨World.ownsRow_nil w base e 1, by simp⟩
theorem OwnV.below {w w' : World} {base : Nat} {e : TypeId} {v : Value} {xs : List Value} (h : OwnV w base e v xs) (hb : Below w.heap.size w w') : OwnV w' base e v xs := ⟨owns_below h.1 hb, h.2⟩
theorem OwnV.lt {w : World} {base : Nat} {e : TypeId} {v : Value} {xs : List Value} (h : OwnV w base e v xs) : ∀ k, v.ownBlock = some k → base ≤ k ∧ k < w.heap.size := h.1.lt
/-- Other blocks are turned. -/
theorem OwnV.kept {w w' : World} {base : Nat} {e : TypeId} {v : Value} {xs : List Value} (h : OwnV w base e v xs) (hb : ∀ k, v.ownBlock = some k → w'.heap[k]? = w.heap[k]?) : OwnV w' base e v xs := by
  obtain ⟨⟨h1, h2⟩, h3⟩ := h
  refine ⟨⟨h1, h2.imp id ?_⟩, h3⟩
  rintro ⟨g, cap, cur, rfl, hg, hh, hle⟩
  exact ⟨g, cap, cur, rfl, hg, (hb g rfl).trans hh, hle⟩
theorem OwnV.slice {w : World} {base : Nat} {e : TypeId} {v : Value} {xs : List Value} (h : OwnV w base e v xs) : ∃ a c, v = .slice a xs.length c ∧ (∀ p, a = some p → ∃ g, p = ⟨g, 0, none⟩ ∧ base ≤ g) ∧ (a = none → xs = []) ∧ xs.length ≤ c ∧ c ≤ 9223372036854775807 ∧ ∀ g, a = some ⟨g, 0, none⟩ → g < w.heap.size ∧ ∀ j, j < xs.length → w.cell? ⟨g, j, none⟩ = xs[j]? := by
  obtain ⟨⟨h1, ⟨rfl, h2⟩ | ⟨g, cap, cur, rfl, hg, hh, hle, hmx, hsz, htk⟩⟩, h3⟩ := h
  · obtain rfl := List.eq_nil_of_length_eq_zero h2
    exact ⟨none, 0, rfl, by simp, fun _ => rfl, Nat.le_refl _, by omega, by simp⟩
  · refine ⟨_, cap, rfl, fun p hp => ⟨g, by cases hp; rfl, hg⟩, by simp, hle, by unfold maxLen at hmx; omega, fun g' hg' => ?_⟩
    cases hg'
    refine ⟨(Array.getElem?_eq_some_iff.1 hh).1, fun j hj => ?_⟩
    rw [(show Blk w g cur e from hh).cell, ← Array.getElem?_toList]
    have h4 := congrArg (fun l : List Value => l[j]?) htk
    rw [List.getElem?_take, if_pos (by omega)] at h4
    exact h4
/-- One cell more. -/
theorem run_append_v {w : World} {base : Nat} {t e : TypeId} {i : TypeInfo} {z : Value} {v : Value} {xs : List Value} (ty : TypeId) (ht : Tryd.prog.underlying t = some (.slice e)) (hi : Tryd.prog.info? e = some i) (hz : i.zero = some z) (hzs : z.cells.size = 1) (hsize : i.size = 1) (hby : i.bytes ≤ 24) (hown : OwnV w base e v xs) {b : Nat} {x : Value} {T : TypeId} (hk : Blk w b #[x] T) (hx : x.oneCell' = true) (hb : xs.length ≤ 1000000000) (hbase : base ≤ w.heap.size) :
    ∃ v' w', (Builtin.append_ #[t, t] ty #[v, .slice (some ⟨b, 0, none⟩) 1 1]).run Tryd.prog w = .ok v' w' ∧ OwnV w' base e v' (xs ++ [x]) ∧ w.grownBy w' v.ownBlock ∧ Below base w w' ∧ (v'.ownBlock = v.ownBlock ∨ v'.ownBlock = some w.heap.size) := by
  have hbel : ∀ {w' : World}, w.grownBy w' v.ownBlock → Below base w w' := fun hg => ⟨hg.os, hg.tape, hg.output, hg.size, fun k hk => hg.block k (by omega) (fun e => by have := (hown.lt k e.symm).1; omega)⟩
  obtain ⟨v', w', h1, h2, h3, _, h5⟩ := run_append_own_at (P := Tryd.prog) w base t ty e i z 1 i.bytes ht hi hz hsize rfl hzs (by omega) v xs.length xs hown.1 ⟨b, 0, none⟩ 1 1 [x] rfl (fun j u hj => by
    have hj0 : j = 0 := by have := (List.getElem?_eq_some_iff.1 hj).1; simp at this; omega
    subst hj0
    rw [Addr.add_mid, hk.cell]
    simpa using hj) (fun u hu => by simp only [List.mem_singleton] at hu; rw [hu]; exact hx) (by unfold maxLen; omega) (Nat.le_trans (Nat.mul_le_mul_left _ hby) (by omega)) hbase
  refine ⟨v', w', h1, ⟨by rw [List.length_append]; exact h2, fun u hu => ?_⟩, h3, hbel h3, h5⟩
  rcases List.mem_append.1 hu with h | h
  · exact hown.2 u h
  · simp only [List.mem_singleton] at h; rw [h]; exact hx
/-- A cell of a slice, or of a bool: what the shelf turns round. -/
abbrev OneV := {v : Value // v.oneCell' = true}
instance : Inhabited OneV := ⟨⟨.bool false, rfl⟩⟩
theorem oneV_cell : Go.Proofs.OneCell (fun x : OneV => x.1) := fun x => x.2
theorem ones_of {xs : List Value} (h : ∀ x ∈ xs, x.oneCell' = true) : ∃ l : List OneV, l.map Subtype.val = xs := ⟨xs.pmap Subtype.mk h, by simp [List.map_pmap]⟩
theorem OwnV.holds {w : World} {base : Nat} {l : List OneV} {g n c : Nat} {e : TypeId} (h : OwnV w base e (.slice (some ⟨g, 0, none⟩) n c) (l.map Subtype.val)) : n = l.length ∧ Holds (fun x : OneV => x.1) w g 0 l.toArray := by
  obtain ⟨⟨h1, ⟨h2, _⟩ | ⟨g', cap, cur, hv, hg, hh, hle, hmx, hsz, htk⟩⟩, h3⟩ := h
  · cases h2
  · cases hv
    have hb : Blk w g cur e := hh
    refine ⟨by rw [List.length_map], fun j hj => ?_⟩
    have hjl : j < l.length := by simpa using hj
    refine ⟨?_, hb.free _⟩
    rw [Nat.zero_add, hb.cell, ← Array.getElem?_toList]
    have h4 := congrArg (fun l : List Value => l[j]?) htk
    simp only [List.getElem?_take, List.length_map, Nat.mul_one] at h4
    rw [if_pos (by omega)] at h4
    rw [h4, List.getElem?_map, List.getElem?_eq_getElem hjl]
    simp [hjl]
theorem OwnV.put {w : World} {base m : Nat} {l l2 : List OneV} {g n c : Nat} {e : TypeId} (h : OwnV w base e (.slice (some ⟨g, 0, none⟩) n c) (l.map Subtype.val)) (hl : l2.length = l.length) :
    OwnV (Go.Sort.putRow (fun x : OneV => x.1) (Go.Sort.ahead w m) g 0 l2.toArray) base e (.slice (some ⟨g, 0, none⟩) n c) (l2.map Subtype.val) ∧ But g w (Go.Sort.putRow (fun x : OneV => x.1) (Go.Sort.ahead w m) g 0 l2.toArray) := by
  obtain ⟨⟨h1, ⟨h2, _⟩ | ⟨g', cap, cur, hv, hg, hh, hle, hmx, hsz, htk⟩⟩, h3⟩ := h
  · cases h2
  · cases hv
    rw [List.length_map] at hle
    have hcl : ∀ (j : Nat), (l2.map Subtype.val)[j]? = if hj : j < l2.length then some (l2[j]'hj).1 else none := fun j => by
      by_cases hj : j < l2.length
      · rw [dif_pos hj, List.getElem?_map, List.getElem?_eq_getElem hj]; rfl
      · rw [dif_neg hj, List.getElem?_eq_none (by rw [List.length_map]; omega)]
    refine ⟨⟨⟨by omega, .inr ⟨g, c, Go.Sort.putCells (fun x : OneV => x.1) 0 l2.toArray cur, by rw [List.length_map, List.length_map, hl], hg, ?_, by rw [List.length_map, hl]; exact hle, hmx, ?_, ?_⟩⟩, fun v hv => ?_⟩, ⟨rfl, rfl, rfl, ?_, fun k hk hne => ?_⟩⟩
    · show (w.heap.modify g _)[g]? = _
      rw [Array.getElem?_modify, if_pos rfl, hh]
      rfl
    · unfold Go.Sort.putCells
      rw [Array.size_mapIdx, hsz]
    · apply List.ext_getElem?
      intro j
      rw [hcl j]
      by_cases hj : j < l2.length
      · rw [dif_pos hj, List.getElem?_take_of_lt (by rw [List.length_map, Nat.mul_one]; exact hj), Array.getElem?_toList]
        unfold Go.Sort.putCells
        rw [Array.getElem?_mapIdx, Array.getElem?_eq_getElem (xs := cur) (by omega), Option.map_some, if_pos (by simp; omega)]
        simp [hj]
      · rw [dif_neg hj, List.getElem?_eq_none (by rw [List.length_take, List.length_map]; omega)]
    · obtain ⟨x, _, rfl⟩ := List.mem_map.1 hv
      exact x.2
    · show _ ≤ (w.heap.modify g _).size
      rw [Array.size_modify]
      exact Nat.le_refl _
    · show (w.heap.modify g _)[k]? = _
      rw [Array.getElem?_modify, if_neg (fun e => hne e.symm)]
theorem revT_any {e : TypeId} (a : Option Addr) (n c base : Nat) (xs : List Value) (w : World) (h : OwnV w base e (.slice a n c) xs) (hmx : xs.length ≤ 1000000000) :
    Calls Tryd.prog 65 #[.slice a n c] w fun e2 w' => e2 = .returned (.tuple #[]) ∧ OwnV w' base e (.slice a n c) xs.reverse ∧ FlowB.ButIn (Value.slice a n c).ownBlock.toList w w' := by
  obtain ⟨l, rfl⟩ := ones_of h.2
  obtain ⟨a', cap, hv, ha, hn, hcl, hcm, -⟩ := h.slice
  injection hv with ha' hnn hc
  subst ha' hc
  rw [List.length_map] at hnn
  by_cases hz : n = 0
  · subst hz
    obtain rfl := List.eq_nil_of_length_eq_zero hnn.symm
    refine (AnyE.slices_Reverse_empty revTLays a c w : Calls Tryd.prog 65 #[.slice a 0 c] w _).mono ?_
    rintro e2 w' ⟨rfl, rfl⟩
    exact ⟨rfl, h, ⟨rfl, rfl, rfl, Nat.le_refl _, fun _ _ _ => rfl⟩⟩
  · cases a with
    | none =>
      have := hn rfl
      rw [List.map_eq_nil_iff] at this
      subst this
      exact absurd hnn hz
    | some p =>
      obtain ⟨g, rfl, -⟩ := ha p rfl
      obtain ⟨hnl, hh⟩ := h.holds
      subst hnl
      have hq := AnyE.slices_Reverse revTLays (fun x : OneV => x.1) oneV_cell g 0 c l w hh (by rw [List.length_map] at hmx; omega)
      refine (hq : Calls Tryd.prog 65 #[.slice (some ⟨g, 0, none⟩) l.length c] w _).mono ?_
      rintro e2 w' ⟨rfl, m, rfl⟩
      have hp := h.put (m := m) (l2 := l.reverse) (by rw [List.length_reverse])
      rw [← List.map_reverse]
      exact ⟨rfl, hp.1, FlowB.ButIn.of_but hp.2 (by simp [Value.ownBlock])⟩
theorem revB_any {e : TypeId} (a : Option Addr) (n c base : Nat) (xs : List Value) (w : World) (h : OwnV w base e (.slice a n c) xs) (hmx : xs.length ≤ 1000000000) :
    Calls Tryd.prog 73 #[.slice a n c] w fun e2 w' => e2 = .returned (.tuple #[]) ∧ OwnV w' base e (.slice a n c) xs.reverse ∧ FlowB.ButIn (Value.slice a n c).ownBlock.toList w w' := by
  obtain ⟨l, rfl⟩ := ones_of h.2
  obtain ⟨a', cap, hv, ha, hn, hcl, hcm, -⟩ := h.slice
  injection hv with ha' hnn hc
  subst ha' hc
  rw [List.length_map] at hnn
  by_cases hz : n = 0
  · subst hz
    obtain rfl := List.eq_nil_of_length_eq_zero hnn.symm
    refine (AnyE.slices_Reverse_empty revBLays a c w : Calls Tryd.prog 73 #[.slice a 0 c] w _).mono ?_
    rintro e2 w' ⟨rfl, rfl⟩
    exact ⟨rfl, h, ⟨rfl, rfl, rfl, Nat.le_refl _, fun _ _ _ => rfl⟩⟩
  · cases a with
    | none =>
      have := hn rfl
      rw [List.map_eq_nil_iff] at this
      subst this
      exact absurd hnn hz
    | some p =>
      obtain ⟨g, rfl, -⟩ := ha p rfl
      obtain ⟨hnl, hh⟩ := h.holds
      subst hnl
      have hq := AnyE.slices_Reverse revBLays (fun x : OneV => x.1) oneV_cell g 0 c l w hh (by rw [List.length_map] at hmx; omega)
      refine (hq : Calls Tryd.prog 73 #[.slice (some ⟨g, 0, none⟩) l.length c] w _).mono ?_
      rintro e2 w' ⟨rfl, m, rfl⟩
      have hp := h.put (m := m) (l2 := l.reverse) (by rw [List.length_reverse])
      rw [← List.map_reverse]
      exact ⟨rfl, hp.1, FlowB.ButIn.of_but hp.2 (by simp [Value.ownBlock])⟩
end Go.Proofs.YtkakoiaahgchmaaDoor
namespace Go.Proofs.YtkakoiaahgchmaaDoor
set_option maxRecDepth 100000
open Go.RowKit
section
variable {P : Program} {ops : Array Oper} {Q : Exit → Act → World → Prop}
theorem wpOp_val {i : Nat} {o : Oper} {K : Act → World → Prop} {a : Act} {w w' : World} {v : Value} (hi : ops[i]? = some o) (hg : o.guard = none) (hr : (execOp a.eval o).run P w = .ok (.value v) w') (h : K (a.put o.dst v) w') : wpOp P ops Q i K a w := by
  unfold wpOp
  simp only [hi]
  rw [if_pos (by unfold Region.wanted; rw [hg])]
  left
  unfold Oper.wp
  rw [hr, Oper.upon_value]
  exact h
theorem wpOp_skips {i : Nat} {o : Oper} {K : Act → World → Prop} {a : Act} {w w' : World} (hi : ops[i]? = some o) (hg : o.guard = none) (hd : o.dst = none) (hr : (execOp a.eval o).run P w = .ok .skip w') (h : K a w') : wpOp P ops Q i K a w := by
  unfold wpOp
  simp only [hi]
  rw [if_pos (by unfold Region.wanted; rw [hg])]
  left
  unfold Oper.wp
  rw [hr]
  show K (a.put o.dst undef) w'
  rw [hd]
  exact h
/-- What a load of a whole variable comes to. -/
theorem exec_load_blk {o : Oper} {A : Act} {w : World} (ty : TypeId) (x : Operand) (ho : o.op = .load ty x) (b : Nat) (hx : A.eval x = .pointer (some ⟨b, 0, none⟩)) (cs : Array Value) (T : TypeId) (hb : Blk w b cs T) (d : TypeDesc) (hu : P.underlying ty = some d) (hd : d.isRow = true) (n : Nat) (hi : (P.info? ty).map (·.size) = some n) (hs : cs.size = n) :
    (execOp A.eval o).run P w = .ok (.value (.agg cs)) w := by
  unfold execOp
  simp only [ho, hx, Instr.loadAt, Instr.sureAddr, Sem.run_bind, Sem.run_pure, Result.andThen_ok, run_loadVar_mid w b 0 ty cs.toList d hb.rangeAt hu hd (by rw [hi]; simp [hs])]
end
def pl (l : List Nat) : Array Bool := l.foldl (fun x i => x.setIfInBounds i true) (Array.replicate 6 false)
/-- Two loads, two variables, two stores; the second load may come up behind the first store. -/
def pairB (l : List Oper) : Bool :=
  Region.noSelect l.toArray && l.length == 6 && Region.free .any l.toArray (pl []) 0 && Region.free .any l.toArray (pl [0]) 1 &&
  (Region.ready .any l.toArray (pl [])).contains 0 && (Region.ready .any l.toArray (pl [0])).contains 1 && Region.ready .any l.toArray (pl [0, 1]) == [2, 3] &&
  Region.ready .any l.toArray (pl [0, 1, 2]) == [3] && Region.ready .any l.toArray (pl [0, 1, 3]) == [2] &&
  [[0, 1, 2, 3], [0, 1, 3, 2]].all fun m => Region.ready .any l.toArray (pl m) == [4] && Region.ready .any l.toArray (pl (m ++ [4])) == [5] && Region.ready .any l.toArray (pl (m ++ [4, 5])) == []
def pairF (a : Act) (o0 o1 o2 o3 : Oper) (X Y : Array Value) (b c : Nat) : Act :=
  (((a.put o0.dst (.agg X)).put o1.dst (.agg Y)).put o2.dst (.pointer (some ⟨b, 0, none⟩))).put o3.dst (.pointer (some ⟨c, 0, none⟩))
theorem wp_pair {P : Program} {id : Nat} {Q : Exit → Act → World → Prop} {a : Act} {w : World} {l : List Oper} (hm : P.follows .mixedOrders = true) (hB : pairB l = true) (hQ : ∀ c (a : Act) d v w, Q (.panic c) (a.put d v) w → Q (.panic c) a w)
    (o0 o1 o2 o3 o4 o5 : Oper) (h0 : l[0]? = some o0) (h1 : l[1]? = some o1) (h2 : l[2]? = some o2) (h3 : l[3]? = some o3) (h4 : l[4]? = some o4) (h5 : l[5]? = some o5) (ty : TypeId) (x y p4 q4 p5 q5 : Operand)
    (e0 : o0.op = .load ty x) (e1 : o1.op = .load ty y) (e4 : o4.op = .store ty p4 q4) (e5 : o5.op = .store ty p5 q5)
    (g0 : o0.guard = none) (g1 : o1.guard = none) (g2 : o2.guard = none) (g3 : o3.guard = none) (g4 : o4.guard = none) (g5 : o5.guard = none) (n4 : o4.dst = none) (n5 : o5.dst = none) (hne : ∀ d, o2.dst = some d → o3.dst ≠ some d)
    (bx bz : Nat) (X Y : Array Value) (hx : a.eval x = .pointer (some ⟨bx, 0, none⟩)) (hy : (a.put o0.dst (.agg X)).eval y = .pointer (some ⟨bz, 0, none⟩)) (T1 T2 : TypeId) (kx : Blk w bx X T1) (ky : Blk w bz Y T2)
    (d : TypeDesc) (hu : P.underlying ty = some d) (hd : d.isRow = true) (n : Nat) (hi : (P.info? ty).map (·.size) = some n) (sX : X.size = n) (sY : Y.size = n) (cX : X.all (·.oneCell') = true) (cY : Y.all (·.oneCell') = true)
    (Z : Array Value) (sZ : Z.size = n)
    (a2 : ∀ (A : Act) W, (execOp A.eval o2).run P W = .ok (.value (.pointer (some ⟨W.heap.size, 0, none⟩))) (W.alloc (.cells Z ty (0, 0))))
    (a3 : ∀ (A : Act) W, (execOp A.eval o3).run P W = .ok (.value (.pointer (some ⟨W.heap.size, 0, none⟩))) (W.alloc (.cells Z ty (0, 0))))
    (hev : ∀ b c, (pairF a o0 o1 o2 o3 X Y b c).eval p4 = .pointer (some ⟨b, 0, none⟩) ∧ (pairF a o0 o1 o2 o3 X Y b c).eval q4 = .agg X ∧ (pairF a o0 o1 o2 o3 X Y b c).eval p5 = .pointer (some ⟨c, 0, none⟩) ∧ (pairF a o0 o1 o2 o3 X Y b c).eval q5 = .agg Y)
    (hfin : ∀ b c w', Below w.heap.size w w' → w.heap.size ≤ b → w.heap.size ≤ c → b ≠ c → Blk w' b X ty → Blk w' c Y ty → wpList P l.toArray Q [] (pairF a o0 o1 o2 o3 X Y b c) w') : (Code.region id l.toArray true).wp P Q a w := by
  unfold pairB at hB
  simp only [Bool.and_eq_true, beq_iff_eq, List.all_cons, List.all_nil, Bool.and_true] at hB
  obtain ⟨⟨⟨⟨⟨⟨⟨⟨⟨hs, hl⟩, f0⟩, f1⟩, r0⟩, r1⟩, r01⟩, r012⟩, r013⟩, ⟨⟨rA, rA4⟩, rA5⟩, ⟨rB, rB4⟩, rB5⟩ := hB
  have size6 : l.toArray.size = 6 := by simpa using hl
  refine wp_region_held (S := fun W => Below w.heap.size w W) hm ?_
  rw [size6]
  have h0' : l.toArray[0]? = some o0 := by simpa using h0
  have h1' : l.toArray[1]? = some o1 := by simpa using h1
  have h2' : l.toArray[2]? = some o2 := by simpa using h2
  have h3' : l.toArray[3]? = some o3 := by simpa using h3
  have h4' : l.toArray[4]? = some o4 := by simpa using h4
  have h5' : l.toArray[5]? = some o5 := by simpa using h5
  have hw : ∀ (o : Oper) (A : Act), o.guard = none → Region.wanted o (yielded l.toArray A.tmps) = true := fun o A hg => by unfold Region.wanted; rw [hg]
  have tail : ∀ L b c W, Region.ready .any l.toArray L = [4] → Region.ready .any l.toArray (L.setIfInBounds 4 true) = [5] → Region.ready .any l.toArray ((L.setIfInBounds 4 true).setIfInBounds 5 true) = [] → Below w.heap.size w W → w.heap.size ≤ b → w.heap.size ≤ c → b ≠ c → Blk W b Z ty → Blk W c Z ty →
      wpAnyH P .any l.toArray Q (fun W => Below w.heap.size w W) 2 L (pairF a o0 o1 o2 o3 X Y b c) W := by
    intro L b c W q4' q5' q6' hW hb hc hbc kb kc
    obtain ⟨v1, v2, v3, v4⟩ := hev b c
    refine wpAnyH_all (rs := [4]) q4' (by simp) ?_
    intro i hi'
    obtain rfl : i = 4 := by simpa using hi'
    obtain ⟨w1, s1, s2, s3⟩ := FlowB.exec_store_blk ty p4 q4 e4 b X v1 v2 Z ty kb n hi sZ sX cX
    have hW1 := s2.below hW hW.size hb
    have kc1 := s2.blk kc (Ne.symm hbc)
    refine wpOp_skips h4' g4 n4 s1 ⟨hW1, ?_⟩
    refine wpAnyH_all (rs := [5]) q5' (by simp) ?_
    intro i hi'
    obtain rfl : i = 5 := by simpa using hi'
    obtain ⟨w2, s4, s5, s6⟩ := FlowB.exec_store_blk ty p5 q5 e5 c Y v3 v4 Z ty kc1 n hi sZ sY cY
    have hW2 := s5.below hW1 hW1.size hc
    refine wpOp_skips h5' g5 n5 s4 ⟨hW2, ?_⟩
    exact wpAnyH_done q6' (hfin b c w2 hW2 hb hc hbc (s5.blk s3 hbc) s6) _
  have hS0 : Below w.heap.size w w.drew := (Below.refl _ _).drew
  refine wpAnyH_take (i := 0) (oi := o0) (v := .agg X) h0' hs f0 r0 (fun c a w h => hQ c a _ _ w h) (.inl ⟨hw _ _ g0, fun W hW => exec_load_blk ty x e0 bx hx X T1 (kx.below hW) d hu hd n hi sX⟩) hS0 ?_
  refine wpAnyH_take (i := 1) (oi := o1) (v := .agg Y) h1' hs f1 r1 (fun c a w h => hQ c a _ _ w h) (.inl ⟨hw _ _ g1, fun W hW => exec_load_blk ty y e1 bz hy Y T2 (ky.below hW) d hu hd n hi sY⟩) hS0 ?_
  refine wpAnyH_all (rs := [2, 3]) r01 (by simp) ?_
  intro i hi'
  have hdr : w.drew.heap.size = w.heap.size := rfl
  have b1 : Below w.heap.size w (w.drew.alloc (.cells Z ty (0, 0))) := hS0.alloc hS0.size _
  have b2 : Below w.heap.size w ((w.drew.alloc (.cells Z ty (0, 0))).alloc (.cells Z ty (0, 0))) := b1.alloc b1.size _
  have k1 : Blk ((w.drew.alloc (.cells Z ty (0, 0))).alloc (.cells Z ty (0, 0))) w.heap.size Z ty := (Blk.new rfl Z ty).old _
  have k2 : Blk ((w.drew.alloc (.cells Z ty (0, 0))).alloc (.cells Z ty (0, 0))) (w.drew.alloc (.cells Z ty (0, 0))).heap.size Z ty := Blk.new rfl Z ty
  have hsz : (w.drew.alloc (.cells Z ty (0, 0))).heap.size = w.heap.size + 1 := by rw [World.size_alloc, hdr]
  have hi'' : i = 2 ∨ i = 3 := by simpa using hi'
  rcases hi'' with rfl | rfl
  · refine wpOp_val h2' g2 (a2 _ _) ⟨b1, ?_⟩
    refine wpAnyH_all (rs := [3]) r012 (by simp) ?_
    intro i hi'
    obtain rfl : i = 3 := by simpa using hi'
    refine wpOp_val h3' g3 (a3 _ _) ⟨b2, ?_⟩
    exact tail _ w.heap.size (w.drew.alloc (.cells Z ty (0, 0))).heap.size _ rA rA4 rA5 b2 (Nat.le_refl _) (by omega) (by omega) k1 k2
  · refine wpOp_val h3' g3 (a3 _ _) ⟨b1, ?_⟩
    refine wpAnyH_all (rs := [2]) r013 (by simp) ?_
    intro i hi'
    obtain rfl : i = 2 := by simpa using hi'
    refine wpOp_val h2' g2 (a2 _ _) ⟨b2, ?_⟩
    have := tail _ (w.drew.alloc (.cells Z ty (0, 0))).heap.size w.heap.size _ rB rB4 rB5 b2 (by omega) (Nat.le_refl _) (by omega) k2 k1
    unfold pairF at this
    rw [Act.put_comm _ _ _ hne] at this
    exact this
end Go.Proofs.YtkakoiaahgchmaaDoor
namespace Go.Proofs.YtkakoiaahgchmaaDoor
set_option maxRecDepth 100000
open Go.ChangeShapes Go.WideShapes Go.ChangeAt Go.RowKit
/-- A row of texts of the call's own; the texts lie in other blocks, and in none of a list. -/
def OwnR (w : World) (S : List Nat) (base : Nat) (v : Value) (ts : List (List Int)) : Prop := ∃ xs, OwnV w base 29 v xs ∧ xs.length = ts.length ∧ ∀ j, j < ts.length → ∃ a l c, xs[j]? = some (.slice a l c) ∧ TextAt w a l c (ts.getD j []) ∧ (0 < l → ∀ p : Addr, a = some p → v.ownBlock ≠ some p.block ∧ p.block ∉ S)
theorem OwnR.nil (w : World) (S : List Nat) (base : Nat) : OwnR w S base (.slice none 0 0) [] := ⟨[], OwnV.nil w base 29, rfl, fun j hj => by simp at hj⟩
theorem OwnR.below {w w' : World} {S : List Nat} {base : Nat} {v : Value} {ts : List (List Int)} (h : OwnR w S base v ts) (hb : Below w.heap.size w w') : OwnR w' S base v ts := by
  obtain ⟨xs, h1, h2, h3⟩ := h
  exact ⟨xs, h1.below hb, h2, fun j hj => by obtain ⟨a, l, c, q1, q2, q3⟩ := h3 j hj; exact ⟨a, l, c, q1, q2.below hb, q3⟩⟩
theorem OwnR.lt {w : World} {S : List Nat} {base : Nat} {v : Value} {ts : List (List Int)} (h : OwnR w S base v ts) : ∀ k, v.ownBlock = some k → base ≤ k ∧ k < w.heap.size := by
  obtain ⟨xs, h1, _⟩ := h
  exact h1.lt
theorem OwnR.size {w : World} {S : List Nat} {base : Nat} {v : Value} {ts : List (List Int)} (h : OwnR w S base v ts) : ∀ g ∈ v.ownBlock.toList, g < w.heap.size := fun g hm => (h.lt g (by simpa using hm)).2
theorem OwnR.from {w : World} {S : List Nat} {base : Nat} {v : Value} {ts : List (List Int)} (h : OwnR w S base v ts) : ∀ g ∈ v.ownBlock.toList, base ≤ g := fun g hm => (h.lt g (by simpa using hm)).1
theorem OwnR.low {w : World} {S : List Nat} {base b : Nat} {v : Value} {ts : List (List Int)} (h : OwnR w S base v ts) (hb : b < base) : b ∉ v.ownBlock.toList := fun hm => by
  have := h.from b hm
  omega
/-- A block of the list is changed. -/
theorem OwnR.keptBut {w w' : World} {S : List Nat} {base b : Nat} {v : Value} {ts : List (List Int)} (h : OwnR w S base v ts) (hb : But b w w') (hS : b ∈ S) (hlt : b < base) : OwnR w' S base v ts := by
  have hl := h.lt
  obtain ⟨xs, h1, h2, h3⟩ := h
  refine ⟨xs, h1.kept fun k hk => hb.block k (hl k hk).2 (by have := (hl k hk).1; omega), h2, fun j hj => ?_⟩
  obtain ⟨a, l, c, q1, q2, q3⟩ := h3 j hj
  exact ⟨a, l, c, q1, q2.but hb fun h0 p hp e => (q3 h0 p hp).2 (e ▸ hS), q3⟩
theorem OwnR.texts {w : World} {S : List Nat} {base : Nat} {v : Value} {ts : List (List Int)} (h : OwnR w S base v ts) : ∃ a cap, v = .slice a ts.length cap ∧ TextsAt w a ts.length cap ts := by
  obtain ⟨xs, ⟨⟨h1, ⟨rfl, h2⟩ | ⟨g, cap, cur, rfl, hg, hh, hle, hmx, hsz, htk⟩⟩, _⟩, hl, h3⟩ := h
  · exact ⟨none, 0, by rw [← hl, h2], rfl, by omega, by omega, .inl (by omega)⟩
  · rw [hl] at hle
    refine ⟨_, cap, by rw [hl], rfl, hle, by unfold maxLen at hmx; omega, .inr ⟨g, 0, rfl, (Array.getElem?_eq_some_iff.1 hh).1, fun j hj => ?_⟩⟩
    obtain ⟨a, l, c, q1, q2, _⟩ := h3 j hj
    refine ⟨a, l, c, ?_, q2⟩
    rw [Nat.zero_add, (show Blk w g cur 29 from hh).cell]
    rw [← htk, List.getElem?_take, if_pos (by omega)] at q1
    simpa using q1
theorem TextAt.none_len {w w' : World} {a : Option Addr} {l c : Nat} {t : List Int} (h : TextAt w a l c t) (h0 : l = 0) : TextAt w' a l c t := by
  subst h0
  obtain ⟨h1, h2, h3, h4, h5 | ⟨x, o, s, h5, _⟩⟩ := h
  · exact ⟨h1, h2, h3, h4, .inl h5⟩
  · exact ⟨h1, h2, h3, h4, .inr ⟨x, o, s, h5, fun j hj => absurd hj (Nat.not_lt_zero _)⟩⟩
/-- One text more. -/
theorem run_append_t {w : World} {S : List Nat} {base : Nat} {v : Value} {ts : List (List Int)} (hown : OwnR w S base v ts) {b : Nat} {ta : Option Addr} {tl tc : Nat} {t : List Int} {T : TypeId} (hk : Blk w b #[.slice ta tl tc] T) (hT : TextAt w ta tl tc t) (hsep : 0 < tl → ∀ p : Addr, ta = some p → v.ownBlock ≠ some p.block ∧ p.block ∉ S) (hb : ts.length ≤ 1000000) (hbase : base ≤ w.heap.size) :
    ∃ v' w', (Builtin.append_ #[31, 31] 31 #[v, .slice (some ⟨b, 0, none⟩) 1 1]).run Tryd.prog w = .ok v' w' ∧ OwnR w' S base v' (ts ++ [t]) ∧ w.grownBy w' v.ownBlock ∧ Below base w w' := by
  obtain ⟨xs, h1, h2, h3⟩ := hown
  obtain ⟨i0, hi, hz0, hz1, hz2⟩ := info_parts info_text
  obtain ⟨v', w', r1, r2, r3, r4, r5⟩ := run_append_v 31 Tryd.underlying31 hi hz0 rfl hz1 (by omega) h1 hk rfl (by omega) hbase
  have hkeep : ∀ {a : Option Addr} {l c : Nat} {y : List Int}, TextAt w a l c y → (0 < l → ∀ p : Addr, a = some p → v.ownBlock ≠ some p.block) → TextAt w' a l c y := by
    intro a l c y hy hp
    rcases Nat.eq_zero_or_pos l with h0 | h0
    · exact hy.none_len h0
    · exact hy.grown r3 fun k hk => .inr fun p hpp e => hp h0 p hpp (by rw [hk, e])
  have hnew : ∀ {a : Option Addr} {l c : Nat} {y : List Int}, TextAt w a l c y → (0 < l → ∀ p : Addr, a = some p → v.ownBlock ≠ some p.block ∧ p.block ∉ S) → (0 < l → ∀ p : Addr, a = some p → v'.ownBlock ≠ some p.block ∧ p.block ∉ S) := by
    intro a l c y hy hp h0 p hpp
    refine ⟨?_, (hp h0 p hpp).2⟩
    rcases r5 with r5 | r5
    · rw [r5]; exact (hp h0 p hpp).1
    · obtain ⟨x, o, he, hx, _⟩ := hy.at_ h0
      rw [hpp] at he
      cases he
      rw [r5]
      intro e
      have := Option.some.inj e
      simp only at this
      omega
  refine ⟨v', w', r1, ⟨xs ++ [.slice ta tl tc], r2, by rw [List.length_append, List.length_append, h2]; rfl, fun j hj => ?_⟩, r3, r4⟩
  rw [List.length_append] at hj
  rcases Nat.lt_or_ge j ts.length with hlt | hge
  · obtain ⟨a, l, c, q1, q2, q3⟩ := h3 j hlt
    refine ⟨a, l, c, by rw [List.getElem?_append_left (by omega)]; exact q1, ?_, hnew q2 q3⟩
    rw [show (ts ++ [t]).getD j [] = ts.getD j [] by simp [List.getD_eq_getElem?_getD, List.getElem?_append_left hlt]]
    exact hkeep q2 fun h0 p hp => (q3 h0 p hp).1
  · have hj0 : j = ts.length := by simp at hj; omega
    subst hj0
    refine ⟨ta, tl, tc, by rw [List.getElem?_append_right (by omega), h2, Nat.sub_self]; rfl, ?_, hnew hT hsep⟩
    rw [show (ts ++ [t]).getD ts.length [] = t by simp [List.getD_eq_getElem?_getD]]
    exact hkeep hT fun h0 p hp => (hsep h0 p hp).1
/-- The trail turned round. -/
theorem trail_rev (S : List Nat) (base : Nat) (a : Option Addr) (n c : Nat) (ts : List (List Int)) (w : World) (h : OwnR w S base (.slice a n c) ts) (hmx : ts.length ≤ 1000000) :
    Calls Tryd.prog 65 #[.slice a n c] w fun e w' => e = .returned (.tuple #[]) ∧ OwnR w' S base (.slice a n c) ts.reverse ∧ FlowB.ButIn (Value.slice a n c).ownBlock.toList w w' := by
  obtain ⟨xs, h1, h2, h3⟩ := h
  refine (revT_any a n c base xs w h1 (by omega)).mono ?_
  rintro e w' ⟨rfl, r1, r2⟩
  refine ⟨rfl, ⟨xs.reverse, r1, by rw [List.length_reverse, List.length_reverse, h2], fun j hj => ?_⟩, r2⟩
  rw [List.length_reverse] at hj
  obtain ⟨a', l, c', q1, q2, q3⟩ := h3 (ts.length - 1 - j) (by omega)
  refine ⟨a', l, c', by rw [List.getElem?_reverse (by omega), h2]; exact q1, ?_, q3⟩
  rw [show ts.reverse.getD j [] = ts.getD (ts.length - 1 - j) [] by rw [List.getD_eq_getElem?_getD, List.getElem?_reverse hj, ← List.getD_eq_getElem?_getD]]
  rcases Nat.eq_zero_or_pos l with h0 | h0
  · exact q2.none_len h0
  · obtain ⟨g1, g2, g3, g4, g5 | ⟨x, o, s, rfl, hc⟩⟩ := q2
    · exact ⟨g1, g2, g3, g4, .inl g5⟩
    · refine ⟨g1, g2, g3, g4, .inr ⟨x, o, s, rfl, fun i hi => ?_⟩⟩
      obtain ⟨k0, k1, k2⟩ := hc i hi
      refine ⟨k0, Nat.lt_of_lt_of_le k1 r2.size, ?_⟩
      rw [← k2]
      unfold World.cell?
      have hne := (q3 h0 ⟨x, o, s⟩ rfl).1
      rw [show w'.heap[x]? = w.heap[x]? from r2.block x k1 (fun e => hne (by simpa using e))]
/-- A node's text. -/
def nodeX (a b : List Int) : List Int := 1 :: (a ++ b)
end Go.Proofs.YtkakoiaahgchmaaDoor
namespace Go.Proofs.YtkakoiaahgchmaaDoor
set_option maxRecDepth 100000
open Go.ChangeShapes Go.WideShapes Go.ChangeAt Go.RowKit
theorem size_rowt : (Tryd.prog.info? 31).map (·.size) = some 1 := by kernel_rfl
theorem FlowB.ButIn.wide {S S' : List Nat} {a b : World} (h : FlowB.ButIn S a b) (hs : ∀ x ∈ S, x ∈ S') : FlowB.ButIn S' a b := ⟨h.os, h.tape, h.output, h.size, fun k hk hn => h.block k hk fun hm => hn (hs k hm)⟩
theorem FlowB.ButIn.trans_ {S : List Nat} {a b c : World} (h : FlowB.ButIn S a b) (k : FlowB.ButIn S b c) : FlowB.ButIn S a c := (FlowB.rel_butIn S).trans h k
theorem TextAt.butIn {w w' : World} {S : List Nat} {a : Option Addr} {len cap : Nat} {t : List Int} (h : TextAt w a len cap t) (ho : ∀ p : Addr, a = some p → p.block ∉ S) (hb : FlowB.ButIn S w w') : TextAt w' a len cap t := by
  obtain ⟨h1, h2, h3, h4, h | ⟨x, o, s, rfl, hc⟩⟩ := h
  · exact ⟨h1, h2, h3, h4, .inl h⟩
  · refine ⟨h1, h2, h3, h4, .inr ⟨x, o, s, rfl, fun j hj => ?_⟩⟩
    obtain ⟨k0, k1, k2⟩ := hc j hj
    refine ⟨k0, Nat.lt_of_lt_of_le k1 hb.size, ?_⟩
    rw [← k2]
    unfold World.cell?
    rw [show w'.heap[x]? = w.heap[x]? from hb.block x k1 (ho ⟨x, o, s⟩ rfl)]
/-- The tables lie below. -/
def tabLow (n : Nat) : Prop := 1 < n ∧ 0 < n
theorem tab_butIn {S : List Nat} {w w' : World} (h : ShaTab w) (hb : FlowB.ButIn S w w') (hS : ∀ x ∈ S, tabLow x) : ShaTab w' := by
  refine h.same hb.size (fun j => ?_) (fun j => ?_)
  · unfold World.cell?
    rw [show w'.heap[_]? = w.heap[_]? from hb.block _ h.lt (fun hm => by have := (hS _ hm).1; omega)]
  · unfold World.cell?
    rw [show w'.heap[_]? = w.heap[_]? from hb.block _ h.lt0 (fun hm => by have := (hS _ hm).2; omega)]
theorem tab_all {bx bt base : Nat} {l : List Nat} (h1 : tabLow bx) (h2 : tabLow bt) (h3 : tabLow base) (hl : ∀ g ∈ l, base ≤ g) : ∀ x ∈ bx :: bt :: l, tabLow x := fun x hx => by
  rcases List.mem_cons.1 hx with rfl | hx
  · exact h1
  · rcases List.mem_cons.1 hx with rfl | hx
    · exact h2
    · have := hl x hx
      exact ⟨Nat.lt_of_lt_of_le h3.1 this, Nat.lt_of_lt_of_le h3.2 this⟩
def leftS (b : Bool) (x s : List Int) : List Int := if b then s else x
def rightS2 (b : Bool) (x s : List Int) : List Int := if b then x else s
set_option maxHeartbeats 4000000 in
theorem up_l (x s : List Int) (bx bt base : Nat) (v : Value) (ts : List (List Int)) (w : World) (hX : Dg x) (hs : Dg s) (kx : Blk w bx (x.map (Value.int .u8)).toArray 23) (kt : Blk w bt #[v] 31) (ho : OwnR w [bx, bt] base v ts) (hbx : bx < base) (hbt : bt < base) (hne : bx ≠ bt) (hbase : base ≤ w.heap.size) (hl : ts.length ≤ 1000) (hgx : tabLow bx) (hgt : tabLow bt) (hgb_ : tabLow base) (tab : ShaTab w) :
    Calls Tryd.prog 63 #[.agg (s.map (Value.int .u8)).toArray, .bool false, .pointer (some ⟨bx, 0, none⟩), .pointer (some ⟨bt, 0, none⟩)] w fun e w' => e = .returned (.tuple #[]) ∧ ∃ v', Blk w' bx ((nodeL x s).map (Value.int .u8)).toArray 23 ∧ Blk w' bt #[v'] 31 ∧ OwnR w' [bx, bt] base v' (ts ++ [nodeX x s]) ∧ FlowB.ButIn (bx :: bt :: v.ownBlock.toList) w w' := by
  have b1 := (Below.refl w.heap.size w).alloc (Nat.le_refl _) (.cells (s.map (Value.int .u8)).toArray 23 (0, 0))
  have Ks := hid (Blk.new (w := w) (n := w.heap.size) rfl (s.map (Value.int .u8)).toArray 23)
  have Hb := hid b1
  have hbz := b1.size
  have Hbs := hid (show w.heap.size + 1 = (w.alloc (.cells (s.map (Value.int .u8)).toArray 23 (0, 0))).heap.size by simp only [World.size_alloc])
  have Htab := hid tab
  clear b1 tab 
  have Kx := hid (kx.below Hb.out)
  have Kt := hid (kt.below Hb.out)
  have HO := hid (ho.below Hb.out)
  have hlx := kx.lt
  have hlt := kt.lt
  have HS := hid hs
  have HX := hid hX
  have ho0 := ho.from
  clear kx kt ho
  go_enter Tryd.func63, Tryd.ntmps63
  go_wp2_with fail
  have hsx : Hid ((byteCells 32 []).size = 32) := hid zsize
  refine wp_pair (by kernel_rfl) (by kernel_rfl) (fun _ _ d _ _ h => by cases d <;> exact h) _ _ _ _ _ _ rfl rfl rfl rfl rfl rfl 23 _ _ _ _ _ _ rfl rfl rfl rfl rfl rfl rfl rfl rfl rfl rfl rfl (by simp) bx (w.heap.size) (x.map (Value.int .u8)).toArray (s.map (Value.int .u8)).toArray rfl rfl _ _ Kx.out Ks.out _ Tryd.underlying23 rfl 32 size_digest HX.out.size HS.out.size (ints_one _ _) (ints_one _ _) (byteCells 32 []) hsx.out (fun A W => by go_simp; rfl) (fun A W => by go_simp; rfl) (fun b c => ⟨rfl, rfl, rfl, rfl⟩) ?_
  intro gb gc w2 hb2 hgb hgc hbc kb kc
  simp only [pairF, Act.put, List.setIfInBounds_toArray, List.set_cons_zero, List.set_cons_succ]
  have hgb1 : w.heap.size + 1 ≤ gb := by rw [Hbs.out]; exact hgb
  have hgc1 : w.heap.size + 1 ≤ gc := by rw [Hbs.out]; exact hgc
  have HG1 := hid hgb
  have HG2 := hid hgc
  have HP2 := hid hb2
  have HBw2 := hid (Below.on Hb.out hb2)
  have hsw2 := HBw2.out.size
  have Ksw2 := hid (Ks.out.below hb2)
  have Kxw2 := hid (Kx.out.below hb2)
  have Klw2 := hid kb
  have Krw2 := hid kc
  have Ktw2 := hid (Kt.out.below hb2)
  have HOw2 := hid (HO.out.below hb2)
  clear hb2 kb kc hgb hgc
  go_wp2_with fail
  have hos := HOw2.out.size
  have hno : ∀ n, w2.heap.size ≤ n → n ∉ v.ownBlock.toList := fun n hn hm => by have := hos n hm; omega
  have hos1 := HO.out.size
  have hngb : gb ∉ v.ownBlock.toList := fun hm => by have := hos1 gb hm; have := HG1.out; omega
  have hngc : gc ∉ v.ownBlock.toList := fun hm => by have := hos1 gc hm; have := HG2.out; omega
  have hnbx := HOw2.out.low hbx
  have hnbt := HOw2.out.low hbt
  have HNO := hid hno
  have hbs : base ≤ w2.heap.size := Nat.le_trans hbase HBw2.out.size
  clear hos hos1 hno
  refine FlowB.wp_region_butIn v.ownBlock.toList (fun wz => OwnR wz [bx, bt] base v ts) 7 [0, 1, 2] [3] [(.b 3, [], []), (.c 4, [], [5]), (.b 5, [], []), (.c 6, [], [])] (by kernel_rfl) (by kernel_rfl) HOw2.out (fun _ _ h hb => h.below hb) ?_
  apply Exists.intro
  refine ⟨fun w0 hb0 hF0 => ?_, ?_⟩
  · skip
    have y0 : ∀ w', (∃ x : Ext w0, w' = x.at_) → w'.cell? ⟨bt, 0, none⟩ = some v := fun w' ⟨e, he⟩ => by rw [he, ((hb0.blk Ktw2.out hnbt).below e.same).cell]; rfl
    simp only [pick, List.getElem?_toArray, List.getElem?_cons_succ, List.getElem?_cons_zero, Option.toList_some, List.cons_append, List.nil_append]
    repeat (first | (go_big_quiet_want; refine quiet_load_one 31 _ rfl ⟨bt, 0, none⟩ rfl _ y0 _ Tryd.underlying31 rfl ?_; go_big_quiet_on; simp only [Act.put, List.setIfInBounds_toArray, List.set_cons_zero, List.set_cons_succ]) | go_big_quiet_step (fail))
    exact wpQuiet_nil rfl
  refine FlowB.AlChk.one rfl (fun b => .slice (some ⟨b, 0, none⟩) 2 2) (.cells #[.slice (some ⟨gb, 0, none⟩) 32 32, .slice (some ⟨gc, 0, none⟩) 32 32] 29 (0, 0)) rfl (FlowB.st_butIn _ HOw2.out.size) (fun w2 hb2 hF2 => by go_simp) ?_
  refine FlowB.AlChk.nil ?_
  refine FlowB.Walk.blk rfl (fun b => .slice (some ⟨b, 0, none⟩) 2 2) (.cells #[.slice (some ⟨gb, 0, none⟩) 32 32, .slice (some ⟨gc, 0, none⟩) 32 32] 29 (0, 0)) (by simp) ?_
  intro b9 w9 hb9 hF9 hge9 _
  apply Exists.intro
  refine ⟨fun w3 hb3 hF3 => wpQuiet_nil rfl, ?_⟩
  refine FlowB.AlChk.nil ?_
  refine FlowB.Walk.call rfl 34 #[.int .u8 1, .slice (some ⟨b9, 0, none⟩) 2 2] (fun v' wz => ∃ ta tl tc, v' = .slice ta tl tc ∧ TextAt wz ta tl tc (nodeX x s) ∧ ∀ p : Addr, ta = some p → w2.heap.size ≤ p.block) (fun _ wz => OwnR wz [bx, bt] base v ts) (fun v' w' w'' _ h hR => by
    obtain ⟨ta, tl, tc, rfl, h1, h2⟩ := h
    exact ⟨ta, tl, tc, rfl, h1.butIn (fun p hp => HNO.out p.block (h2 p hp)) hR, h2⟩) (fun _ _ _ h k => h.below k) rfl (fun w1 hb1 hF1 hG1 => ⟨by go_simp, ?_⟩) ?_
  · have k9 : Blk w1 b9 #[.slice (some ⟨gb, 0, none⟩) 32 32, .slice (some ⟨gc, 0, none⟩) 32 32] 29 := hF1.2
    have kl := hb1.blk Klw2.out hngb
    have kr := hb1.blk Krw2.out hngc
    have hs := joined_any 1 (some ⟨b9, 0, none⟩) 2 2 [x, s] w1 (by omega) (TextsAt.of_blk k9 rfl (Nat.le_refl _) (by omega) fun j hj => by
      match j, hj with
      | 0, _ => exact ⟨_, _, _, rfl, HX.out.text kl⟩
      | 1, _ => exact ⟨_, _, _, rfl, HS.out.text kr⟩) (by simp only [sumLen, List.map_cons, List.map_nil, List.sum_cons, List.sum_nil, HX.out.len, HS.out.len]; omega)
    refine hs.mono ?_
    rintro e w' ⟨v', rfl, b, ho'⟩
    rw [show ([1] : List Int) ++ ([x, s] : List (List Int)).flatten = nodeX x s by simp [nodeX]] at ho'
    obtain ⟨ta, tc, rfl, q1, q2⟩ := ho'.text2
    exact ⟨_, rfl, (FlowB.rel_butIn _).of b, ⟨ta, _, tc, rfl, q1, fun p hp => Nat.le_trans hb1.size (q2 p hp).1⟩, hG1.below b⟩
  rintro vt w1 hb1 hF1 ⟨ta, tl, tc, rfl, _⟩
  apply Exists.intro
  refine ⟨fun w3 hb3 hF3 => wpQuiet_nil rfl, ?_⟩
  refine FlowB.AlChk.one rfl (fun b => .slice (some ⟨b, 0, none⟩) 1 1) (.cells #[.slice ta tl tc] 29 (0, 0)) rfl (FlowB.st_butIn _ HOw2.out.size) (fun w2 hb2 hF2 => by go_simp) ?_
  refine FlowB.AlChk.nil ?_
  refine FlowB.Walk.blk rfl (fun b => .slice (some ⟨b, 0, none⟩) 1 1) (.cells #[.slice ta tl tc] 29 (0, 0)) (by simp) ?_
  intro b5 w5 hb5 hF5 hge5 _
  apply Exists.intro
  refine ⟨fun w3 hb3 hF3 => wpQuiet_nil rfl, ?_⟩
  refine FlowB.AlChk.nil ?_
  refine FlowB.Walk.does rfl (fun _ _ => True) (fun v' wz => OwnR wz [bx, bt] base v' (ts ++ [nodeX x s])) (fun _ _ _ _ h _ => h) (fun v w' w'' h k => h.below k) rfl (fun w1 hb1 hF1 hG1 => ?_) ?_
  · have k5 : Blk w1 b5 #[.slice ta tl tc] 29 := hF1.2
    obtain ⟨ta', tl', tc', he, h1, h2⟩ := hF1.1.2
    cases he
    obtain ⟨v', w', r1, r2, r3, r4⟩ := run_append_t hG1 k5 h1 (fun _ p hp => ⟨fun e => HNO.out p.block (h2 p hp) (by simpa using e), by have := h2 p hp; simp only [List.mem_cons, List.not_mem_nil, or_false]; omega⟩) (by omega) (Nat.le_trans hbs hb1.size)
    exact ⟨v', w', FlowB.exec_append rfl rfl rfl r1, FlowB.ButIn.of_grown r3, trivial, r2⟩
  rintro v3 w33 hb33 hF33 _
  apply Exists.intro
  refine ⟨fun w3 hb3 hF3 => wpQuiet_nil rfl, ?_⟩
  refine FlowB.AlChk.nil ?_
  refine FlowB.Walk.fin fun w6 h6 _ hG6 => ?_
  simp only [List.drop_succ_cons, List.drop_zero]
  have HR6 := hid (((FlowB.rel_butIn (bx :: bt :: v.ownBlock.toList)).of HBw2.out : FlowB.ButIn (bx :: bt :: v.ownBlock.toList) w w2).trans_ (h6.wide (fun x hx => List.mem_cons_of_mem _ (List.mem_cons_of_mem _ hx))))
  have Kx6 := hid (h6.blk Kxw2.out hnbx)
  have Kt6 := hid (h6.blk Ktw2.out hnbt)
  have Kl6 := hid (h6.blk Klw2.out hngb)
  have Kr6 := hid (h6.blk Krw2.out hngc)
  have hG6' : OwnR w6 [bx, bt] base v3 (ts ++ [nodeX x s]) := hG6
  obtain ⟨a3, c3, rfl, -⟩ := hG6'.texts
  obtain ⟨N3, hN3⟩ : ∃ N, N = (ts ++ [nodeX x s]).length := ⟨_, rfl⟩
  rw [← hN3] at hG6' ⊢
  have HO6 := hid hG6'
  have hlx6 := Kx6.out.lt
  have hlt6 := Kt6.out.lt
  have hll6 := Kl6.out.lt
  have hlr6 := Kr6.out.lt
  have hgbx : gb ≠ bx := by omega
  have hgcx : gc ≠ bx := by omega
  have hgbt : gb ≠ bt := by omega
  have hgct : gc ≠ bt := by omega
  clear h6 hG6 hG6' hN3
  go_wp2_with (first
     | (
      refine wpList_store_cell rfl 31 _ _ rfl bt 0 (.slice a3 N3 c3) rfl rfl rfl rfl #[v] 31 Kt6.out (by simp) size_rowt ?_
      intro w7 hb7 hk7
      have HR7 := hid (HR6.out.trans_ (FlowB.ButIn.of_but hb7 (by simp)))
      have Kx7 := hid (hb7.blk Kx6.out (by omega))
      have Kl7 := hid (hb7.blk Kl6.out (by omega))
      have Kr7 := hid (hb7.blk Kr6.out (by omega))
      have Kt7 := hid (show Blk w7 bt #[.slice a3 N3 c3] 31 from hk7)
      have HO7 := hid (HO6.out.keptBut hb7 (by simp) hbt)
      clear hb7 hk7)
     | (refine wpList_load_blk rfl 23 _ rfl gb rfl _ 23 Kl7.out _ Tryd.underlying23 rfl 32 size_digest HX.out.size ?_)
     | (refine wpList_load_blk rfl 23 _ rfl gc rfl _ 23 Kr7.out _ Tryd.underlying23 rfl 32 size_digest HS.out.size ?_))
  refine (lonode_any x s w7 HX.out HS.out (tab_butIn Htab.out HR7.out (tab_all hgx hgt hgb_ ho0))).mono ?_
  rintro e w8 ⟨rfl, b8⟩
  have HX8 := hid (Dg.nodeL x s)
  have HR8 := hid (HR7.out.trans_ ((FlowB.rel_butIn _).of b8))
  have Kx8 := hid (Kx7.out.below b8)
  have Kt8 := hid (Kt7.out.below b8)
  have HO8 := hid (HO7.out.below b8)
  clear b8
  generalize hnd : nodeL x s = nd at *
  have HND := hid hnd
  clear hnd
  go_wp2_with (
      refine wpList_store_blk rfl 23 _ _ rfl bx (nd.map (Value.int .u8)).toArray rfl rfl _ 23 Kx8.out 32 size_digest HX.out.size HX8.out.size (ints_one _ _) ?_
      intro w9 hb9 hk9
      have HR9 := hid (HR8.out.trans_ (FlowB.ButIn.of_but hb9 (by simp)))
      have Kt9 := hid (hb9.blk Kt8.out (by omega))
      have Kx9 := hid hk9
      have HO9 := hid (HO8.out.keptBut hb9 (by simp) hbx)
      clear hb9 hk9)
  go_returns
  exact ⟨rfl, by rw [HND.out]; exact Kx9.out, _, Kt9.out, HO9.out, HR9.out⟩
set_option maxHeartbeats 4000000 in
theorem up_r (x s : List Int) (bx bt base : Nat) (v : Value) (ts : List (List Int)) (w : World) (hX : Dg x) (hs : Dg s) (kx : Blk w bx (x.map (Value.int .u8)).toArray 23) (kt : Blk w bt #[v] 31) (ho : OwnR w [bx, bt] base v ts) (hbx : bx < base) (hbt : bt < base) (hne : bx ≠ bt) (hbase : base ≤ w.heap.size) (hl : ts.length ≤ 1000) (hgx : tabLow bx) (hgt : tabLow bt) (hgb_ : tabLow base) (tab : ShaTab w) :
    Calls Tryd.prog 63 #[.agg (s.map (Value.int .u8)).toArray, .bool true, .pointer (some ⟨bx, 0, none⟩), .pointer (some ⟨bt, 0, none⟩)] w fun e w' => e = .returned (.tuple #[]) ∧ ∃ v', Blk w' bx ((nodeL s x).map (Value.int .u8)).toArray 23 ∧ Blk w' bt #[v'] 31 ∧ OwnR w' [bx, bt] base v' (ts ++ [nodeX s x]) ∧ FlowB.ButIn (bx :: bt :: v.ownBlock.toList) w w' := by
  have b1 := (Below.refl w.heap.size w).alloc (Nat.le_refl _) (.cells (s.map (Value.int .u8)).toArray 23 (0, 0))
  have Ks := hid (Blk.new (w := w) (n := w.heap.size) rfl (s.map (Value.int .u8)).toArray 23)
  have Hb := hid b1
  have hbz := b1.size
  have Hbs := hid (show w.heap.size + 1 = (w.alloc (.cells (s.map (Value.int .u8)).toArray 23 (0, 0))).heap.size by simp only [World.size_alloc])
  have Htab := hid tab
  clear b1 tab 
  have Kx := hid (kx.below Hb.out)
  have Kt := hid (kt.below Hb.out)
  have HO := hid (ho.below Hb.out)
  have hlx := kx.lt
  have hlt := kt.lt
  have HS := hid hs
  have HX := hid hX
  have ho0 := ho.from
  clear kx kt ho
  go_enter Tryd.func63, Tryd.ntmps63
  go_wp2_with fail
  have hsx : Hid ((byteCells 32 []).size = 32) := hid zsize
  refine wp_pair (by kernel_rfl) (by kernel_rfl) (fun _ _ d _ _ h => by cases d <;> exact h) _ _ _ _ _ _ rfl rfl rfl rfl rfl rfl 23 _ _ _ _ _ _ rfl rfl rfl rfl rfl rfl rfl rfl rfl rfl rfl rfl (by simp) bx (w.heap.size) (x.map (Value.int .u8)).toArray (s.map (Value.int .u8)).toArray rfl rfl _ _ Kx.out Ks.out _ Tryd.underlying23 rfl 32 size_digest HX.out.size HS.out.size (ints_one _ _) (ints_one _ _) (byteCells 32 []) hsx.out (fun A W => by go_simp; rfl) (fun A W => by go_simp; rfl) (fun b c => ⟨rfl, rfl, rfl, rfl⟩) ?_
  intro gb gc w2 hb2 hgb hgc hbc kb kc
  simp only [pairF, Act.put, List.setIfInBounds_toArray, List.set_cons_zero, List.set_cons_succ]
  have hgb1 : w.heap.size + 1 ≤ gb := by rw [Hbs.out]; exact hgb
  have hgc1 : w.heap.size + 1 ≤ gc := by rw [Hbs.out]; exact hgc
  have HG1 := hid hgb
  have HG2 := hid hgc
  have HP2 := hid hb2
  have HBw2 := hid (Below.on Hb.out hb2)
  have hsw2 := HBw2.out.size
  have Ksw2 := hid (Ks.out.below hb2)
  have Kxw2 := hid (Kx.out.below hb2)
  have Klw2 := hid kb
  have Krw2 := hid kc
  have Ktw2 := hid (Kt.out.below hb2)
  have HOw2 := hid (HO.out.below hb2)
  clear hb2 kb kc hgb hgc
  go_wp2_with fail
  have hq1 : gb ≠ bx := by omega
  have hq2 : gc ≠ bx := by omega
  have hq3 : gb ≠ w.heap.size := by omega
  have hq4 : gc ≠ w.heap.size := by omega
  have hq5 : gb ≠ gc := by omega
  refine FlowB.wp_region_butIn [gb, gc] (fun wz => Blk wz gb (x.map (Value.int .u8)).toArray 23 ∧ Blk wz gc (s.map (Value.int .u8)).toArray 23) 4 [0, 1] [] [(.c 2, [], []), (.c 3, [], [])] (by kernel_rfl) (by kernel_rfl) ⟨Klw2.out, Krw2.out⟩ (fun _ _ h hb => ⟨h.1.below hb, h.2.below hb⟩) ?_
  apply Exists.intro
  refine ⟨fun w0 hb0 hF0 => ?_, ?_⟩
  · skip
    have x0 : ∀ w', (∃ x : Ext w0, w' = x.at_) → ∃ T, Blk w' (w.heap.size) (s.map (Value.int .u8)).toArray T := fun w' ⟨x, hx⟩ => ⟨_, hx ▸ (hb0.blk Ksw2.out (by simp only [List.mem_cons, List.not_mem_nil, or_false]; omega)).below x.same⟩
    have x1 : ∀ w', (∃ x : Ext w0, w' = x.at_) → ∃ T, Blk w' bx (x.map (Value.int .u8)).toArray T := fun w' ⟨x, hx⟩ => ⟨_, hx ▸ (hb0.blk Kxw2.out (by simp only [List.mem_cons, List.not_mem_nil, or_false]; omega)).below x.same⟩
    simp only [pick, List.getElem?_toArray, List.getElem?_cons_succ, List.getElem?_cons_zero, Option.toList_some, List.cons_append, List.nil_append]
    repeat (first | (go_big_quiet_want; refine quiet_load_blk 23 _ rfl (w.heap.size) rfl _ x0 _ Tryd.underlying23 rfl 32 size_digest HS.out.size ?_; go_big_quiet_on; simp only [Act.put, List.setIfInBounds_toArray, List.set_cons_zero, List.set_cons_succ]) | (go_big_quiet_want; refine quiet_load_blk 23 _ rfl bx rfl _ x1 _ Tryd.underlying23 rfl 32 size_digest HX.out.size ?_; go_big_quiet_on; simp only [Act.put, List.setIfInBounds_toArray, List.set_cons_zero, List.set_cons_succ]) | go_big_quiet_step (fail))
    exact wpQuiet_nil rfl
  refine FlowB.AlChk.nil ?_
  refine FlowB.Walk.skips rfl (fun wz => Blk wz gb (s.map (Value.int .u8)).toArray 23 ∧ Blk wz gc (s.map (Value.int .u8)).toArray 23) (fun _ _ h hb => ⟨h.1.below hb, h.2.below hb⟩) rfl (fun w1 hb1 hF1 hG1 => ?_) ?_
  · exact FlowB.store_skips 23 _ _ rfl gb (s.map (Value.int .u8)).toArray rfl rfl _ 23 hG1.1 32 size_digest HX.out.size HS.out.size (ints_one _ _) (by simp) (fun w2 h2 h3 => ⟨h3, h2.blk hG1.2 (by omega)⟩)
  intro w1 hb1 hF1
  apply Exists.intro
  refine ⟨fun w2 hb2 hF2 => wpQuiet_nil rfl, ?_⟩
  refine FlowB.AlChk.nil ?_
  refine FlowB.Walk.skips rfl (fun wz => Blk wz gb (s.map (Value.int .u8)).toArray 23 ∧ Blk wz gc (x.map (Value.int .u8)).toArray 23) (fun _ _ h hb => ⟨h.1.below hb, h.2.below hb⟩) rfl (fun w1 hb1 hF1 hG1 => ?_) ?_
  · exact FlowB.store_skips 23 _ _ rfl gc (x.map (Value.int .u8)).toArray rfl rfl _ 23 hG1.2 32 size_digest HS.out.size HX.out.size (ints_one _ _) (by simp) (fun w2 h2 h3 => ⟨h2.blk hG1.1 (by omega), h3⟩)
  intro w1 hb1 hF1
  apply Exists.intro
  refine ⟨fun w2 hb2 hF2 => wpQuiet_nil rfl, ?_⟩
  refine FlowB.AlChk.nil ?_
  refine FlowB.Walk.fin fun w3 h3 _ hG3 => ?_
  simp only [List.drop_succ_cons, List.drop_zero]
  have hdlx := HOw2.out.lt
  have HBw3 := hid (h3.below HBw2.out HBw2.out.size (by simp only [List.mem_cons, List.not_mem_nil, or_false, forall_eq_or_imp, forall_eq]; omega))
  have hsw3 := HBw3.out.size
  have Kxw3 := hid (h3.blk Kxw2.out (by simp only [List.mem_cons, List.not_mem_nil, or_false]; omega))
  have Ktw3 := hid (h3.blk Ktw2.out (by simp only [List.mem_cons, List.not_mem_nil, or_false]; omega))
  have Klw3 := hid hG3.1
  have Krw3 := hid hG3.2
  have HOw3 := hid (HO.out.below (h3.below HP2.out HP2.out.size (by simp only [List.mem_cons, List.not_mem_nil, or_false, forall_eq_or_imp, forall_eq]; exact ⟨HG1.out, HG2.out⟩)))
  clear h3 hG3 hdlx
  simp only [Act.put]
  go_wp2_with fail
  have hos := HOw3.out.size
  have hno : ∀ n, w3.heap.size ≤ n → n ∉ v.ownBlock.toList := fun n hn hm => by have := hos n hm; omega
  have hos1 := HO.out.size
  have hngb : gb ∉ v.ownBlock.toList := fun hm => by have := hos1 gb hm; have := HG1.out; omega
  have hngc : gc ∉ v.ownBlock.toList := fun hm => by have := hos1 gc hm; have := HG2.out; omega
  have hnbx := HOw3.out.low hbx
  have hnbt := HOw3.out.low hbt
  have HNO := hid hno
  have hbs : base ≤ w3.heap.size := Nat.le_trans hbase HBw3.out.size
  clear hos hos1 hno
  refine FlowB.wp_region_butIn v.ownBlock.toList (fun wz => OwnR wz [bx, bt] base v ts) 7 [0, 1, 2] [3] [(.b 3, [], []), (.c 4, [], [5]), (.b 5, [], []), (.c 6, [], [])] (by kernel_rfl) (by kernel_rfl) HOw3.out (fun _ _ h hb => h.below hb) ?_
  apply Exists.intro
  refine ⟨fun w0 hb0 hF0 => ?_, ?_⟩
  · skip
    have y0 : ∀ w', (∃ x : Ext w0, w' = x.at_) → w'.cell? ⟨bt, 0, none⟩ = some v := fun w' ⟨e, he⟩ => by rw [he, ((hb0.blk Ktw3.out hnbt).below e.same).cell]; rfl
    simp only [pick, List.getElem?_toArray, List.getElem?_cons_succ, List.getElem?_cons_zero, Option.toList_some, List.cons_append, List.nil_append]
    repeat (first | (go_big_quiet_want; refine quiet_load_one 31 _ rfl ⟨bt, 0, none⟩ rfl _ y0 _ Tryd.underlying31 rfl ?_; go_big_quiet_on; simp only [Act.put, List.setIfInBounds_toArray, List.set_cons_zero, List.set_cons_succ]) | go_big_quiet_step (fail))
    exact wpQuiet_nil rfl
  refine FlowB.AlChk.one rfl (fun b => .slice (some ⟨b, 0, none⟩) 2 2) (.cells #[.slice (some ⟨gb, 0, none⟩) 32 32, .slice (some ⟨gc, 0, none⟩) 32 32] 29 (0, 0)) rfl (FlowB.st_butIn _ HOw3.out.size) (fun w2 hb2 hF2 => by go_simp) ?_
  refine FlowB.AlChk.nil ?_
  refine FlowB.Walk.blk rfl (fun b => .slice (some ⟨b, 0, none⟩) 2 2) (.cells #[.slice (some ⟨gb, 0, none⟩) 32 32, .slice (some ⟨gc, 0, none⟩) 32 32] 29 (0, 0)) (by simp) ?_
  intro b9 w9 hb9 hF9 hge9 _
  apply Exists.intro
  refine ⟨fun w3 hb3 hF3 => wpQuiet_nil rfl, ?_⟩
  refine FlowB.AlChk.nil ?_
  refine FlowB.Walk.call rfl 34 #[.int .u8 1, .slice (some ⟨b9, 0, none⟩) 2 2] (fun v' wz => ∃ ta tl tc, v' = .slice ta tl tc ∧ TextAt wz ta tl tc (nodeX s x) ∧ ∀ p : Addr, ta = some p → w3.heap.size ≤ p.block) (fun _ wz => OwnR wz [bx, bt] base v ts) (fun v' w' w'' _ h hR => by
    obtain ⟨ta, tl, tc, rfl, h1, h2⟩ := h
    exact ⟨ta, tl, tc, rfl, h1.butIn (fun p hp => HNO.out p.block (h2 p hp)) hR, h2⟩) (fun _ _ _ h k => h.below k) rfl (fun w1 hb1 hF1 hG1 => ⟨by go_simp, ?_⟩) ?_
  · have k9 : Blk w1 b9 #[.slice (some ⟨gb, 0, none⟩) 32 32, .slice (some ⟨gc, 0, none⟩) 32 32] 29 := hF1.2
    have kl := hb1.blk Klw3.out hngb
    have kr := hb1.blk Krw3.out hngc
    have hs := joined_any 1 (some ⟨b9, 0, none⟩) 2 2 [s, x] w1 (by omega) (TextsAt.of_blk k9 rfl (Nat.le_refl _) (by omega) fun j hj => by
      match j, hj with
      | 0, _ => exact ⟨_, _, _, rfl, HS.out.text kl⟩
      | 1, _ => exact ⟨_, _, _, rfl, HX.out.text kr⟩) (by simp only [sumLen, List.map_cons, List.map_nil, List.sum_cons, List.sum_nil, HS.out.len, HX.out.len]; omega)
    refine hs.mono ?_
    rintro e w' ⟨v', rfl, b, ho'⟩
    rw [show ([1] : List Int) ++ ([s, x] : List (List Int)).flatten = nodeX s x by simp [nodeX]] at ho'
    obtain ⟨ta, tc, rfl, q1, q2⟩ := ho'.text2
    exact ⟨_, rfl, (FlowB.rel_butIn _).of b, ⟨ta, _, tc, rfl, q1, fun p hp => Nat.le_trans hb1.size (q2 p hp).1⟩, hG1.below b⟩
  rintro vt w1 hb1 hF1 ⟨ta, tl, tc, rfl, _⟩
  apply Exists.intro
  refine ⟨fun w3 hb3 hF3 => wpQuiet_nil rfl, ?_⟩
  refine FlowB.AlChk.one rfl (fun b => .slice (some ⟨b, 0, none⟩) 1 1) (.cells #[.slice ta tl tc] 29 (0, 0)) rfl (FlowB.st_butIn _ HOw3.out.size) (fun w2 hb2 hF2 => by go_simp) ?_
  refine FlowB.AlChk.nil ?_
  refine FlowB.Walk.blk rfl (fun b => .slice (some ⟨b, 0, none⟩) 1 1) (.cells #[.slice ta tl tc] 29 (0, 0)) (by simp) ?_
  intro b5 w5 hb5 hF5 hge5 _
  apply Exists.intro
  refine ⟨fun w3 hb3 hF3 => wpQuiet_nil rfl, ?_⟩
  refine FlowB.AlChk.nil ?_
  refine FlowB.Walk.does rfl (fun _ _ => True) (fun v' wz => OwnR wz [bx, bt] base v' (ts ++ [nodeX s x])) (fun _ _ _ _ h _ => h) (fun v w' w'' h k => h.below k) rfl (fun w1 hb1 hF1 hG1 => ?_) ?_
  · have k5 : Blk w1 b5 #[.slice ta tl tc] 29 := hF1.2
    obtain ⟨ta', tl', tc', he, h1, h2⟩ := hF1.1.2
    cases he
    obtain ⟨v', w', r1, r2, r3, r4⟩ := run_append_t hG1 k5 h1 (fun _ p hp => ⟨fun e => HNO.out p.block (h2 p hp) (by simpa using e), by have := h2 p hp; simp only [List.mem_cons, List.not_mem_nil, or_false]; omega⟩) (by omega) (Nat.le_trans hbs hb1.size)
    exact ⟨v', w', FlowB.exec_append rfl rfl rfl r1, FlowB.ButIn.of_grown r3, trivial, r2⟩
  rintro v3 w33 hb33 hF33 _
  apply Exists.intro
  refine ⟨fun w3 hb3 hF3 => wpQuiet_nil rfl, ?_⟩
  refine FlowB.AlChk.nil ?_
  refine FlowB.Walk.fin fun w6 h6 _ hG6 => ?_
  simp only [List.drop_succ_cons, List.drop_zero]
  have HR6 := hid (((FlowB.rel_butIn (bx :: bt :: v.ownBlock.toList)).of HBw3.out : FlowB.ButIn (bx :: bt :: v.ownBlock.toList) w w3).trans_ (h6.wide (fun x hx => List.mem_cons_of_mem _ (List.mem_cons_of_mem _ hx))))
  have Kx6 := hid (h6.blk Kxw3.out hnbx)
  have Kt6 := hid (h6.blk Ktw3.out hnbt)
  have Kl6 := hid (h6.blk Klw3.out hngb)
  have Kr6 := hid (h6.blk Krw3.out hngc)
  have hG6' : OwnR w6 [bx, bt] base v3 (ts ++ [nodeX s x]) := hG6
  obtain ⟨a3, c3, rfl, -⟩ := hG6'.texts
  obtain ⟨N3, hN3⟩ : ∃ N, N = (ts ++ [nodeX s x]).length := ⟨_, rfl⟩
  rw [← hN3] at hG6' ⊢
  have HO6 := hid hG6'
  have hlx6 := Kx6.out.lt
  have hlt6 := Kt6.out.lt
  have hll6 := Kl6.out.lt
  have hlr6 := Kr6.out.lt
  have hgbx : gb ≠ bx := by omega
  have hgcx : gc ≠ bx := by omega
  have hgbt : gb ≠ bt := by omega
  have hgct : gc ≠ bt := by omega
  clear h6 hG6 hG6' hN3
  go_wp2_with (first
     | (
      refine wpList_store_cell rfl 31 _ _ rfl bt 0 (.slice a3 N3 c3) rfl rfl rfl rfl #[v] 31 Kt6.out (by simp) size_rowt ?_
      intro w7 hb7 hk7
      have HR7 := hid (HR6.out.trans_ (FlowB.ButIn.of_but hb7 (by simp)))
      have Kx7 := hid (hb7.blk Kx6.out (by omega))
      have Kl7 := hid (hb7.blk Kl6.out (by omega))
      have Kr7 := hid (hb7.blk Kr6.out (by omega))
      have Kt7 := hid (show Blk w7 bt #[.slice a3 N3 c3] 31 from hk7)
      have HO7 := hid (HO6.out.keptBut hb7 (by simp) hbt)
      clear hb7 hk7)
     | (refine wpList_load_blk rfl 23 _ rfl gb rfl _ 23 Kl7.out _ Tryd.underlying23 rfl 32 size_digest HS.out.size ?_)
     | (refine wpList_load_blk rfl 23 _ rfl gc rfl _ 23 Kr7.out _ Tryd.underlying23 rfl 32 size_digest HX.out.size ?_))
  refine (lonode_any s x w7 HS.out HX.out (tab_butIn Htab.out HR7.out (tab_all hgx hgt hgb_ ho0))).mono ?_
  rintro e w8 ⟨rfl, b8⟩
  have HX8 := hid (Dg.nodeL s x)
  have HR8 := hid (HR7.out.trans_ ((FlowB.rel_butIn _).of b8))
  have Kx8 := hid (Kx7.out.below b8)
  have Kt8 := hid (Kt7.out.below b8)
  have HO8 := hid (HO7.out.below b8)
  clear b8
  generalize hnd : nodeL s x = nd at *
  have HND := hid hnd
  clear hnd
  go_wp2_with (
      refine wpList_store_blk rfl 23 _ _ rfl bx (nd.map (Value.int .u8)).toArray rfl rfl _ 23 Kx8.out 32 size_digest HX.out.size HX8.out.size (ints_one _ _) ?_
      intro w9 hb9 hk9
      have HR9 := hid (HR8.out.trans_ (FlowB.ButIn.of_but hb9 (by simp)))
      have Kt9 := hid (hb9.blk Kt8.out (by omega))
      have Kx9 := hid hk9
      have HO9 := hid (HO8.out.keptBut hb9 (by simp) hbx)
      clear hb9 hk9)
  go_returns
  exact ⟨rfl, by rw [HND.out]; exact Kx9.out, _, Kt9.out, HO9.out, HR9.out⟩
end Go.Proofs.YtkakoiaahgchmaaDoor
namespace Go.Proofs.YtkakoiaahgchmaaDoor
set_option maxRecDepth 100000
open Go.ChangeShapes Go.WideShapes Go.ChangeAt Go.RowKit
set_option maxHeartbeats 4000000 in
theorem end_any (bx bt base : Nat) (a : Option Addr) (n c : Nat) (ts : List (List Int)) (w : World) (kt : Blk w bt #[.slice a n c] 31) (ho : OwnR w [bx, bt] base (.slice a n c) ts) (hbt : bt < base) (hl : ts.length ≤ 1000) :
    Calls Tryd.prog 64 #[.pointer (some ⟨bt, 0, none⟩)] w fun e w' => e = .returned (.slice a n c) ∧ OwnR w' [bx, bt] base (.slice a n c) ts.reverse ∧ FlowB.ButIn (Value.slice a n c).ownBlock.toList w w' := by
  have Hb := hid (Below.refl w.heap.size w)
  have HO := hid ho
  have cb : w.cell? ⟨bt, 0, none⟩ = some (.slice a n c) := by rw [kt.cell]; rfl
  have Kt := hid kt
  have hnb := HO.out.low hbt
  clear kt ho
  go_enter Tryd.func64, Tryd.ntmps64
  go_wp2_with fail
  refine (trail_rev [bx, bt] base a n c ts _ HO.out (by omega)).mono ?_
  rintro e w1 ⟨rfl, o1, b1⟩
  have HO1 := hid o1
  have HR1 := hid b1
  have k1 := b1.blk Kt.out hnb
  have cb1 : w1.cell? ⟨bt, 0, none⟩ = some (.slice a n c) := by rw [k1.cell]; rfl
  clear o1 b1 k1 cb
  go_wp2_with fail
  go_returns
  exact ⟨rfl, HO1.out, HR1.out⟩
theorem wpList_append_t {ops : Array Oper} {rest : List Oper} {o : Oper} {A : Act} {w : World} {Q : Exit → Act → World → Prop} {S : List Nat} {base : Nat} {v : Value} {ts : List (List Int)} (hgd : o.guard = none) (s x : Operand) (ho : o.op = .call { callee := .builtin .append, args := #[s, x], argTypes := #[31, 31] }) (hs : A.eval s = v) (hown : OwnR w S base v ts)
    {b : Nat} {ta : Option Addr} {tl tc : Nat} {t : List Int} {T : TypeId} (hx : A.eval x = .slice (some ⟨b, 0, none⟩) 1 1) (hk : Blk w b #[.slice ta tl tc] T) (hT : TextAt w ta tl tc t) (hsep : 0 < tl → ∀ p : Addr, ta = some p → v.ownBlock ≠ some p.block ∧ p.block ∉ S) (hb : ts.length ≤ 1000000) (hbase : base ≤ w.heap.size)
    (h : ∀ v' w', OwnR w' S base v' (ts ++ [t]) → w.grownBy w' v.ownBlock → Below base w w' → wpList Tryd.prog ops Q rest (A.put o.dst v') w') (hty : o.type = 31 := by rfl) : wpList Tryd.prog ops Q (o :: rest) A w :=
  wpList_plain hgd fun K hK => by
    obtain ⟨v', w', hr, h2, h3, h4⟩ := run_append_t hown hk hT hsep hb hbase
    unfold Oper.wp execOp
    simp only [ho, hty, resolve, invoke, builtin, Sem.run_bind, Sem.run_pure, Result.andThen_ok, List.map_toArray, List.map_cons, List.map_nil, hs, hx, hr, Oper.upon_value]
    exact hK _ _ (h v' w' h2 h3 h4)
set_option maxHeartbeats 4000000 in
theorem climber_text (x : List Int) (tp : Addr) (tl tc : Nat) (t : List Int) (w : World) (hT : TextAt w (some tp) tl tc t) (htp : tp.block < w.heap.size) :
    Calls Tryd.prog 36 #[.agg (x.map (Value.int .u8)).toArray, .slice (some tp) tl tc] w fun e w' => ∃ a c, e = .returned (.tuple #[.func (.func 63) #[] #[.pointer (some ⟨w.heap.size, 0, none⟩), .pointer (some ⟨w.heap.size + 1, 0, none⟩)], .func (.func 64) #[] #[.pointer (some ⟨w.heap.size + 1, 0, none⟩)]]) ∧ Blk w' w.heap.size (x.map (Value.int .u8)).toArray 23 ∧ Blk w' (w.heap.size + 1) #[.slice a 1 c] 31 ∧ OwnR w' [w.heap.size, w.heap.size + 1] (w.heap.size + 1 + 1) (.slice a 1 c) [t] ∧ Below w.heap.size w w' := by
  have b1 := (Below.refl w.heap.size w).alloc (Nat.le_refl _) (.cells (x.map (Value.int .u8)).toArray 23 (0, 0))
  have b2 := b1.alloc b1.size (.cells #[.slice none 0 0] 31 (0, 0))
  have Kx := hid ((Blk.new (w := w) (n := w.heap.size) rfl (x.map (Value.int .u8)).toArray 23).old (.cells #[.slice none 0 0] 31 (0, 0)))
  have Kt := hid (Blk.new (w := (w.alloc (.cells (x.map (Value.int .u8)).toArray 23 (0, 0)))) (n := w.heap.size + 1) (by simp only [World.size_alloc]) #[.slice none 0 0] 31)
  have Hb := hid b2
  have hbz := b2.size
  have Hbs := hid (show w.heap.size + 1 + 1 = ((w.alloc (.cells (x.map (Value.int .u8)).toArray 23 (0, 0))).alloc (.cells #[.slice none 0 0] 31 (0, 0))).heap.size by simp only [World.size_alloc])
  clear b1 b2 
  have HT := hid (hT.below Hb.out)
  clear hT
  have ct : ((w.alloc (.cells (x.map (Value.int .u8)).toArray 23 (0, 0))).alloc (.cells #[.slice none 0 0] 31 (0, 0))).cell? ⟨w.heap.size + 1, 0, none⟩ = some (.slice none 0 0) := by rw [Kt.out.cell]; rfl
  go_enter Tryd.func36, Tryd.ntmps36
  have HO1 := hid ((OwnR.nil ((w.alloc (.cells (x.map (Value.int .u8)).toArray 23 (0, 0))).alloc (.cells #[.slice none 0 0] 31 (0, 0))) [w.heap.size, w.heap.size + 1] (w.heap.size + 1 + 1)).below ((Below.refl _ _).alloc (Nat.le_refl _) (.cells #[.slice (some tp) tl tc] 29 (0, 0))))
  have HK1 := hid (Blk.new (w := ((w.alloc (.cells (x.map (Value.int .u8)).toArray 23 (0, 0))).alloc (.cells #[.slice none 0 0] 31 (0, 0)))) (n := w.heap.size + 1 + 1) (by simp only [World.size_alloc]) #[.slice (some tp) tl tc] 29)
  have HT1 := hid (HT.out.below ((Below.refl _ _).alloc (Nat.le_refl _) (.cells #[.slice (some tp) tl tc] 29 (0, 0))))
  have Kx1 := hid (Kx.out.old (.cells #[.slice (some tp) tl tc] 29 (0, 0)))
  have Kt1 := hid (Kt.out.old (.cells #[.slice (some tp) tl tc] 29 (0, 0)))
  have Hb1 := hid (Hb.out.alloc Hb.out.size (.cells #[.slice (some tp) tl tc] 29 (0, 0)))
  go_wp2_with (first
     | (
      at_builtin
      refine wpList_append_t (v := .slice none 0 0) rfl _ _ rfl rfl HO1.out rfl HK1.out HT1.out (fun _ p hp => ⟨by simp [Value.ownBlock], by have := htp; cases hp; simp only [List.mem_cons, List.not_mem_nil, or_false]; omega⟩) (by simp) (by simp only [World.size_alloc]; omega) ?_
      intro v5 w5 own5 hg5 b5
      rw [List.nil_append] at own5
      have HO5 := hid own5
      have HB5 := hid (Hb1.out.trans (b5.mono (by omega)))
      have Kx5 := hid (Kx1.out.belowB (by omega) b5)
      have Kt5 := hid (Kt1.out.belowB (by omega) b5)
      obtain ⟨a5, c5, hv5, -⟩ := own5.texts
      rw [List.length_singleton] at hv5
      subst hv5
      have hs5 := b5.size
      clear own5 hg5 b5)
     | (
      refine wpList_store_cell rfl 31 _ _ rfl (w.heap.size + 1) 0 (.slice a5 1 c5) rfl rfl rfl rfl #[.slice none 0 0] 31 Kt5.out (by simp) size_rowt ?_
      intro w6 hb6 hk6
      have HB6 := hid (hb6.below HB5.out HB5.out.size (by omega))
      have Kx6 := hid (hb6.blk Kx5.out (by omega))
      have Kt6 := hid (show Blk w6 (w.heap.size + 1) #[.slice a5 1 c5] 31 from hk6)
      have HO6 := hid (HO5.out.keptBut hb6 (by simp) (by omega))
      have hs6 := hb6.size
      clear hb6 hk6))
  go_returns
  exact ⟨_, _, rfl, Kx6.out, Kt6.out, HO6.out, HB6.out⟩
end Go.Proofs.YtkakoiaahgchmaaDoor
namespace Go.Proofs.YtkakoiaahgchmaaDoor
set_option maxRecDepth 100000
open Go.ChangeShapes Go.WideShapes Go.ChangeAt Go.RowKit
abbrev StepT := List Int × Bool
/-- The digest at the top, and the texts of the nodes, from the lowest one on. -/
def topF (x : List Int) : List StepT → List Int
  | [] => x
  | (s, b) :: l => topF (if b then nodeL s x else nodeL x s) l
def trailF (x : List Int) : List StepT → List (List Int)
  | [] => []
  | (s, b) :: l => (if b then nodeX s x else nodeX x s) :: trailF (if b then nodeL s x else nodeL x s) l
theorem topF_snoc (x : List Int) (l : List StepT) (s : List Int) (b : Bool) : topF x (l ++ [(s, b)]) = if b then nodeL s (topF x l) else nodeL (topF x l) s := by
  induction l generalizing x with
  | nil => rfl
  | cons y l ih => exact ih _
theorem trailF_snoc (x : List Int) (l : List StepT) (s : List Int) (b : Bool) : trailF x (l ++ [(s, b)]) = trailF x l ++ [if b then nodeX s (topF x l) else nodeX (topF x l) s] := by
  induction l generalizing x with
  | nil => rfl
  | cons y l ih =>
    show _ :: trailF _ (l ++ [(s, b)]) = _
    rw [ih]
    rfl
theorem trailF_length (x : List Int) (l : List StepT) : (trailF x l).length = l.length := by
  induction l generalizing x with
  | nil => rfl
  | cons y l ih => show _ + 1 = _; rw [ih]; rfl
theorem Dg.topF {x : List Int} (hx : Dg x) (l : List StepT) : Dg (topF x l) := by
  induction l generalizing x with
  | nil => exact hx
  | cons y l ih =>
    refine ih ?_
    split
    · exact Dg.nodeL _ _
    · exact Dg.nodeL _ _
/-- Bools, in memory that was there. -/
structure BoolsAt (w : World) (a : Option Addr) (len cap : Nat) (bs : List Bool) : Prop where
  length : bs.length = len
  le : len ≤ cap
  mem : len = 0 ∨ ∃ g, a = some ⟨g, 0, none⟩ ∧ g < w.heap.size ∧ ∀ j, j < len → w.cell? ⟨g, j, none⟩ = some (.bool (bs.getD j false))
theorem zip_take {ds : List (List Int)} {bs : List Bool} (hl : ds.length = bs.length) {k : Nat} (hk : k < ds.length) : (ds.zip bs).take (k + 1) = (ds.zip bs).take k ++ [(ds.getD k [], bs.getD k false)] := by
  rw [List.take_succ_eq_append_getElem (by simp; omega)]
  simp [List.getD_eq_getElem?_getD, List.getElem?_eq_getElem hk, List.getElem?_eq_getElem (show k < bs.length by omega)]
theorem size_bool1 : (Tryd.prog.info? 4).map (·.size) = some 1 := by kernel_rfl
set_option maxHeartbeats 4000000 in
theorem climbed_text (x : List Int) (ya : Option Addr) (yn yc : Nat) (ds : List (List Int)) (ga : Option Addr) (gc : Nat) (bs : List Bool) (tp : Addr) (tl tc : Nat) (lt : List Int) (w : World) (hx : Dg x) (hD : DigsAt w ya yn yc ds) (hG : BoolsAt w ga yn gc bs) (hyl : yn ≤ 300) (tab : ShaTab w) (hT : TextAt w (some tp) tl tc lt) (htp : tp.block < w.heap.size) :
    Calls Tryd.prog 44 #[.agg (x.map (Value.int .u8)).toArray, .slice (some tp) tl tc, .slice ya yn yc, .slice ga yn gc] w fun e w' => ∃ v, e = .returned v ∧ ∃ Sx base, w.heap.size ≤ base ∧ OwnR w' Sx base v ([lt] ++ trailF x (ds.zip bs)).reverse ∧ Below w.heap.size w w' := by
  have b1 := (Below.refl w.heap.size w).alloc (Nat.le_refl _) (.cells (x.map (Value.int .u8)).toArray 23 (0, 0))
  have Kz := hid (Blk.new (w := w) (n := w.heap.size) rfl (x.map (Value.int .u8)).toArray 23)
  have Hb := hid b1
  have hbz := b1.size
  have Hbs := hid (show w.heap.size + 1 = (w.alloc (.cells (x.map (Value.int .u8)).toArray 23 (0, 0))).heap.size by simp only [World.size_alloc])
  have Htab := hid tab
  clear b1 tab 
  have HD := hid hD
  have HG := hid hG
  have HX := hid hx
  have hyn := hD.length
  have hgn := hG.length
  clear hD hG
  have HT := hid hT
  clear hT
  go_enter Tryd.func44, Tryd.ntmps44
  go_wp2_with (refine wpList_load_blk rfl 23 _ rfl (w.heap.size) rfl _ 23 Kz.out _ Tryd.underlying23 rfl 32 size_digest hx.size ?_)
  obtain ⟨bx, hbx⟩ : ∃ b, b = w.heap.size + 1 := ⟨_, rfl⟩
  obtain ⟨bt, hbt⟩ : ∃ b, b = w.heap.size + 1 + 1 := ⟨_, rfl⟩
  obtain ⟨base, hbase⟩ : ∃ b, b = w.heap.size + 1 + 1 + 1 := ⟨_, rfl⟩
  refine (climber_text x tp tl tc lt _ (HT.out.below Hb.out) (by rw [(show (w.alloc (.cells (x.map (Value.int .u8)).toArray 23 (0, 0))).heap.size = w.heap.size + 1 from Hbs.out.symm)]; omega)).mono ?_
  rintro e w1 ⟨a1, c1, rfl, kx, kt, ho, b1⟩
  rw [(show (w.alloc (.cells (x.map (Value.int .u8)).toArray 23 (0, 0))).heap.size = w.heap.size + 1 from Hbs.out.symm)] at kx kt ho
  rw [(show (w.alloc (.cells (x.map (Value.int .u8)).toArray 23 (0, 0))).heap.size = w.heap.size + 1 from Hbs.out.symm), ← hbt, ← hbx]
  rw [← hbase, ← hbt, ← hbx] at ho
  rw [← hbx] at kx
  rw [← hbt] at kt
  have hb1 : base ≤ w1.heap.size := by have := kt.lt; omega
  have hlt1 : w.heap.size < bx := by omega
  have hlt2 : bx < bt := by omega
  have hlt3 : bt < base := by omega
  clear hbx hbt hbase
  have HB1 := hid (Below.on Hb.out b1)
  have Kx1 := hid kx
  have Kt1 := hid kt
  have HO1 := hid ho
  have hgl : tabLow w.heap.size := ⟨Htab.out.lt, Htab.out.lt0⟩
  clear kx kt ho b1
  go_wp2_with fail
  go_loopw [21] (fun iv wr => ∃ k : Nat, k ≤ yn ∧ iv = .int .i64 k ∧ Blk wr bx ((topF x ((ds.zip bs).take k)).map (Value.int .u8)).toArray 23 ∧ (∃ v, Blk wr bt #[v] 31 ∧ OwnR wr [bx, bt] base v ([lt] ++ trailF x ((ds.zip bs).take k))) ∧ base ≤ wr.heap.size ∧ Below w.heap.size w wr) (fun iv _ => yn - (intOf iv).toNat)
  case atStart => exact ⟨0, Nat.zero_le _, rfl, Kx1.out, ⟨_, Kt1.out, HO1.out⟩, hb1, HB1.out⟩
  case round =>
    obtain ⟨k, hk, rfl, kx, ⟨v, kt, ho⟩, hbw, bel⟩ := hrel
    have Kxwr := hid kx
    have Ktwr := hid kt
    have HOwr := hid ho
    have HBwr := hid bel
    have hswr := bel.size
    have hbxl := kx.lt
    have hbtl := kt.lt
    clear kx kt ho bel
    by_cases hcj : k < yn
    · skip
      have hcI : (k : Int) < (yn : Int) := by omega
      obtain ⟨y, yo, rfl, hy, hyc⟩ := HD.out.at_ (by omega)
      have hgm := HG.out.mem
      obtain ⟨g, rfl, hg, hgc⟩ : ∃ g, ga = some ⟨g, 0, none⟩ ∧ g < w.heap.size ∧ ∀ j, j < yn → w.cell? ⟨g, j, none⟩ = some (.bool (bs.getD j false)) := by
        rcases hgm with h | h
        · omega
        · exact h
      have HYR := hid (rangeAt_below (hyc k hcj) hy HBwr.out)
      have HGC := hid ((HBwr.out.cell (p := ⟨g, k, none⟩) hg).trans (hgc k hcj))
      have HS := hid (HD.out.get hcj)
      have HTX := hid (topF_snoc x ((ds.zip bs).take k) (ds.getD k []) (bs.getD k false))
      have HRX := hid (trailF_snoc x ((ds.zip bs).take k) (ds.getD k []) (bs.getD k false))
      have HZT := hid (zip_take (ds := ds) (bs := bs) (by omega) (show k < ds.length by omega))
      have htl : (trailF x ((ds.zip bs).take k)).length ≤ 300 := by rw [trailF_length, List.length_take]; omega
      have HXT := hid (Dg.topF HX.out ((ds.zip bs).take k))
      generalize hsk : ds.getD k [] = sk at *
      generalize hbk : bs.getD k false = bk at *
      generalize topF x ((ds.zip bs).take k) = xk at *
      generalize trailF x ((ds.zip bs).take k) = tk at *
      clear hyc hgc hgm hsk hbk
      go_wp2_with (first
         | (refine wpList_index_digs rfl 24 _ _ rfl Tryd.underlying24 size_digest y yo yn yc rfl _ _ rfl k rfl (by omega) ?_)
         | (refine wpList_load_mid rfl 23 _ rfl y (yo + k * 32) rfl _ _ HYR.out Tryd.underlying23 rfl (by rw [List.length_map, HS.out.len]; exact size_digest) ?_)
         | (
            refine wpList_store_blk rfl 23 _ _ rfl (wr.heap.size) (sk.map (Value.int .u8)).toArray rfl rfl _ 23 (Blk.new rfl (byteCells 32 []) _) 32 size_digest zsize HS.out.size (ints_one _ _) ?_
            intro w61 hbw61 hkw61
            have hw61 := hbw61.below ((Below.refl wr.heap.size wr).alloc (Nat.le_refl _) _) (by simp only [World.size_alloc]; omega) (Nat.le_refl _)
            have HBw61 := hid (Below.on HBwr.out hw61)
            have hsw61 := HBw61.out.size
            have Kxw61 := hid (Kxwr.out.below hw61)
            have hlxw61 := Kxwr.out.lt
            have Ksw61 := hid hkw61
            have hfw61 : w.heap.size ≤ wr.heap.size := HBwr.out.size
            have Ktw61 := hid (Ktwr.out.below hw61)
            have HOw61 := hid (HOwr.out.below hw61)
            have hbww61 : base ≤ w61.heap.size := Nat.le_trans hbw hw61.size
            have HGCw61 := hid ((hw61.cell (p := ⟨g, k, none⟩) (Nat.lt_of_lt_of_le hg hswr)).trans HGC.out)
            clear hbw61 hkw61 hw61))
      simp only [Act.put]
      have hlen : ([lt] ++ tk).length ≤ 1000 := by rw [List.length_append]; simp; omega
      have hgx : tabLow bx := ⟨by have := hgl.1; omega, by have := hgl.2; omega⟩
      have hgt : tabLow bt := ⟨by have := hgl.1; omega, by have := hgl.2; omega⟩
      have hgb : tabLow base := ⟨by have := hgl.1; omega, by have := hgl.2; omega⟩
      cases bk with
      | true =>
        have hfr := HOw61.out.size
        have hfm := HOw61.out.from
        refine FlowB.wp_region_butIn (bx :: bt :: v.ownBlock.toList) (fun wz => Blk wz bx (xk.map (Value.int .u8)).toArray 23 ∧ Blk wz bt #[v] 31 ∧ OwnR wz [bx, bt] base v ([lt] ++ tk)) 7 [0, 1, 2, 3, 4, 5] [] [(.c 6, [], [])] (by kernel_rfl) (by kernel_rfl) ⟨Kxw61.out, Ktw61.out, HOw61.out⟩ (fun _ _ h hb => ⟨h.1.below hb, h.2.1.below hb, h.2.2.below hb⟩) ?_
        apply Exists.intro
        refine ⟨fun w0 hb0 hF0 => ?_, ?_⟩
        · skip
          have hnS : ∀ n, n ≠ bx → n ≠ bt → (∀ g ∈ v.ownBlock.toList, n ≠ g) → n ∉ bx :: bt :: v.ownBlock.toList := fun n h1 h2 h3 hm => by
            rcases List.mem_cons.1 hm with h | hm
            · exact h1 h
            · rcases List.mem_cons.1 hm with h | hm
              · exact h2 h
              · exact h3 n hm rfl
          have x0 : ∀ w', (∃ x : Ext w0, w' = x.at_) → ∃ T, Blk w' wr.heap.size (sk.map (Value.int .u8)).toArray T := fun w' ⟨x, hx⟩ => ⟨_, hx ▸ (hb0.blk Ksw61.out (hnS _ (by omega) (by omega) (fun g hg => by have := HOwr.out.size g hg; omega))).below x.same⟩
          have y0 : ∀ w', (∃ x : Ext w0, w' = x.at_) → w'.cell? ⟨g, 0 + k * 1, none⟩ = some (.bool true) := fun w' ⟨x, hx⟩ => by
            rw [show 0 + k * 1 = k by omega, hx, x.same.cell (p := ⟨g, k, none⟩) (Nat.lt_of_lt_of_le (Nat.lt_of_lt_of_le hg HBw61.out.size) hb0.size)]
            rw [← HGCw61.out]
            unfold World.cell?
            rw [show w0.heap[g]? = w61.heap[g]? from hb0.block g (Nat.lt_of_lt_of_le hg HBw61.out.size) (hnS _ (by omega) (by omega) (fun q hq => by have := hfm q hq; omega))]
          simp only [pick, List.getElem?_toArray, List.getElem?_cons_succ, List.getElem?_cons_zero, Option.toList_some, List.cons_append, List.nil_append]
          repeat (first | (go_big_quiet_want; refine quiet_load_blk 23 _ rfl wr.heap.size rfl _ x0 _ Tryd.underlying23 rfl 32 size_digest HS.out.size ?_; go_big_quiet_on; simp only [Act.put, List.setIfInBounds_toArray, List.set_cons_zero, List.set_cons_succ]) | (go_big_quiet_want; refine quiet_index_s 1 76 _ _ rfl Tryd.underlying76 size_bool1 g 0 yn gc rfl _ _ rfl k rfl (by omega) ?_; go_big_quiet_on; simp only [Act.put, List.setIfInBounds_toArray, List.set_cons_zero, List.set_cons_succ]) | (go_big_quiet_want; refine quiet_load_one 4 _ rfl ⟨g, 0 + k * 1, none⟩ rfl _ y0 _ Tryd.underlying4 rfl ?_; go_big_quiet_on; simp only [Act.put, List.setIfInBounds_toArray, List.set_cons_zero, List.set_cons_succ]) | go_big_quiet_step (fail))
          exact wpQuiet_nil rfl
        refine FlowB.AlChk.nil ?_
        refine FlowB.Walk.call rfl 63 #[.agg (sk.map (Value.int .u8)).toArray, .bool true, .pointer (some ⟨bx, 0, none⟩), .pointer (some ⟨bt, 0, none⟩)] (fun _ _ => True) (fun _ wz => ∃ v', Blk wz bx ((nodeL sk xk).map (Value.int .u8)).toArray 23 ∧ Blk wz bt #[v'] 31 ∧ OwnR wz [bx, bt] base v' (([lt] ++ tk) ++ [(nodeX sk xk)])) (fun _ _ _ _ h _ => h) (fun _ _ _ ⟨v', h1, h2, h3⟩ hb => ⟨v', h1.below hb, h2.below hb, h3.below hb⟩) rfl (fun w1 hb1 hF1 hG1 => ⟨by go_simp, ?_⟩) ?_
        · refine (up_r xk sk bx bt base v ([lt] ++ tk) w1 HXT.out HS.out hG1.1 hG1.2.1 hG1.2.2 (by omega) (by omega) (by omega) (Nat.le_trans hbww61 hb1.size) hlen hgx hgt hgb (tab_butIn (Htab.out.below HBw61.out) hb1 (tab_all hgx hgt hgb hfm))).mono ?_
          rintro e w2 ⟨rfl, v', q1, q2, q3, q4⟩
          exact ⟨_, rfl, q4, trivial, v', q1, q2, q3⟩
        rintro vr w1 hb1 hF1 _
        apply Exists.intro
        refine ⟨fun w3 hb3 hF3 => wpQuiet_nil rfl, ?_⟩
        refine FlowB.AlChk.nil ?_
        refine FlowB.Walk.fin fun w6 h6 _ hG6 => ?_
        simp only [List.drop_succ_cons, List.drop_zero]
        obtain ⟨v', q1, q2, q3⟩ := hG6
        have HB6 := hid (h6.below HBw61.out HBw61.out.size (fun b hb => by
          rcases List.mem_cons.1 hb with h | hb
          · omega
          · rcases List.mem_cons.1 hb with h | hb
            · omega
            · have := hfm b hb; omega))
        have HQ1 := hid q1
        have HQ2 := hid q2
        have HQ3 := hid q3
        have hs6 := Nat.le_trans hbww61 h6.size
        clear h6 q1 q2 q3 hfr hfm
        go_wp2_with fail
        exact ⟨⟨k + 1, by omega, by first | rfl | simp, by rw [HZT.out, HTX.out]; exact HQ1.out, ⟨_, HQ2.out, by rw [HZT.out, HRX.out, ← List.append_assoc]; exact HQ3.out⟩, hs6, HB6.out⟩, by simp [intOf]; omega⟩
      | false =>
        have hfr := HOw61.out.size
        have hfm := HOw61.out.from
        refine FlowB.wp_region_butIn (bx :: bt :: v.ownBlock.toList) (fun wz => Blk wz bx (xk.map (Value.int .u8)).toArray 23 ∧ Blk wz bt #[v] 31 ∧ OwnR wz [bx, bt] base v ([lt] ++ tk)) 7 [0, 1, 2, 3, 4, 5] [] [(.c 6, [], [])] (by kernel_rfl) (by kernel_rfl) ⟨Kxw61.out, Ktw61.out, HOw61.out⟩ (fun _ _ h hb => ⟨h.1.below hb, h.2.1.below hb, h.2.2.below hb⟩) ?_
        apply Exists.intro
        refine ⟨fun w0 hb0 hF0 => ?_, ?_⟩
        · skip
          have hnS : ∀ n, n ≠ bx → n ≠ bt → (∀ g ∈ v.ownBlock.toList, n ≠ g) → n ∉ bx :: bt :: v.ownBlock.toList := fun n h1 h2 h3 hm => by
            rcases List.mem_cons.1 hm with h | hm
            · exact h1 h
            · rcases List.mem_cons.1 hm with h | hm
              · exact h2 h
              · exact h3 n hm rfl
          have x0 : ∀ w', (∃ x : Ext w0, w' = x.at_) → ∃ T, Blk w' wr.heap.size (sk.map (Value.int .u8)).toArray T := fun w' ⟨x, hx⟩ => ⟨_, hx ▸ (hb0.blk Ksw61.out (hnS _ (by omega) (by omega) (fun g hg => by have := HOwr.out.size g hg; omega))).below x.same⟩
          have y0 : ∀ w', (∃ x : Ext w0, w' = x.at_) → w'.cell? ⟨g, 0 + k * 1, none⟩ = some (.bool false) := fun w' ⟨x, hx⟩ => by
            rw [show 0 + k * 1 = k by omega, hx, x.same.cell (p := ⟨g, k, none⟩) (Nat.lt_of_lt_of_le (Nat.lt_of_lt_of_le hg HBw61.out.size) hb0.size)]
            rw [← HGCw61.out]
            unfold World.cell?
            rw [show w0.heap[g]? = w61.heap[g]? from hb0.block g (Nat.lt_of_lt_of_le hg HBw61.out.size) (hnS _ (by omega) (by omega) (fun q hq => by have := hfm q hq; omega))]
          simp only [pick, List.getElem?_toArray, List.getElem?_cons_succ, List.getElem?_cons_zero, Option.toList_some, List.cons_append, List.nil_append]
          repeat (first | (go_big_quiet_want; refine quiet_load_blk 23 _ rfl wr.heap.size rfl _ x0 _ Tryd.underlying23 rfl 32 size_digest HS.out.size ?_; go_big_quiet_on; simp only [Act.put, List.setIfInBounds_toArray, List.set_cons_zero, List.set_cons_succ]) | (go_big_quiet_want; refine quiet_index_s 1 76 _ _ rfl Tryd.underlying76 size_bool1 g 0 yn gc rfl _ _ rfl k rfl (by omega) ?_; go_big_quiet_on; simp only [Act.put, List.setIfInBounds_toArray, List.set_cons_zero, List.set_cons_succ]) | (go_big_quiet_want; refine quiet_load_one 4 _ rfl ⟨g, 0 + k * 1, none⟩ rfl _ y0 _ Tryd.underlying4 rfl ?_; go_big_quiet_on; simp only [Act.put, List.setIfInBounds_toArray, List.set_cons_zero, List.set_cons_succ]) | go_big_quiet_step (fail))
          exact wpQuiet_nil rfl
        refine FlowB.AlChk.nil ?_
        refine FlowB.Walk.call rfl 63 #[.agg (sk.map (Value.int .u8)).toArray, .bool false, .pointer (some ⟨bx, 0, none⟩), .pointer (some ⟨bt, 0, none⟩)] (fun _ _ => True) (fun _ wz => ∃ v', Blk wz bx ((nodeL xk sk).map (Value.int .u8)).toArray 23 ∧ Blk wz bt #[v'] 31 ∧ OwnR wz [bx, bt] base v' (([lt] ++ tk) ++ [(nodeX xk sk)])) (fun _ _ _ _ h _ => h) (fun _ _ _ ⟨v', h1, h2, h3⟩ hb => ⟨v', h1.below hb, h2.below hb, h3.below hb⟩) rfl (fun w1 hb1 hF1 hG1 => ⟨by go_simp, ?_⟩) ?_
        · refine (up_l xk sk bx bt base v ([lt] ++ tk) w1 HXT.out HS.out hG1.1 hG1.2.1 hG1.2.2 (by omega) (by omega) (by omega) (Nat.le_trans hbww61 hb1.size) hlen hgx hgt hgb (tab_butIn (Htab.out.below HBw61.out) hb1 (tab_all hgx hgt hgb hfm))).mono ?_
          rintro e w2 ⟨rfl, v', q1, q2, q3, q4⟩
          exact ⟨_, rfl, q4, trivial, v', q1, q2, q3⟩
        rintro vr w1 hb1 hF1 _
        apply Exists.intro
        refine ⟨fun w3 hb3 hF3 => wpQuiet_nil rfl, ?_⟩
        refine FlowB.AlChk.nil ?_
        refine FlowB.Walk.fin fun w6 h6 _ hG6 => ?_
        simp only [List.drop_succ_cons, List.drop_zero]
        obtain ⟨v', q1, q2, q3⟩ := hG6
        have HB6 := hid (h6.below HBw61.out HBw61.out.size (fun b hb => by
          rcases List.mem_cons.1 hb with h | hb
          · omega
          · rcases List.mem_cons.1 hb with h | hb
            · omega
            · have := hfm b hb; omega))
        have HQ1 := hid q1
        have HQ2 := hid q2
        have HQ3 := hid q3
        have hs6 := Nat.le_trans hbww61 h6.size
        clear h6 q1 q2 q3 hfr hfm
        go_wp2_with fail
        exact ⟨⟨k + 1, by omega, by first | rfl | simp, by rw [HZT.out, HTX.out]; exact HQ1.out, ⟨_, HQ2.out, by rw [HZT.out, HRX.out, ← List.append_assoc]; exact HQ3.out⟩, hs6, HB6.out⟩, by simp [intOf]; omega⟩
    · skip
      have hke : k = yn := by omega
      subst hke
      have hcI : ¬ (k : Int) < (k : Int) := by omega
      rw [show (ds.zip bs).take k = ds.zip bs from List.take_of_length_le (by simp; omega)] at HOwr
      have hll : ([lt] ++ trailF x (ds.zip bs)).length ≤ 1000 := by rw [List.length_append, trailF_length]; simp; omega
      generalize hTT : [lt] ++ trailF x (ds.zip bs) = TT at *
      have HTT := hid hTT
      clear hTT
      obtain ⟨a9, c9, hv9, -⟩ := HOwr.out.texts
      subst hv9
      obtain ⟨N9, hN9⟩ : ∃ N, N = TT.length := ⟨_, rfl⟩
      rw [← hN9] at HOwr Ktwr
      have HN9 := hid hN9
      have hl9 := HOwr.out.from
      clear hN9
      go_wp2_with fail
      refine (end_any bx bt base a9 N9 c9 TT _ Ktwr.out HOwr.out (by omega) hll).mono ?_
      rintro e w8 ⟨rfl, o8, r8⟩
      have HO8 := hid (r8.below HBwr.out hswr (fun b hb => by have := hl9 b hb; omega))
      have HP8 := hid o8
      clear o8 r8 hl9
      go_wp2_with fail
      go_returns
      exact ⟨.slice a9 N9 c9, rfl, [bx, bt], base, by omega, by have HR := HP8.out; rw [← HTT.out] at HR; simpa using HR, HO8.out⟩
end Go.Proofs.YtkakoiaahgchmaaDoor
namespace Go.Proofs.YtkakoiaahgchmaaDoor
set_option maxRecDepth 100000
open Go.ChangeShapes Go.WideShapes Go.ChangeAt Go.RowKit
theorem conv_a23 (W : World) : (convert 29 29 (.slice (some ⟨W.heap.size, 0, none⟩) 1 1)).run Tryd.prog (W.alloc (.cells #[.int .u8 97] 5)) = .ok (.slice (some ⟨W.heap.size, 0, none⟩) 1 1) (W.alloc (.cells #[.int .u8 97] 5 (1, 2))) := by
  have h := Go.Lib.run_convert_bytes_const (P := Tryd.prog) W 29 5 #[.int .u8 97] 1 1 Tryd.underlying29 Tryd.underlying5
  simpa using h
theorem BoolsAt.nil (w : World) : BoolsAt w none 0 0 [] := ⟨rfl, Nat.le_refl _, .inl rfl⟩
theorem TextAt.some_ {w : World} {a : Option Addr} {len cap : Nat} {t : List Int} (h : TextAt w a len cap t) (hl : 0 < len) : ∃ p : Addr, a = some p ∧ p.block < w.heap.size := by
  obtain ⟨h1, h2, h3, h4, h | ⟨x, o, s, rfl, hc⟩⟩ := h
  · omega
  · exact ⟨_, rfl, (hc 0 hl).2.1⟩
set_option maxHeartbeats 4000000 in
theorem sides_one (i : Int) (w : World) :
    Calls Tryd.prog 43 #[.int .i64 1, .int .i64 i] w fun e w' => e = .returned (.slice none 0 0) ∧ Below w.heap.size w w' := by
  have Hb := hid (Below.refl w.heap.size w)
  go_enter Tryd.func43, Tryd.ntmps43
  go_wp2_with fail
  go_loopw [0, 1, 5] (fun nv iv sv wr => nv = .int .i64 1 ∧ sv = .slice none 0 0 ∧ Below w.heap.size w wr) (fun _ _ _ _ => 0)
  case atStart => exact ⟨rfl, rfl, Hb.out⟩
  case round =>
    obtain ⟨rfl, rfl, bel⟩ := hrel
    have HBwr := hid bel
    clear bel
    go_wp2_with fail
    refine (revB_any (e := 4) none 0 0 0 [] wr (OwnV.nil wr 0 4) (by simp)).mono ?_
    rintro e2 w1 ⟨rfl, -, b1⟩
    have HB1 := hid (b1.below HBwr.out HBwr.out.size (by simp [Value.ownBlock]))
    clear b1
    go_wp2_with fail
    go_returns
    exact ⟨rfl, HB1.out⟩
set_option maxHeartbeats 4000000 in
theorem text_one (a : Option Addr) (n c : Nat) (t : List Int) (w : World) (hT : TextAt w a n c t) (hn : n ≤ 1000) (tab : ShaTab w) :
    Calls Tryd.prog 14 #[.int .i64 1, .int .i64 0, .slice a n c, .slice none 0 0] w fun e w' => ∃ v, e = .returned v ∧ ∃ Sx base, w.heap.size ≤ base ∧ OwnR w' Sx base v [0 :: t] ∧ Below w.heap.size w w' := by
  have Hb := hid (Below.refl w.heap.size w)
  have Htab := hid tab
  clear  tab 
  have HT := hid hT
  have HL := hid (Dg.leafL t)
  clear hT
  go_enter Tryd.func14, Tryd.ntmps14
  go_wp2_with fail
  refine (sides_one 0 _).mono ?_
  rintro e w1 ⟨rfl, bw1⟩
  have HBw1 := hid (Below.on Hb.out bw1)
  have hsw1 := HBw1.out.size
  clear bw1
  go_wp2_with fail
  refine (loleaf_any a n c t _ (HT.out.below HBw1.out) (by omega) (Htab.out.below HBw1.out)).mono ?_
  rintro e w2 ⟨rfl, bw2⟩
  have HBw2 := hid (Below.on HBw1.out bw2)
  have hsw2 := HBw2.out.size
  clear bw2
  go_wp2_with fail
  have HBA := hid (HBw2.out.alloc HBw2.out.size (.cells #[.slice a n c] 29 (0, 0)))
  have HS := hid (TextsAt.of_blk (n := 1) (cap := 1) (ts := [t]) (Blk.new (w := w2) rfl #[.slice a n c] 29) rfl (Nat.le_refl _) (by omega) fun j hj => by
    match j, hj with
    | 0, _ => exact ⟨_, _, _, rfl, HT.out.below HBA.out⟩)
  refine (joined_any 0 _ _ _ [t] _ (by omega) HS.out (by simp only [sumLen, List.map_cons, List.map_nil, List.sum_cons, List.sum_nil]; have := HT.out.length; omega)).mono ?_
  rintro e w8 ⟨v8, rfl, b8, o8⟩
  have HB8 := hid (Below.on HBA.out b8)
  have hs8 := b8.size
  obtain ⟨a8, c8, rfl, q1, q2⟩ := o8.text2
  rw [show ([0] : List Int) ++ ([t] : List (List Int)).flatten = 0 :: t by simp] at q1 ⊢
  obtain ⟨p8, rfl, hp8⟩ := q1.some_ (by simp)
  obtain ⟨N8, hN8⟩ : ∃ N, N = (0 :: t).length := ⟨_, rfl⟩
  rw [← hN8] at q1 ⊢
  have HT8 := hid q1
  clear q1 q2 b8 o8 hN8
  go_wp2_with fail
  refine (climbed_text (leafL t) none 0 0 [] none 0 [] p8 N8 c8 (0 :: t) w8 HL.out (DigsAt.nil _) (BoolsAt.nil _) (by omega) (Htab.out.below HB8.out) HT8.out hp8).mono ?_
  rintro e w9 ⟨v9, rfl, Sx, base, h1, h2, h3⟩
  have HO9 := hid h2
  have HB9 := hid (Below.on HB8.out h3)
  have h19 := Nat.le_trans HB8.out.size h1
  clear h2 h3 h1
  go_wp2_with fail
  go_returns
  exact ⟨_, rfl, Sx, base, h19, by have := HO9.out; simpa [trailF] using this, HB9.out⟩
set_option maxHeartbeats 4000000 in
theorem grow_zero (x : List Int) (n : Int) (a : Option Addr) (l c : Nat) (w : World) (_hx : Dg x) :
    Calls Tryd.prog 15 #[.agg (x.map (Value.int .u8)).toArray, .int .i64 0, .int .i64 n, .slice a l c] w fun e w' => e = .returned (.slice none 0 0) ∧ Below w.heap.size w w' := by
  have b1 := (Below.refl w.heap.size w).alloc (Nat.le_refl _) (.cells (x.map (Value.int .u8)).toArray 23 (0, 0))
  have Kz := hid (Blk.new (w := w) (n := w.heap.size) rfl (x.map (Value.int .u8)).toArray 23)
  have Hb := hid b1
  have hbz := b1.size
  have Hbs := hid (show w.heap.size + 1 = (w.alloc (.cells (x.map (Value.int .u8)).toArray 23 (0, 0))).heap.size by simp only [World.size_alloc])
  clear b1 
  go_enter Tryd.func15, Tryd.ntmps15
  go_wp2_with fail
  go_returns
  exact ⟨rfl, Hb.out⟩
set_option maxHeartbeats 4000000 in
theorem knows23 (w : World) (tab : ShaTab w) : Calls Tryd.prog 9 #[] w fun e w' => e = .returned (.bool true) ∧ Below w.heap.size w w' := by
  have Hb := hid (Below.refl w.heap.size w)
  have Htab := hid tab
  clear  tab 
  have hcv := conv_a23
  have hA := hid (TextAt.made (w := w) (bs := [97]) (n := 1) (T := 5) (1, 2) rfl (by omega) (by simp))
  have HB1 := hid ((Below.refl w.heap.size w).alloc (Nat.le_refl _) (.cells #[.int .u8 97] 5 (1, 2)))
  go_enter Tryd.func9, Tryd.ntmps9
  go_wp2_with fail
  refine (text_one _ _ _ [97] _ hA.out (by omega) (Htab.out.below HB1.out)).mono ?_
  rintro e w2 ⟨v2, rfl, Sx, base, -, o2, b2⟩
  have HB2 := hid (Below.on HB1.out b2)
  obtain ⟨a2, c2, rfl, ht2⟩ := o2.texts
  have HT2 := hid (show TextsAt w2 a2 1 c2 [[0, 97]] from ht2)
  rw [show ([[0, 97]] : List (List Int)).length = 1 from rfl]
  have hs2 := HB2.out.size
  clear b2 o2 ht2
  go_wp2_with fail
  refine (part_none _ _ _ _ _ _ _ _ _ HT2.out HT2.out (firstU_none fun _ _ => rfl)).mono ?_
  rintro e w3 ⟨rfl, bw3⟩
  have HBw3 := hid (Below.on HB2.out bw3)
  have hsw3 := HBw3.out.size
  have HTX := hid (HT2.out.below bw3)
  clear bw3
  go_wp2_with fail
  have HX0 := hid (show TextAt ((((((w3.alloc (.cells #[.int .u8 1] 5 (0, 0))).alloc (.cells #[.int .u8 2] 5 (0, 0))).alloc (.cells #[.slice (some ⟨w3.heap.size, 0, none⟩) 1 1, .slice (some ⟨w3.heap.size + 1, 0, none⟩) 1 1] 29 (0, 0))).alloc (.cells #[.int .u8 1] 5 (0, 0))).alloc (.cells #[.int .u8 3] 5 (0, 0))).alloc (.cells #[.slice (some ⟨w3.heap.size + 1 + 1 + 1, 0, none⟩) 1 1, .slice (some ⟨w3.heap.size + 1 + 1 + 1 + 1, 0, none⟩) 1 1] 29 (0, 0))) (some ⟨w3.heap.size, 0, none⟩) 1 1 [1] from by
    have h := (TextAt.made (w := w3) (bs := [1]) (n := 1) (T := 5) (0, 0) rfl (by omega) (by simp)).below ((((((Below.refl ((w3.alloc (.cells #[.int .u8 1] 5 (0, 0)))).heap.size ((w3.alloc (.cells #[.int .u8 1] 5 (0, 0))))).alloc (Nat.le_refl _) (.cells #[.int .u8 2] 5 (0, 0))).alloc (by simp only [World.size_alloc]; omega) (.cells #[.slice (some ⟨w3.heap.size, 0, none⟩) 1 1, .slice (some ⟨w3.heap.size + 1, 0, none⟩) 1 1] 29 (0, 0))).alloc (by simp only [World.size_alloc]; omega) (.cells #[.int .u8 1] 5 (0, 0))).alloc (by simp only [World.size_alloc]; omega) (.cells #[.int .u8 3] 5 (0, 0))).alloc (by simp only [World.size_alloc]; omega) (.cells #[.slice (some ⟨w3.heap.size + 1 + 1 + 1, 0, none⟩) 1 1, .slice (some ⟨w3.heap.size + 1 + 1 + 1 + 1, 0, none⟩) 1 1] 29 (0, 0)))
    rw [show (w3).heap.size = w3.heap.size by first | rfl | simp only [World.size_alloc]] at h
    exact h)
  have HX1 := hid (show TextAt ((((((w3.alloc (.cells #[.int .u8 1] 5 (0, 0))).alloc (.cells #[.int .u8 2] 5 (0, 0))).alloc (.cells #[.slice (some ⟨w3.heap.size, 0, none⟩) 1 1, .slice (some ⟨w3.heap.size + 1, 0, none⟩) 1 1] 29 (0, 0))).alloc (.cells #[.int .u8 1] 5 (0, 0))).alloc (.cells #[.int .u8 3] 5 (0, 0))).alloc (.cells #[.slice (some ⟨w3.heap.size + 1 + 1 + 1, 0, none⟩) 1 1, .slice (some ⟨w3.heap.size + 1 + 1 + 1 + 1, 0, none⟩) 1 1] 29 (0, 0))) (some ⟨w3.heap.size + 1, 0, none⟩) 1 1 [2] from by
    have h := (TextAt.made (w := (w3.alloc (.cells #[.int .u8 1] 5 (0, 0)))) (bs := [2]) (n := 1) (T := 5) (0, 0) rfl (by omega) (by simp)).below (((((Below.refl (((w3.alloc (.cells #[.int .u8 1] 5 (0, 0))).alloc (.cells #[.int .u8 2] 5 (0, 0)))).heap.size (((w3.alloc (.cells #[.int .u8 1] 5 (0, 0))).alloc (.cells #[.int .u8 2] 5 (0, 0))))).alloc (Nat.le_refl _) (.cells #[.slice (some ⟨w3.heap.size, 0, none⟩) 1 1, .slice (some ⟨w3.heap.size + 1, 0, none⟩) 1 1] 29 (0, 0))).alloc (by simp only [World.size_alloc]; omega) (.cells #[.int .u8 1] 5 (0, 0))).alloc (by simp only [World.size_alloc]; omega) (.cells #[.int .u8 3] 5 (0, 0))).alloc (by simp only [World.size_alloc]; omega) (.cells #[.slice (some ⟨w3.heap.size + 1 + 1 + 1, 0, none⟩) 1 1, .slice (some ⟨w3.heap.size + 1 + 1 + 1 + 1, 0, none⟩) 1 1] 29 (0, 0)))
    rw [show ((w3.alloc (.cells #[.int .u8 1] 5 (0, 0)))).heap.size = w3.heap.size + 1 by first | rfl | simp only [World.size_alloc]] at h
    exact h)
  have HX3 := hid (show TextAt ((((((w3.alloc (.cells #[.int .u8 1] 5 (0, 0))).alloc (.cells #[.int .u8 2] 5 (0, 0))).alloc (.cells #[.slice (some ⟨w3.heap.size, 0, none⟩) 1 1, .slice (some ⟨w3.heap.size + 1, 0, none⟩) 1 1] 29 (0, 0))).alloc (.cells #[.int .u8 1] 5 (0, 0))).alloc (.cells #[.int .u8 3] 5 (0, 0))).alloc (.cells #[.slice (some ⟨w3.heap.size + 1 + 1 + 1, 0, none⟩) 1 1, .slice (some ⟨w3.heap.size + 1 + 1 + 1 + 1, 0, none⟩) 1 1] 29 (0, 0))) (some ⟨w3.heap.size + 1 + 1 + 1, 0, none⟩) 1 1 [1] from by
    have h := (TextAt.made (w := (((w3.alloc (.cells #[.int .u8 1] 5 (0, 0))).alloc (.cells #[.int .u8 2] 5 (0, 0))).alloc (.cells #[.slice (some ⟨w3.heap.size, 0, none⟩) 1 1, .slice (some ⟨w3.heap.size + 1, 0, none⟩) 1 1] 29 (0, 0)))) (bs := [1]) (n := 1) (T := 5) (0, 0) rfl (by omega) (by simp)).below (((Below.refl (((((w3.alloc (.cells #[.int .u8 1] 5 (0, 0))).alloc (.cells #[.int .u8 2] 5 (0, 0))).alloc (.cells #[.slice (some ⟨w3.heap.size, 0, none⟩) 1 1, .slice (some ⟨w3.heap.size + 1, 0, none⟩) 1 1] 29 (0, 0))).alloc (.cells #[.int .u8 1] 5 (0, 0)))).heap.size (((((w3.alloc (.cells #[.int .u8 1] 5 (0, 0))).alloc (.cells #[.int .u8 2] 5 (0, 0))).alloc (.cells #[.slice (some ⟨w3.heap.size, 0, none⟩) 1 1, .slice (some ⟨w3.heap.size + 1, 0, none⟩) 1 1] 29 (0, 0))).alloc (.cells #[.int .u8 1] 5 (0, 0))))).alloc (Nat.le_refl _) (.cells #[.int .u8 3] 5 (0, 0))).alloc (by simp only [World.size_alloc]; omega) (.cells #[.slice (some ⟨w3.heap.size + 1 + 1 + 1, 0, none⟩) 1 1, .slice (some ⟨w3.heap.size + 1 + 1 + 1 + 1, 0, none⟩) 1 1] 29 (0, 0)))
    rw [show ((((w3.alloc (.cells #[.int .u8 1] 5 (0, 0))).alloc (.cells #[.int .u8 2] 5 (0, 0))).alloc (.cells #[.slice (some ⟨w3.heap.size, 0, none⟩) 1 1, .slice (some ⟨w3.heap.size + 1, 0, none⟩) 1 1] 29 (0, 0)))).heap.size = w3.heap.size + 1 + 1 + 1 by first | rfl | simp only [World.size_alloc]] at h
    exact h)
  have HX4 := hid (show TextAt ((((((w3.alloc (.cells #[.int .u8 1] 5 (0, 0))).alloc (.cells #[.int .u8 2] 5 (0, 0))).alloc (.cells #[.slice (some ⟨w3.heap.size, 0, none⟩) 1 1, .slice (some ⟨w3.heap.size + 1, 0, none⟩) 1 1] 29 (0, 0))).alloc (.cells #[.int .u8 1] 5 (0, 0))).alloc (.cells #[.int .u8 3] 5 (0, 0))).alloc (.cells #[.slice (some ⟨w3.heap.size + 1 + 1 + 1, 0, none⟩) 1 1, .slice (some ⟨w3.heap.size + 1 + 1 + 1 + 1, 0, none⟩) 1 1] 29 (0, 0))) (some ⟨w3.heap.size + 1 + 1 + 1 + 1, 0, none⟩) 1 1 [3] from by
    have h := (TextAt.made (w := ((((w3.alloc (.cells #[.int .u8 1] 5 (0, 0))).alloc (.cells #[.int .u8 2] 5 (0, 0))).alloc (.cells #[.slice (some ⟨w3.heap.size, 0, none⟩) 1 1, .slice (some ⟨w3.heap.size + 1, 0, none⟩) 1 1] 29 (0, 0))).alloc (.cells #[.int .u8 1] 5 (0, 0)))) (bs := [3]) (n := 1) (T := 5) (0, 0) rfl (by omega) (by simp)).below ((Below.refl ((((((w3.alloc (.cells #[.int .u8 1] 5 (0, 0))).alloc (.cells #[.int .u8 2] 5 (0, 0))).alloc (.cells #[.slice (some ⟨w3.heap.size, 0, none⟩) 1 1, .slice (some ⟨w3.heap.size + 1, 0, none⟩) 1 1] 29 (0, 0))).alloc (.cells #[.int .u8 1] 5 (0, 0))).alloc (.cells #[.int .u8 3] 5 (0, 0)))).heap.size ((((((w3.alloc (.cells #[.int .u8 1] 5 (0, 0))).alloc (.cells #[.int .u8 2] 5 (0, 0))).alloc (.cells #[.slice (some ⟨w3.heap.size, 0, none⟩) 1 1, .slice (some ⟨w3.heap.size + 1, 0, none⟩) 1 1] 29 (0, 0))).alloc (.cells #[.int .u8 1] 5 (0, 0))).alloc (.cells #[.int .u8 3] 5 (0, 0))))).alloc (Nat.le_refl _) (.cells #[.slice (some ⟨w3.heap.size + 1 + 1 + 1, 0, none⟩) 1 1, .slice (some ⟨w3.heap.size + 1 + 1 + 1 + 1, 0, none⟩) 1 1] 29 (0, 0)))
    rw [show (((((w3.alloc (.cells #[.int .u8 1] 5 (0, 0))).alloc (.cells #[.int .u8 2] 5 (0, 0))).alloc (.cells #[.slice (some ⟨w3.heap.size, 0, none⟩) 1 1, .slice (some ⟨w3.heap.size + 1, 0, none⟩) 1 1] 29 (0, 0))).alloc (.cells #[.int .u8 1] 5 (0, 0)))).heap.size = w3.heap.size + 1 + 1 + 1 + 1 by first | rfl | simp only [World.size_alloc]] at h
    exact h)
  have HR2 := hid (show TextsAt ((((((w3.alloc (.cells #[.int .u8 1] 5 (0, 0))).alloc (.cells #[.int .u8 2] 5 (0, 0))).alloc (.cells #[.slice (some ⟨w3.heap.size, 0, none⟩) 1 1, .slice (some ⟨w3.heap.size + 1, 0, none⟩) 1 1] 29 (0, 0))).alloc (.cells #[.int .u8 1] 5 (0, 0))).alloc (.cells #[.int .u8 3] 5 (0, 0))).alloc (.cells #[.slice (some ⟨w3.heap.size + 1 + 1 + 1, 0, none⟩) 1 1, .slice (some ⟨w3.heap.size + 1 + 1 + 1 + 1, 0, none⟩) 1 1] 29 (0, 0))) (some ⟨w3.heap.size + 1 + 1, 0, none⟩) 2 2 [[1], [2]] from by
    have k := (Blk.new (w := ((w3.alloc (.cells #[.int .u8 1] 5 (0, 0))).alloc (.cells #[.int .u8 2] 5 (0, 0)))) (n := w3.heap.size + 1 + 1) (by first | rfl | simp only [World.size_alloc]) #[.slice (some ⟨w3.heap.size, 0, none⟩) 1 1, .slice (some ⟨w3.heap.size + 1, 0, none⟩) 1 1] 29).below ((((Below.refl ((((w3.alloc (.cells #[.int .u8 1] 5 (0, 0))).alloc (.cells #[.int .u8 2] 5 (0, 0))).alloc (.cells #[.slice (some ⟨w3.heap.size, 0, none⟩) 1 1, .slice (some ⟨w3.heap.size + 1, 0, none⟩) 1 1] 29 (0, 0)))).heap.size ((((w3.alloc (.cells #[.int .u8 1] 5 (0, 0))).alloc (.cells #[.int .u8 2] 5 (0, 0))).alloc (.cells #[.slice (some ⟨w3.heap.size, 0, none⟩) 1 1, .slice (some ⟨w3.heap.size + 1, 0, none⟩) 1 1] 29 (0, 0))))).alloc (Nat.le_refl _) (.cells #[.int .u8 1] 5 (0, 0))).alloc (by simp only [World.size_alloc]; omega) (.cells #[.int .u8 3] 5 (0, 0))).alloc (by simp only [World.size_alloc]; omega) (.cells #[.slice (some ⟨w3.heap.size + 1 + 1 + 1, 0, none⟩) 1 1, .slice (some ⟨w3.heap.size + 1 + 1 + 1 + 1, 0, none⟩) 1 1] 29 (0, 0)))
    exact TextsAt.of_blk (n := 2) (cap := 2) k rfl (Nat.le_refl _) (by omega) fun j hj => by
      match j, hj with
      | 0, _ => exact ⟨_, _, _, rfl, HX0.out⟩
      | 1, _ => exact ⟨_, _, _, rfl, HX1.out⟩)
  have HR5 := hid (show TextsAt ((((((w3.alloc (.cells #[.int .u8 1] 5 (0, 0))).alloc (.cells #[.int .u8 2] 5 (0, 0))).alloc (.cells #[.slice (some ⟨w3.heap.size, 0, none⟩) 1 1, .slice (some ⟨w3.heap.size + 1, 0, none⟩) 1 1] 29 (0, 0))).alloc (.cells #[.int .u8 1] 5 (0, 0))).alloc (.cells #[.int .u8 3] 5 (0, 0))).alloc (.cells #[.slice (some ⟨w3.heap.size + 1 + 1 + 1, 0, none⟩) 1 1, .slice (some ⟨w3.heap.size + 1 + 1 + 1 + 1, 0, none⟩) 1 1] 29 (0, 0))) (some ⟨w3.heap.size + 1 + 1 + 1 + 1 + 1, 0, none⟩) 2 2 [[1], [3]] from by
    have k := (Blk.new (w := (((((w3.alloc (.cells #[.int .u8 1] 5 (0, 0))).alloc (.cells #[.int .u8 2] 5 (0, 0))).alloc (.cells #[.slice (some ⟨w3.heap.size, 0, none⟩) 1 1, .slice (some ⟨w3.heap.size + 1, 0, none⟩) 1 1] 29 (0, 0))).alloc (.cells #[.int .u8 1] 5 (0, 0))).alloc (.cells #[.int .u8 3] 5 (0, 0)))) (n := w3.heap.size + 1 + 1 + 1 + 1 + 1) (by first | rfl | simp only [World.size_alloc]) #[.slice (some ⟨w3.heap.size + 1 + 1 + 1, 0, none⟩) 1 1, .slice (some ⟨w3.heap.size + 1 + 1 + 1 + 1, 0, none⟩) 1 1] 29).below (Below.refl (((((((w3.alloc (.cells #[.int .u8 1] 5 (0, 0))).alloc (.cells #[.int .u8 2] 5 (0, 0))).alloc (.cells #[.slice (some ⟨w3.heap.size, 0, none⟩) 1 1, .slice (some ⟨w3.heap.size + 1, 0, none⟩) 1 1] 29 (0, 0))).alloc (.cells #[.int .u8 1] 5 (0, 0))).alloc (.cells #[.int .u8 3] 5 (0, 0))).alloc (.cells #[.slice (some ⟨w3.heap.size + 1 + 1 + 1, 0, none⟩) 1 1, .slice (some ⟨w3.heap.size + 1 + 1 + 1 + 1, 0, none⟩) 1 1] 29 (0, 0)))).heap.size (((((((w3.alloc (.cells #[.int .u8 1] 5 (0, 0))).alloc (.cells #[.int .u8 2] 5 (0, 0))).alloc (.cells #[.slice (some ⟨w3.heap.size, 0, none⟩) 1 1, .slice (some ⟨w3.heap.size + 1, 0, none⟩) 1 1] 29 (0, 0))).alloc (.cells #[.int .u8 1] 5 (0, 0))).alloc (.cells #[.int .u8 3] 5 (0, 0))).alloc (.cells #[.slice (some ⟨w3.heap.size + 1 + 1 + 1, 0, none⟩) 1 1, .slice (some ⟨w3.heap.size + 1 + 1 + 1 + 1, 0, none⟩) 1 1] 29 (0, 0)))))
    exact TextsAt.of_blk (n := 2) (cap := 2) k rfl (Nat.le_refl _) (by omega) fun j hj => by
      match j, hj with
      | 0, _ => exact ⟨_, _, _, rfl, HX3.out⟩
      | 1, _ => exact ⟨_, _, _, rfl, HX4.out⟩)
  have HBV := hid (Below.on HBw3.out (((((((Below.refl (w3).heap.size (w3)).alloc (Nat.le_refl _) (.cells #[.int .u8 1] 5 (0, 0))).alloc (by simp only [World.size_alloc]; omega) (.cells #[.int .u8 2] 5 (0, 0))).alloc (by simp only [World.size_alloc]; omega) (.cells #[.slice (some ⟨w3.heap.size, 0, none⟩) 1 1, .slice (some ⟨w3.heap.size + 1, 0, none⟩) 1 1] 29 (0, 0))).alloc (by simp only [World.size_alloc]; omega) (.cells #[.int .u8 1] 5 (0, 0))).alloc (by simp only [World.size_alloc]; omega) (.cells #[.int .u8 3] 5 (0, 0))).alloc (by simp only [World.size_alloc]; omega) (.cells #[.slice (some ⟨w3.heap.size + 1 + 1 + 1, 0, none⟩) 1 1, .slice (some ⟨w3.heap.size + 1 + 1 + 1 + 1, 0, none⟩) 1 1] 29 (0, 0))))
  refine (part_some _ _ _ _ _ _ [[1], [2]] [[1], [3]] _ HR2.out HR5.out (by simp) (by simp) (k := 1) (firstU_some (by simp) (by simp) (fun j hj => by
    have : j = 0 := by omega
    subst this; rfl) (by simp))).mono ?_
  rintro e w5 ⟨u5, v5, rfl, ⟨p5, m5, q5, rfl, hu5⟩, ⟨p6, m6, q6, rfl, hv5⟩, b5⟩
  have HB5 := hid (Below.on HBV.out b5)
  obtain ⟨x, o, a', l', c', rfl, hx, hxc, hxt⟩ := ((HTX.out.below (((((((Below.refl (w3).heap.size (w3)).alloc (Nat.le_refl _) (.cells #[.int .u8 1] 5 (0, 0))).alloc (by simp only [World.size_alloc]; omega) (.cells #[.int .u8 2] 5 (0, 0))).alloc (by simp only [World.size_alloc]; omega) (.cells #[.slice (some ⟨w3.heap.size, 0, none⟩) 1 1, .slice (some ⟨w3.heap.size + 1, 0, none⟩) 1 1] 29 (0, 0))).alloc (by simp only [World.size_alloc]; omega) (.cells #[.int .u8 1] 5 (0, 0))).alloc (by simp only [World.size_alloc]; omega) (.cells #[.int .u8 3] 5 (0, 0))).alloc (by simp only [World.size_alloc]; omega) (.cells #[.slice (some ⟨w3.heap.size + 1 + 1 + 1, 0, none⟩) 1 1, .slice (some ⟨w3.heap.size + 1 + 1 + 1 + 1, 0, none⟩) 1 1] 29 (0, 0)))).below b5).at_ 0 (by omega)
  have cv0 : (convert 29 9 (.slice a' l' c')).run Tryd.prog w5 = .ok (.string { data := #[0, 97] }) w5 := hxt.string Tryd.underlying29 Tryd.underlying5 Tryd.underlying9
  have cv1 : (convert 29 9 (.slice p5 m5 q5)).run Tryd.prog w5 = .ok (.string { data := #[2] }) w5 := hu5.string Tryd.underlying29 Tryd.underlying5 Tryd.underlying9
  have cv2 : (convert 29 9 (.slice p6 m6 q6)).run Tryd.prog w5 = .ok (.string { data := #[3] }) w5 := hv5.string Tryd.underlying29 Tryd.underlying5 Tryd.underlying9
  have hxc0 : w5.cell? ⟨x, o, none⟩ = some (.slice a' l' c') := hxc
  clear hu5 hv5 b5 hxt hcv hxc
  go_wp2_with (refine wpList_index_s 1 (by first | rfl | go_simp) 31 _ _ rfl Tryd.underlying31 size_text x o 1 c2 rfl _ _ rfl 0 rfl (by omega) ?_)
  refine (grow_zero zD _ _ _ _ _ Dg.zero).mono ?_
  rintro e w6 ⟨rfl, bw6⟩
  have HBw6 := hid (Below.on HB5.out bw6)
  have hsw6 := HBw6.out.size
  clear bw6
  go_wp2_with fail
  go_returns
  exact ⟨by first | rfl | simp, HBw6.out⟩
end Go.Proofs.YtkakoiaahgchmaaDoor
namespace Go.Proofs.YtkakoiaahgchmaaDoor
set_option maxRecDepth 100000
open Go.ChangeShapes Go.WideShapes Go.ChangeAt Go.RowKit
def partI (o : Option Nat) : Int := match o with
  | none => -1
  | some k => k
end Go.Proofs.YtkakoiaahgchmaaDoor
namespace Go.Proofs.YtkakoiaahgchmaaDoor
set_option maxRecDepth 100000
open Go.ChangeShapes Go.WideShapes Go.ChangeAt Go.RowKit
/-- From the top of a log of n texts on: is the place i on the right? -/
def sidesF : Nat → Nat → Nat → List Bool
  | 0, _, _ => []
  | f + 1, n, i => if n = 1 then [] else if i < halfN n then false :: sidesF f (halfN n) i else true :: sidesF f (n - halfN n) (i - halfN n)
theorem nodeL_nodeX (a b : List Int) : nodeL a b = sumZ (nodeX a b) := by
  unfold nodeL nodeX
  rfl
theorem nodeX_inj_l {a b c d : List Int} (ha : Dg a) (hc : Dg c) (h : nodeX a b = nodeX c d) : a = c ∧ b = d := by
  have h1 : a ++ b = c ++ d := List.cons.inj h |>.2
  exact List.append_inj h1 (by rw [ha.len, hc.len])
theorem firstU_append {A B : List (List Int)} {a b : List Int} {k : Nat} (hl : A.length = B.length) (h : firstU A B = some k) : firstU (A ++ [a]) (B ++ [b]) = some k := by
  obtain ⟨h1, h2, h3, h4⟩ := firstU_at h
  have g : ∀ (C : List (List Int)) (c : List Int) (j : Nat), j < C.length → (C ++ [c]).getD j [] = C.getD j [] := fun C c j hj => by
    rw [List.getD_eq_getElem?_getD, List.getD_eq_getElem?_getD, List.getElem?_append_left hj]
  refine firstU_some (by simp; omega) (by simp; omega) (fun j hj => ?_) ?_
  · rw [g _ _ _ (by omega), g _ _ _ (by omega)]; exact h3 j hj
  · rw [g _ _ _ h1, g _ _ _ h2]; exact h4
theorem firstU_last {A : List (List Int)} {a b : List Int} (h : a ≠ b) : firstU (A ++ [a]) (A ++ [b]) = some A.length := by
  have g : ∀ (c : List Int) (j : Nat), j < A.length → (A ++ [c]).getD j [] = A.getD j [] := fun c j hj => by
    rw [List.getD_eq_getElem?_getD, List.getD_eq_getElem?_getD, List.getElem?_append_left hj]
  refine firstU_some (by simp) (by simp) (fun j hj => by rw [g _ _ hj, g _ _ hj]) (by simpa [List.getD_eq_getElem?_getD] using h)
/-- Where two trails that have one top part, the sums are one. -/
theorem trails_part : ∀ (bs : List Bool) (d1 d2 : List (List Int)) (t1 t2 : List Int), d1.length = bs.length → d2.length = bs.length → (∀ d ∈ d1, Dg d) → (∀ d ∈ d2, Dg d) → topF (sumZ t1) (d1.zip bs) = topF (sumZ t2) (d2.zip bs) →
    (t1 :: trailF (sumZ t1) (d1.zip bs)).reverse = (t2 :: trailF (sumZ t2) (d2.zip bs)).reverse ∨
    ∃ k, firstU (t1 :: trailF (sumZ t1) (d1.zip bs)).reverse (t2 :: trailF (sumZ t2) (d2.zip bs)).reverse = some k ∧
      sumZ ((t1 :: trailF (sumZ t1) (d1.zip bs)).reverse.getD k []) = sumZ ((t2 :: trailF (sumZ t2) (d2.zip bs)).reverse.getD k []) := by
  intro bs
  induction bs with
  | nil =>
    intro d1 d2 t1 t2 h1 h2 _ _ ht
    obtain rfl := List.eq_nil_of_length_eq_zero h1
    obtain rfl := List.eq_nil_of_length_eq_zero h2
    by_cases he : t1 = t2
    · subst he; exact .inl rfl
    · refine .inr ⟨0, ?_, ?_⟩
      · exact firstU_last (A := []) he
      · exact ht
  | cons b bs ih =>
    intro d1 d2 t1 t2 h1 h2 hd1 hd2 ht
    cases d1 with
    | nil => simp at h1
    | cons s1 d1 =>
      cases d2 with
      | nil => simp at h2
      | cons s2 d2 =>
        have D1 : Dg s1 := hd1 s1 (by simp)
        have D2 : Dg s2 := hd2 s2 (by simp)
        have L1 : d1.length = bs.length := by simpa using h1
        have L2 : d2.length = bs.length := by simpa using h2
        have key : ∀ (u1 u2 : List Int), topF (sumZ u1) (d1.zip bs) = topF (sumZ u2) (d2.zip bs) → (u1 = u2 → sumZ t1 = sumZ t2) →
            ((u1 :: trailF (sumZ u1) (d1.zip bs)).reverse ++ [t1] = (u2 :: trailF (sumZ u2) (d2.zip bs)).reverse ++ [t2] ∨
            ∃ k, firstU ((u1 :: trailF (sumZ u1) (d1.zip bs)).reverse ++ [t1]) ((u2 :: trailF (sumZ u2) (d2.zip bs)).reverse ++ [t2]) = some k ∧
              sumZ (((u1 :: trailF (sumZ u1) (d1.zip bs)).reverse ++ [t1]).getD k []) = sumZ (((u2 :: trailF (sumZ u2) (d2.zip bs)).reverse ++ [t2]).getD k [])) := by
          intro u1 u2 htt hx
          have hlen : (u1 :: trailF (sumZ u1) (d1.zip bs)).reverse.length = (u2 :: trailF (sumZ u2) (d2.zip bs)).reverse.length := by
            simp [trailF_length, L1, L2]
          rcases ih d1 d2 u1 u2 L1 L2 (fun d hd => hd1 d (by simp [hd])) (fun d hd => hd2 d (by simp [hd])) htt with hA | ⟨k, hk, hs⟩
          · have hu : u1 = u2 := by
              have := congrArg List.reverse hA
              simp only [List.reverse_reverse] at this
              exact (List.cons.inj this).1
            have hss := hx hu
            rw [hA]
            by_cases he : t1 = t2
            · exact .inl (by rw [he])
            · refine .inr ⟨_, firstU_last he, ?_⟩
              simpa [List.getD_eq_getElem?_getD] using hss
          · obtain ⟨q1, q2, -, -⟩ := firstU_at hk
            refine .inr ⟨k, firstU_append hlen hk, ?_⟩
            rw [List.getD_eq_getElem?_getD, List.getD_eq_getElem?_getD, List.getElem?_append_left q1, List.getElem?_append_left q2, ← List.getD_eq_getElem?_getD, ← List.getD_eq_getElem?_getD]
            exact hs
        have S1 := Dg.sum t1
        have S2 := Dg.sum t2
        cases b with
        | true =>
          have := key (nodeX s1 (sumZ t1)) (nodeX s2 (sumZ t2)) (by simpa [topF, nodeL_nodeX] using ht) (fun h => (nodeX_inj_l D1 D2 h).2)
          simpa [trailF, nodeL_nodeX] using this
        | false =>
          have := key (nodeX (sumZ t1) s1) (nodeX (sumZ t2) s2) (by simpa [topF, nodeL_nodeX] using ht) (fun h => (nodeX_inj_l S1 S2 h).1)
          simpa [trailF, nodeL_nodeX] using this
end Go.Proofs.YtkakoiaahgchmaaDoor
namespace Go.Proofs.YtkakoiaahgchmaaDoor
set_option maxRecDepth 100000
open Go.ChangeShapes Go.WideShapes Go.ChangeAt Go.RowKit
theorem trailF_len : ∀ (l : List StepT) (x : List Int), Dg x → (∀ y ∈ l, Dg y.1) → ∀ t ∈ trailF x l, t.length = 65 := by
  intro l
  induction l with
  | nil => intro x _ _ t ht; cases ht
  | cons y l ih =>
    intro x hx hl t ht
    have hy : Dg y.1 := hl y (by simp)
    have hn : ∀ a b : List Int, Dg a → Dg b → (nodeX a b).length = 65 := fun a b ha hb => by simp [nodeX, ha.len, hb.len]
    rcases List.mem_cons.1 (show t ∈ (if y.2 then nodeX y.1 x else nodeX x y.1) :: trailF (if y.2 then nodeL y.1 x else nodeL x y.1) l from ht) with h | h
    · rw [h]
      split
      · exact hn _ _ hy hx
      · exact hn _ _ hx hy
    · refine ih _ ?_ (fun z hz => hl z (by simp [hz])) t h
      split
      · exact Dg.nodeL _ _
      · exact Dg.nodeL _ _
/-- The trail of a text. -/
def textT (m : List Int) (n i : Nat) (ds : List (List Int)) : List (List Int) := ((0 :: m) :: trailF (leafL m) (ds.zip (sidesF n n i).reverse)).reverse
/-- Does a way hold a text at a place of a log with that root? -/
def isHold (root : List Int) (n i : Int) (m : List Int) (ds : List (List Int)) : Bool :=
  decide (1 ≤ n ∧ n ≤ 200 ∧ 0 ≤ i ∧ i < n) && (decide (ds.length = (sidesF n.toNat n.toNat i.toNat).length) && decide (topF (leafL m) (ds.zip (sidesF n.toNat n.toNat i.toNat).reverse) = root))
end Go.Proofs.YtkakoiaahgchmaaDoor
namespace Go.Proofs.YtkakoiaahgchmaaDoor
set_option maxRecDepth 100000
open Go.ChangeShapes Go.WideShapes Go.ChangeAt Go.RowKit
/-- A side's cells. -/
def sideC (p : Bool) (c d : List Int) (v : Value) : List Value := .bool p :: (c.map (Value.int .u8) ++ prC d v)
theorem sideC_size {p : Bool} {c d : List Int} {v : Value} (hc : Dg c) (hd : Dg d) : (sideC p c d v).toArray.size = 66 := by simp [sideC, prC, hc.len, hd.len]
theorem size_side : (Tryd.prog.info? 28).map (·.size) = some 66 := by kernel_rfl
theorem sideC_com {p : Bool} {c d : List Int} {v : Value} {w : World} {b : Nat} {T : TypeId} (k : Blk w b (sideC p c d v).toArray T) : w.rangeAt b 1 (c.map (Value.int .u8)) := fun j u hu => by
  have hj : j < c.length := by have := (List.getElem?_eq_some_iff.1 hu).1; simpa using this
  rw [Nat.add_comm, k.cell, List.getElem?_toArray, ← hu]
  unfold sideC
  rw [List.getElem?_cons_succ, List.getElem?_append_left (by simpa using hj)]
theorem sideC_proof {p : Bool} {c d : List Int} {v : Value} {w : World} {b : Nat} {T : TypeId} (hc : Dg c) (k : Blk w b (sideC p c d v).toArray T) : w.rangeAt b 33 (prC d v) := fun j u hu => by
  rw [show 33 + j = (32 + j) + 1 by omega, k.cell, List.getElem?_toArray, ← hu]
  unfold sideC
  rw [List.getElem?_cons_succ, List.getElem?_append_right (by rw [List.length_map, hc.len]; omega), List.length_map, hc.len, show 32 + j - 32 = j by omega]
theorem sideC_known {p : Bool} {c d : List Int} {v : Value} {w : World} {b : Nat} {T : TypeId} (hc : Dg c) (k : Blk w b (sideC p c d v).toArray T) : w.rangeAt b 33 (d.map (Value.int .u8)) := fun j u hu => by
  refine sideC_proof hc k j u ?_
  unfold prC
  rw [List.getElem?_append_left (by have := (List.getElem?_eq_some_iff.1 hu).1; simpa using this)]
  exact hu
theorem sideC_nodes {p : Bool} {c d : List Int} {v : Value} {w : World} {b : Nat} {T : TypeId} (hc : Dg c) (hd : Dg d) (k : Blk w b (sideC p c d v).toArray T) : w.cell? ⟨b, 65, none⟩ = some v := by
  have := sideC_proof hc k 32 v (by simp [prC, hd.len])
  exact this
theorem TextAt.of_rng {w : World} {b o n : Nat} {bs : List Int} (h : w.rangeAt b o (bs.map (Value.int .u8))) (hb : b < w.heap.size) (hn : bs.length = n) (hm : n ≤ 9223372036854775807) (hs : ∀ x ∈ bs, 0 ≤ x ∧ x < 256) : TextAt w (some ⟨b, o, none⟩) n n bs :=
  ⟨hn, Nat.le_refl _, hm, hs, .inr ⟨b, o, none, rfl, fun j hj => ⟨rfl, hb, by rw [h j (.int .u8 (bs.getD j 0)) (by rw [List.getElem?_map, List.getD_eq_getElem?_getD, List.getElem?_eq_getElem (by omega)]; rfl)]⟩⟩⟩
/-- The last text of a trail of a tree. -/
def lastX (p : Bool) (i c : List Int) : List Int := if p then 0 :: (i ++ c) else [2]
def lastD (p : Bool) (i c : List Int) : List Int := if p then leafE i c else emptyL 0
theorem wpList_buildv {P : Program} {ops : Array Oper} {rest : List Oper} {op : Oper} {a : Act} {w : World} {Q : Exit → Act → World → Prop} (hgd : op.guard = none) (t : TypeId) (parts : List (Nat × Operand)) (ho : op.op = .build t parts.toArray) (vs : List (Nat × Value)) (hv : (parts.map fun x => (x.1, a.eval x.2)) = vs) (v : Value) (h : ∀ w', (Instr.build t vs.toArray).run P w' = .ok v w') (hk : wpList P ops Q rest (a.put op.dst v) w) : wpList P ops Q (op :: rest) a w :=
  wpList_plain hgd fun K hK => by
    have hm : (parts.map fun (x : Nat × Operand) => match x with | (i, x) => (i, a.eval x)) = vs := hv
    unfold Oper.wp execOp
    simp only [ho, List.map_toArray, hm, Sem.run_bind, h, Result.andThen_ok, Sem.run_pure, Oper.upon_value]
    exact hK _ _ hk
end Go.Proofs.YtkakoiaahgchmaaDoor
