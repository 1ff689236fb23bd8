/-
  Trips, Phases: one text.
-/
import Derived.Deep.Slices
import Derived.ChangeSame
import Derived.Test.YtmpgnpkodapidaaDMBase
namespace Go.Proofs.Ytmpgnpkodapidaa
open Go.ChangeShapes Go.WideShapes Go.ChangeAt Go.RowKit

set_option maxRecDepth 100000 in
theorem open_row_trips {H : Type} {enc : TypeId × Value → H} {P : Program} {W : World} {base : Nat} {t e : TypeId} {f0 f1 f2 : Field} {v : Value} {d : DataW H} {p : List MemPlace} (hu : P.underlying t = some (.slice e)) (he : P.underlying e = some (.struct #[f0, f1, f2]))
    (ce : P.cellsOf e = 3) (o0 : f0.offset = 0) (o1 : f1.offset = 1) (o2 : f2.offset = 2) (c0 : P.cellsOf f0.type = 1) (c1 : P.cellsOf f1.type = 1) (c2 : P.cellsOf f2.type = 1)
    (k0 : P.underlying f0.type = some (.int .i64)) (k1 : P.underlying f1.type = some (.int .i64)) (k2 : P.underlying f2.type = some (.int .i64))
    (hv : Value.okWide P W .any base t v) (h : DataW.Trod enc P W 0 (fun _ => true) true t v d p) :
    ∃ (a : Option Addr) (len cap : Nat) (X Y Z : Nat → Int), v = .slice a len cap ∧ len ≤ cap ∧ cap ≤ maxLen ∧ ((a = none ∧ len = 0) ∨ ∃ b off s, a = some ⟨b, off, s⟩ ∧ ∀ i, i < len → s = none ∧ b < W.heap.size ∧
      W.cell? ⟨b, off + i * 3, none⟩ = some (.int .i64 (X i)) ∧ W.cell? ⟨b, off + i * 3 + 1, none⟩ = some (.int .i64 (Y i)) ∧ W.cell? ⟨b, off + i * 3 + 2, none⟩ = some (.int .i64 (Z i))) := by
  obtain ⟨a, len, cap, rfl⟩ := okWide_slice hu hv
  obtain ⟨fuel, hf⟩ := h
  rcases Go.Deep.open_slice hu hf with ⟨hcs, _⟩ | ⟨a', len', cap', m, n, D, Pl, hcs, _, hl, hm, hmm, _, hx⟩
  · simp [Value.cells] at hcs
    obtain ⟨rfl, rfl, rfl⟩ := hcs
    exact ⟨none, 0, 0, fun _ => 0, fun _ => 0, fun _ => 0, rfl, Nat.le_refl _, Nat.zero_le _, .inl ⟨rfl, rfl⟩⟩
  · simp [Value.cells] at hcs
    obtain ⟨rfl, rfl, rfl⟩ := hcs
    obtain ⟨b, off, s⟩ := a'
    simp only [if_true] at hmm
    subst hmm
    have hspot : 0 < m → s = none := fun h0 => by
      obtain ⟨cs', h1, h2⟩ := hx 0 h0
      rw [ce] at h1
      obtain ⟨_, hlen, hcell⟩ := World.cells?_some h1
      match cs', hlen with
      | [v0, v1, v2], _ =>
        have := World.cell?_spot (hcell 0 (by omega))
        simpa [Addr.add] using this
    have each : ∀ i, i < m → ∃ q : Int × Int × Int, s = none ∧ b < W.heap.size ∧ W.cell? ⟨b, off + i * 3, none⟩ = some (.int .i64 q.1) ∧ W.cell? ⟨b, off + i * 3 + 1, none⟩ = some (.int .i64 q.2.1) ∧ W.cell? ⟨b, off + i * 3 + 2, none⟩ = some (.int .i64 q.2.2) := by
      intro i hi
      obtain ⟨cs', h1, h2⟩ := hx i hi
      rw [ce] at h1
      obtain ⟨_, hlen, hcell⟩ := World.cells?_some h1
      obtain ⟨xs, k, hk, hxy, _, hxl, hf⟩ := DataW.trod_struct he h2
      match xs, hxl, cs', hlen with
      | [y0, y1, y2], _, [v0, v1, v2], _ =>
        have g0 := hf 0 f0 rfl
        have g1 := hf 1 f1 rfl
        have g2 := hf 2 f2 rfl
        simp [o0, o1, o2, c0, c1, c2] at g0 g1 g2
        have e0 := hcell 0 (by omega)
        have e1 := hcell 1 (by omega)
        have e2 := hcell 2 (by omega)
        obtain rfl := hspot (by omega)
        obtain ⟨x, hx0, _⟩ := DataW.trod_int k0 g0
        obtain ⟨y, hx1, _⟩ := DataW.trod_int k1 g1
        obtain ⟨z, hx2, _⟩ := DataW.trod_int k2 g2
        injection hx0 with hx0
        injection hx1 with hx1
        injection hx2 with hx2
        subst hx0 hx1 hx2
        simp only [Addr.add_mid, Nat.add_zero, List.getElem?_cons_zero, List.getElem?_cons_succ] at e0 e1 e2
        exact ⟨(x, y, z), rfl, World.block_lt_of_cell? W _ e0, e0, e1, e2⟩
    obtain ⟨q, hq⟩ := Go.Deep.choose_lt each
    exact ⟨_, len, m, fun i => (q i).1, fun i => (q i).2.1, fun i => (q i).2.2, rfl, hl, hm, .inr ⟨b, off, s, rfl, fun i hi => hq i (by omega)⟩⟩

end Go.Proofs.Ytmpgnpkodapidaa

namespace Go.Proofs.Ytmpgnpkodapidaa
open Go.RowKit

section
variable {P : Program} {ops : Array Oper} {md : Region.Mode}

set_option maxRecDepth 100000 in
theorem Same.symm {o : Oper} {a b : Act} (h : Same ops o a b) : Same ops o b a := ⟨fun d hd => (h.tmps d hd).symm⟩
set_option maxRecDepth 100000 in
theorem Same.trans {o : Oper} {a b c : Act} (h : Same ops o a b) (k : Same ops o b c) : Same ops o a c := ⟨fun d hd => (h.tmps d hd).trans (k.tmps d hd)⟩

/-- What callees may do to the world: 'R'; whatever makes new memory alone is let. -/
structure Rel (R : World → World → Prop) : Prop where
  of : ∀ {a b : World}, Below a.heap.size a b → R a b
  trans : ∀ {a b c : World}, R a b → R b c → R a c

set_option maxRecDepth 100000 in
theorem rel_below : Rel (fun a b => Below a.heap.size a b) := ⟨fun h => h, fun h k => h.trans (k.mono h.size)⟩

/-- In every world that is as w was and meets F the operation yields what stands in A's slot, from whatever frame it can't tell from A; and leaves what was there. -/
def Det (P : Program) (ops : Array Oper) (R : World → World → Prop) (w : World) (A : Act) (F : World → Prop) (o : Oper) : Prop :=
  ∀ w1, R w w1 → F w1 → ∀ a' : Act, a'.tmps.size = A.tmps.size → Same ops o a' A →
    ∃ v, YieldsIn P ops (fun w' => ∃ x : Ext w1, w' = x.at_) o v a' ∧ ∀ b : Act, b.tmps.size = A.tmps.size → b.put o.dst v = b.put o.dst (slotOf A o.dst)

set_option maxRecDepth 100000 in
theorem stF_defers : ∀ (l : List (Option Tmp × Value)) (f : Nat → Bool) (i : Nat) (a : Act), (stF l f i a).defers = a.defers
  | [], _, _, _ => rfl
  | (d, v) :: l, f, i, a => by
    simp only [stF]
    rw [stF_defers l]
    split
    · cases d <;> rfl
    · rfl

set_option maxRecDepth 100000 in
/-- What one level's walk gives. -/
theorem det_of_walk {R : World → World → Prop} {w : World} {F : World → Prop} {lo : List Oper} {S A : Act}
    (hsel : ∀ o ∈ lo, ∀ cs b, o.op ≠ .select cs b)
    (hdst : lo.Pairwise fun x y => ∀ e, x.dst = some e → y.dst ≠ some e)
    (hlook : ∀ (k k' : Nat) (x y : Oper) (d : Tmp), lo[k]? = some x → lo[k']? = some y → k ≤ k' → y.dst = some d → d ∉ x.looksAt ops)
    (h : ∀ w1, R w w1 → F w1 → wpQuiet P ops (fun w' => ∃ x : Ext w1, w' = x.at_) (fun a' => a' = A) lo S) :
    ∀ o ∈ lo, Det P ops R w A F o := by
  intro o ho w1 hb hF a' hs hsame
  obtain ⟨k, hk, rfl⟩ := List.getElem_of_mem ho
  obtain ⟨vs, hm, hq, hy⟩ := wpQuiet_vals lo S (h w1 hb hF)
  obtain ⟨v, hvk, hyk⟩ := hy k lo[k] (List.getElem?_eq_getElem hk)
  have hlen : vs.length = lo.length := by simpa using congrArg List.length hm
  have hp : vs.Pairwise fun x y => ∀ e, x.1 = some e → y.1 ≠ some e := by
    have := hdst
    rw [List.pairwise_iff_getElem] at this ⊢
    intro i j hi hj hij e he he'
    have e1 : (vs.map (·.1))[i]? = some (some e) := by simp [hi, he]
    have e2 : (vs.map (·.1))[j]? = some (some e) := by simp [hj, he']
    rw [hm] at e1 e2
    simp only [List.getElem?_map, Option.map_eq_some_iff] at e1 e2
    obtain ⟨o1, h1, hd1⟩ := e1
    obtain ⟨o2, h2, hd2⟩ := e2
    have q1 : lo[i]? = some lo[i] := List.getElem?_eq_getElem (by omega)
    have q2 : lo[j]? = some lo[j] := List.getElem?_eq_getElem (by omega)
    rw [q1] at h1; rw [q2] at h2
    obtain rfl := Option.some.inj h1
    obtain rfl := Option.some.inj h2
    exact this i j (by omega) (by omega) hij e hd1 hd2
  have hAsz : A.tmps.size = S.tmps.size := by rw [← hq]; exact stF_size _ _ _ _
  have hsL : Same ops lo[k] A (stF vs (fun j => decide (j < k)) 0 S) := by
    rw [← hq]
    refine stF_same vs _ _ 0 S S Same.refl rfl fun k' d v' hk' hne hmem => ?_
    have hkk : k ≤ k' := by
      rcases Nat.lt_or_ge k' k with h | h
      · simp [h] at hne
      · exact h
    have e1 : (vs.map (·.1))[k']? = some (some d) := by simp [hk']
    rw [hm] at e1
    simp only [List.getElem?_map, Option.map_eq_some_iff] at e1
    obtain ⟨y, hy1, hy2⟩ := e1
    exact hlook k k' lo[k] y d (List.getElem?_eq_getElem hk) hy1 hkk hy2 hmem
  refine ⟨v, (hsame.trans hsL).yields (fun cs b => hsel _ ho cs b) hyk, fun b hb' => ?_⟩
  have := vals_of_fin (a := S) (pre := lo) hm hp hq k (lo[k].dst, v) (lo[k].dst, slotOf A lo[k].dst) hvk (by simp [hk])
  exact this.2 b (by rw [hb', hAsz])

set_option maxRecDepth 100000 in
theorem Det.mono {R : World → World → Prop} {w : World} {A A2 : Act} {F F2 : World → Prop} {o : Oper} (h : Det P ops R w A F o) (hs : A2.tmps.size = A.tmps.size) (hF : ∀ w', F2 w' → F w') (hl : Same ops o A2 A) (hd : slotOf A2 o.dst = slotOf A o.dst) : Det P ops R w A2 F2 o := by
  intro w1 hb hF1 a' ha hsame
  obtain ⟨v, h1, h2⟩ := h w1 hb (hF w1 hF1) a' (ha.trans hs) (hsame.trans hl)
  exact ⟨v, h1, fun b hb' => by rw [hd]; exact h2 b (hb'.trans hs)⟩

/-- An operation that yields some value of which the fact is known, and leaves what was there. -/
def NdOK (P : Program) (ops : Array Oper) (R : World → World → Prop) (A : Act) (w1 : World) (Fact : Value → World → Prop) (o : Oper) : Prop :=
  Region.wanted o (yielded ops A.tmps) = true ∧
  ((∃ v w2, (execOp A.eval o).run P w1 = .ok (.value v) w2 ∧ R w1 w2 ∧ Fact v w2) ∨
   ∃ f args, (execOp A.eval o).run P w1 = .ok (.enter f args) w1 ∧ Calls P f args w1 fun e w2 => ∃ v, e = .returned v ∧ R w1 w2 ∧ Fact v w2)

/-- The walk, level by level. 'F': what the operations of the levels lean on, for good; 'G': what the next call leans on. -/
def LexP (P : Program) (ops : Array Oper) (R : World → World → Prop) (w : World) (Fin : Act → World → Prop) : List (Nat × List Nat) → Act → (World → Prop) → (World → Prop) → Prop
  | [], A, F, G => ∀ w1, R w w1 → F w1 → G w1 → Fin A w1
  | (nd, lv) :: ph, A, F, G => ∃ o, ops[nd]? = some o ∧ ∃ Fact Gact : Value → World → Prop, (∀ v w' w'', Fact v w' → Below w'.heap.size w' w'' → Fact v w'') ∧ (∀ v w' w'', Gact v w' → Below w'.heap.size w' w'' → Gact v w'') ∧ (∀ v w', Fact v w' → F w') ∧
      (∀ w1, R w w1 → F w1 → G w1 → NdOK P ops R A w1 (fun v w2 => Fact v w2 ∧ Gact v w2) o) ∧
      ∀ v w0, Fact v w0 → ∃ A', (∀ w1, R w w1 → Fact v w1 → wpQuiet P ops (fun w' => ∃ x : Ext w1, w' = x.at_) (fun a' => a' = A') (lv.filterMap (ops[·]?)) (A.put o.dst v)) ∧
        LexP P ops R w Fin ph A' (Fact v) (Gact v)

def flat : List (Nat × List Nat) → List Nat
  | [] => []
  | (nd, lv) :: ph => nd :: (lv ++ flat ph)

/-- what operation j looks at is made by these, for which it waits -/
def looksB (md : Region.Mode) (ops : Array Oper) (N1 : Nat) (from_ : List Nat) (j : Nat) : Bool :=
  match ops[j]? with
  | some o => (List.range N1).all fun k => match (ops[k]?).bind (·.dst) with
    | some d => !(o.looksAt ops).contains d || (from_.contains k && Region.waitsFor md ops j k)
    | none => true
  | none => true

/-- a level's operations, each behind those that it looks at -/
def levB (md : Region.Mode) (ops : Array Oper) (N1 : Nat) : List Nat → List Nat → Bool
  | _, [] => true
  | from_, j :: r => decide (j < N1) && !from_.contains j && looksB md ops N1 from_ j && levB md ops N1 (from_ ++ [j]) r

def phB (md : Region.Mode) (ops : Array Oper) (N1 : Nat) : List Nat → List (Nat × List Nat) → Bool
  | _, [] => true
  | from_, (nd, lv) :: ph => decide (nd < N1) && !from_.contains nd && looksB md ops N1 from_ nd && levB md ops N1 (from_ ++ [nd]) lv &&
      ((lv ++ flat ph).all fun j => (flat ((nd, lv) :: ph)).any fun i => Region.waitsFor md ops j i) && phB md ops N1 (from_ ++ [nd] ++ lv) ph

def phasesB (md : Region.Mode) (ops : Array Oper) (N1 : Nat) (lev : List Nat) (ph : List (Nat × List Nat)) : Bool :=
  Region.noSelect ops && decide (N1 ≤ ops.size) &&
  ((List.range N1).all fun i => (List.range N1).all fun j => decide (j ≤ i) || match (ops[i]?).bind (·.dst) with
    | some d => (ops[j]?).bind (·.dst) != some d
    | none => true) &&
  levB md ops N1 [] lev && phB md ops N1 lev ph && ((List.range N1).all fun i => (lev ++ flat ph).contains i) &&
  ((List.range ops.size).all fun t => decide (t < N1) || (List.range t).all fun i => Region.waitsFor md ops t i) &&
  ((List.range ops.size).all fun j => match ops[j]? with
    | some o => o.after.all fun e => !Region.binds md e || decide (e.on < j)
    | none => true) &&
  Region.seqB md ops (ops.size - N1) N1 (full ops.size N1)

set_option maxRecDepth 100000 in
theorem looks_spec {N1 j : Nat} {from_ : List Nat} {o : Oper} (h : looksB md ops N1 from_ j = true) (ho : ops[j]? = some o) : ∀ (k : Nat) (d : Tmp), k < N1 → (ops[k]?).bind (·.dst) = some d → d ∈ o.looksAt ops → k ∈ from_ ∧ Region.waitsFor md ops j k = true := by
  intro k d hk hd hm
  simp only [looksB, ho, List.all_eq_true, List.mem_range] at h
  have := h k hk
  simp only [hd, Bool.or_eq_true, Bool.and_eq_true, Bool.not_eq_true'] at this
  rcases this with h | h
  · exfalso
    have h2 : (o.looksAt ops).contains d = true := by simpa using hm
    rw [h] at h2; cases h2
  · exact ⟨by simpa using h.1, h.2⟩

set_option maxRecDepth 100000 in
theorem looksB_mono {N1 j : Nat} {from_ from2 : List Nat} (hs : ∀ k ∈ from_, k ∈ from2) (h : looksB md ops N1 from_ j = true) : looksB md ops N1 from2 j = true := by
  unfold looksB at *
  cases ho : ops[j]? with
  | none => rfl
  | some o =>
    simp only [ho, List.all_eq_true, List.mem_range] at h ⊢
    intro k hk
    have := h k hk
    cases hd : (ops[k]?).bind (·.dst) with
    | none => rfl
    | some d =>
      simp only [hd, Bool.or_eq_true, Bool.and_eq_true, Bool.not_eq_true'] at this ⊢
      rcases this with h | h
      · exact .inl h
      · exact .inr ⟨by simpa using hs k (by simpa using h.1), h.2⟩

set_option maxRecDepth 100000 in
theorem levB_at {N1 : Nat} : ∀ (lv from_ : List Nat), levB md ops N1 from_ lv = true → ∀ (k j : Nat), lv[k]? = some j → j < N1 ∧ j ∉ from_ ++ lv.take k ∧ looksB md ops N1 (from_ ++ lv.take k) j = true
  | [], _, _, k, j, hk => by simp at hk
  | x :: r, from_, h, k, j, hk => by
    simp only [levB, Bool.and_eq_true, decide_eq_true_eq, Bool.not_eq_true'] at h
    obtain ⟨⟨⟨h1, h2⟩, h3⟩, h4⟩ := h
    cases k with
    | zero =>
      simp at hk
      subst hk
      refine ⟨h1, ?_, ?_⟩
      · simpa using h2
      · simpa using h3
    | succ k =>
      have := levB_at r (from_ ++ [x]) h4 k j (by simpa using hk)
      simpa using this

set_option maxRecDepth 100000 in
theorem phB_off {N1 : Nat} : ∀ (ph : List (Nat × List Nat)) (from_ : List Nat), phB md ops N1 from_ ph = true → ∀ k ∈ flat ph, k ∉ from_
  | [], _, _, k, hk => by simp [flat] at hk
  | (nd, lv) :: ph, from_, h, k, hk => by
    simp only [phB, Bool.and_eq_true, decide_eq_true_eq, Bool.not_eq_true'] at h
    obtain ⟨⟨⟨⟨⟨h1, h2⟩, h3⟩, h4⟩, h5⟩, h6⟩ := h
    simp only [flat, List.mem_cons, List.mem_append] at hk
    rcases hk with rfl | hk | hk
    · simpa using h2
    · obtain ⟨i, hi, he⟩ := List.getElem_of_mem hk
      have := (levB_at lv _ h4 i k (by rw [List.getElem?_eq_getElem hi, he])).2.1
      simp only [List.mem_append] at this
      exact fun h => this (.inl (.inl h))
    · have := phB_off ph _ h6 k hk
      simp only [List.mem_append] at this
      exact fun h => this (.inl (.inl h))

set_option maxRecDepth 100000 in
theorem fm_get : ∀ (lv : List Nat), (∀ j ∈ lv, j < ops.size) → ∀ (k : Nat), (lv.filterMap (ops[·]?))[k]? = (lv[k]?).bind (ops[·]?)
  | [], _, k => by simp
  | j :: r, h, k => by
    have ho : ops[j]? = some (ops[j]'(h j (by simp))) := Array.getElem?_eq_getElem _
    rw [List.filterMap_cons]
    simp only [ho]
    cases k with
    | zero => simp [ho]
    | succ k => simpa using fm_get r (fun j hj => h j (by simp [hj])) k

structure Gl (md : Region.Mode) (ops : Array Oper) (N1 : Nat) : Prop where
  sel : ∀ (j : Nat) (o : Oper) cs b, ops[j]? = some o → o.op ≠ .select cs b
  le : N1 ≤ ops.size
  apart : ∀ i j, i < N1 → j < N1 → i ≠ j → ∀ d, (ops[i]?).bind (·.dst) = some d → (ops[j]?).bind (·.dst) ≠ some d
  tail : ∀ t i, t < ops.size → N1 ≤ t → i < t → Region.waitsFor md ops t i = true
  down : ∀ (j : Nat) (o : Oper) e, ops[j]? = some o → e ∈ o.after → Region.binds md e = true → e.on < j
  seq : Region.seqB md ops (ops.size - N1) N1 (full ops.size N1) = true

set_option maxRecDepth 100000 in
/-- a level's operations are apart from all others -/
theorem level_of {N1 : Nat} (hle : N1 ≤ ops.size) (hap : ∀ i j, i < N1 → j < N1 → i ≠ j → ∀ d, (ops[i]?).bind (·.dst) = some d → (ops[j]?).bind (·.dst) ≠ some d) {from_ lv : List Nat} (h : levB md ops N1 from_ lv = true) :
    (∀ o ∈ lv.filterMap (ops[·]?), ∃ j ∈ lv, ops[j]? = some o) ∧
    ((lv.filterMap (ops[·]?)).Pairwise fun x y => ∀ e, x.dst = some e → y.dst ≠ some e) ∧
    (∀ (k k' : Nat) (x y : Oper) (d : Tmp), (lv.filterMap (ops[·]?))[k]? = some x → (lv.filterMap (ops[·]?))[k']? = some y → k ≤ k' → y.dst = some d → d ∉ x.looksAt ops) := by
  have hlt : ∀ j ∈ lv, j < ops.size := fun j hj => by
    obtain ⟨i, hi, he⟩ := List.getElem_of_mem hj
    have := (levB_at lv _ h i j (by rw [List.getElem?_eq_getElem hi, he])).1
    omega
  refine ⟨fun o ho => ?_, ?_, ?_⟩
  · rw [List.mem_filterMap] at ho
    exact ho
  · rw [List.pairwise_iff_getElem]
    intro i j hi hj hij e he he'
    have q1 : (lv.filterMap (ops[·]?))[i]? = some (lv.filterMap (ops[·]?))[i] := List.getElem?_eq_getElem hi
    have q2 : (lv.filterMap (ops[·]?))[j]? = some (lv.filterMap (ops[·]?))[j] := List.getElem?_eq_getElem hj
    rw [fm_get lv hlt, Option.bind_eq_some_iff] at q1 q2
    obtain ⟨x, hx, hox⟩ := q1
    obtain ⟨y, hy, hoy⟩ := q2
    have h1 := levB_at lv _ h i x hx
    have h2 := levB_at lv _ h j y hy
    have hne : x ≠ y := by
      rintro rfl
      refine h2.2.1 (List.mem_append_right _ ?_)
      have : (lv.take j)[i]? = some x := by rw [List.getElem?_take, if_pos hij]; exact hx
      exact List.mem_of_getElem? this
    exact hap x y h1.1 h2.1 hne e (by rw [hox]; exact he) (by rw [hoy]; exact he')
  · intro k k' x y d hx hy hle hd hm
    rw [fm_get lv hlt, Option.bind_eq_some_iff] at hx hy
    obtain ⟨i, hi, hoi⟩ := hx
    obtain ⟨j, hj, hoj⟩ := hy
    have h1 := levB_at lv _ h k i hi
    have h2 := levB_at lv _ h k' j hj
    have := (looks_spec h1.2.2 hoi j d h2.1 (by rw [hoj]; exact hd) hm).1
    refine h2.2.1 ?_
    rw [List.mem_append] at this ⊢
    refine this.imp id fun h => ?_
    obtain ⟨p, hp, he⟩ := List.getElem_of_mem h
    have hp' : p < k := by rw [List.length_take] at hp; omega
    have : (lv.take k')[p]? = some j := by
      rw [List.getElem?_take, if_pos (by omega)]
      have e2 : (lv.take k)[p]? = some j := by rw [List.getElem?_eq_getElem hp, he]
      rw [List.getElem?_take, if_pos hp'] at e2
      exact e2
    exact List.mem_of_getElem? this

set_option maxRecDepth 100000 in
theorem Gl.level {N1 : Nat} (g : Gl md ops N1) {from_ lv : List Nat} (h : levB md ops N1 from_ lv = true) :
    (∀ o ∈ lv.filterMap (ops[·]?), ∃ j ∈ lv, ops[j]? = some o) ∧
    ((lv.filterMap (ops[·]?)).Pairwise fun x y => ∀ e, x.dst = some e → y.dst ≠ some e) ∧
    (∀ (k k' : Nat) (x y : Oper) (d : Tmp), (lv.filterMap (ops[·]?))[k]? = some x → (lv.filterMap (ops[·]?))[k']? = some y → k ≤ k' → y.dst = some d → d ∉ x.looksAt ops) := level_of g.le g.apart h

set_option maxRecDepth 100000 in
/-- What a walk leaves alone. -/
theorem walk_rest {C : World → Prop} {S A : Act} {lo : List Oper} (h : wpQuiet P ops C (fun a' => a' = A) lo S) :
    A.tmps.size = S.tmps.size ∧ A.defers = S.defers ∧ ∀ d, (∀ o ∈ lo, o.dst ≠ some d) → A.tmps[d]? = S.tmps[d]? := by
  obtain ⟨vs, hm, hq, _⟩ := wpQuiet_vals lo S h
  refine ⟨by rw [← hq]; exact stF_size _ _ _ _, by rw [← hq]; exact stF_defers _ _ _ _, fun d hd => ?_⟩
  rw [← hq]
  refine stF_slot vs 0 S d fun x hx he => ?_
  have : x.1 ∈ vs.map (·.1) := List.mem_map_of_mem hx
  rw [hm, List.mem_map] at this
  obtain ⟨o, ho, hod⟩ := this
  exact hd o ho (hod.trans he)

structure PInv (R : World → World → Prop) (P : Program) (md : Region.Mode) (ops : Array Oper) (N1 : Nat) (a0 : Act) (w : World) (from_ : List Nat) (A : Act) (F G : World → Prop) (listed : Array Bool) : Prop where
  sub : ∀ j, listed.getD j false = true → j ∈ from_
  lt : ∀ j ∈ from_, j < N1
  looks : ∀ j ∈ from_, looksB md ops N1 from_ j = true
  det : ∀ j ∈ from_, ∀ o, ops[j]? = some o → listed.getD j false = false → Det P ops R w A F o
  old : ∀ d, (∀ k ∈ from_, (ops[k]?).bind (·.dst) ≠ some d) → A.tmps[d]? = a0.tmps[d]?
  sz : A.tmps.size = a0.tmps.size
  df : A.defers = a0.defers
  stab : ∀ w' w'', F w' → Below w'.heap.size w' w'' → F w''
  gstab : ∀ w' w'', G w' → Below w'.heap.size w' w'' → G w''

structure PAt (R : World → World → Prop) (ops : Array Oper) (a0 : Act) (w : World) (A : Act) (F G : World → Prop) (listed : Array Bool) (a' : Act) (w' : World) : Prop where
  below : R w w'
  fact : F w'
  gact : G w'
  sz : a'.tmps.size = A.tmps.size
  df : a'.defers = A.defers
  on : ∀ j d, listed.getD j false = true → (ops[j]?).bind (·.dst) = some d → a'.tmps[d]? = A.tmps[d]?
  off : ∀ d, (∀ j, listed.getD j false = true → (ops[j]?).bind (·.dst) ≠ some d) → a'.tmps[d]? = a0.tmps[d]?

set_option maxRecDepth 100000 in
theorem same_of {R : World → World → Prop} {N1 i : Nat} {a0 A a' : Act} {w w' : World} {from_ : List Nat} {F G : World → Prop} {listed : Array Bool} {o : Oper} (hI : PInv R P md ops N1 a0 w from_ A F G listed) (hA : PAt R ops a0 w A F G listed a' w')
    (hl : looksB md ops N1 from_ i = true) (ho : ops[i]? = some o) (hdeps : ∀ e ∈ o.after, Region.binds md e = true → listed.getD e.on false = true) : Same ops o a' A := by
  refine ⟨fun d hd => ?_⟩
  by_cases h : ∃ k, k < N1 ∧ (ops[k]?).bind (·.dst) = some d
  · obtain ⟨k, hk, hkd⟩ := h
    obtain ⟨_, hwf⟩ := looks_spec hl ho k d hk hkd hd
    obtain ⟨oj, hoj, e, he, hb, hon⟩ := Region.waitsFor_spec hwf
    have : oj = o := Option.some.inj (hoj.symm.trans ho)
    subst this
    have := hdeps e he hb
    rw [hon] at this
    exact hA.on k d this hkd
  · rw [hA.off d (fun j hj hjd => h ⟨j, hI.lt j (hI.sub j hj), hjd⟩), hI.old d (fun k hk hkd => h ⟨k, hI.lt k hk, hkd⟩)]

set_option maxRecDepth 100000 in
theorem ready_of (hdown : ∀ (j : Nat) (o : Oper) e, ops[j]? = some o → e ∈ o.after → Region.binds md e = true → e.on < j) {listed : Array Bool} (hs : listed.size = ops.size) : ∀ i, i < ops.size → listed.getD i false = false → ∃ j, j ∈ Region.ready md ops listed := by
  intro i
  induction i using Nat.strongRecOn with
  | _ i ih =>
    intro hi hu
    obtain ⟨o, ho⟩ : ∃ o, ops[i]? = some o := ⟨_, Array.getElem?_eq_getElem hi⟩
    by_cases hall : ∀ e ∈ o.after, Region.binds md e = true → listed.getD e.on false = true
    · exact ⟨i, mem_ready.2 ⟨getD_in (by omega) hu, o, ho, hall⟩⟩
    · have : ∃ e, e ∈ o.after ∧ Region.binds md e = true ∧ listed.getD e.on false = false := by
        apply Classical.byContradiction
        intro hn
        refine hall fun e he hb => ?_
        cases hl : listed.getD e.on false
        · exact absurd ⟨e, he, hb, hl⟩ hn
        · rfl
      obtain ⟨e, he, hb, hl⟩ := this
      have hlt := hdown i o e ho he hb
      exact ih e.on hlt (by omega) hl

set_option maxRecDepth 100000 in
theorem ready_ex' {N1 : Nat} (h : Gl md ops N1) {listed : Array Bool} (hs : listed.size = ops.size) : ∀ i, i < ops.size → listed.getD i false = false → ∃ j, j ∈ Region.ready md ops listed := ready_of h.down hs

set_option maxRecDepth 100000 in
theorem put_get_self (a b : Act) (d : Tmp) (hs : a.tmps.size = b.tmps.size) : (a.put (some d) (slotOf b (some d))).tmps[d]? = b.tmps[d]? := by
  simp only [Act.put, slotOf]
  by_cases h : (d : Nat) < b.tmps.size
  · simp [h, hs]
  · simp [h, hs]

set_option maxRecDepth 100000 in
theorem put_get_ne (a : Act) (dst : Option Tmp) (v : Value) (d : Tmp) (h : dst ≠ some d) : (a.put dst v).tmps[d]? = a.tmps[d]? := by
  cases dst with
  | none => rfl
  | some e =>
    have hne : e ≠ d := fun he => h (by rw [he])
    simp only [Act.put]
    rw [Array.getElem?_setIfInBounds_ne hne]

set_option maxRecDepth 100000 in
theorem put_defers (a : Act) (d : Option Tmp) (v : Value) : (a.put d v).defers = a.defers := by cases d <;> rfl

set_option maxRecDepth 100000 in
theorem wpAny_phases {R : World → World → Prop} (hR : Rel R) {N1 : Nat} {Q : Exit → Act → World → Prop} {l : List Oper} {a0 : Act} {w : World} (g : Gl md l.toArray N1) :
    ∀ (k : Nat) (listed : Array Bool) (a' : Act) (w' : World) (from_ : List Nat) (ph : List (Nat × List Nat)) (A : Act) (F G : World → Prop), listed.size = l.length → (∀ t, N1 ≤ t → listed.getD t false = false) → cnt N1 listed = k →
      phB md l.toArray N1 from_ ph = true → (∀ i, i < N1 → i ∈ from_ ++ flat ph) → LexP P l.toArray R w (fun A w1 => wpList P l.toArray Q (l.drop N1) A w1) ph A F G →
      PInv R P md l.toArray N1 a0 w from_ A F G listed → PAt R l.toArray a0 w A F G listed a' w' → wpAny P md l.toArray Q (k + (l.length - N1)) listed a' w' := by
  have hle3 : N1 ≤ l.length := by simpa using g.le
  intro k
  induction k with
  | zero =>
    intro listed a' w' from_ ph A F G hs ht hc hph hcov hlex hI hA
    have hall := cnt_zero hc
    have hfull : listed = full l.length N1 := full_eq hs hall ht
    have hseq := g.seq
    have hdl : (l.drop N1).length = l.length - N1 := by simp
    have hnil : ph = [] := by
      cases ph with
      | nil => rfl
      | cons x ph =>
        obtain ⟨nd, lv⟩ := x
        have h1 := hph
        simp only [phB, Bool.and_eq_true, decide_eq_true_eq, Bool.not_eq_true'] at h1
        have h2 : nd ∈ from_ := hI.sub nd (hall nd h1.1.1.1.1.1)
        have h3 := h1.1.1.1.1.2
        simp [h2] at h3
    subst hnil
    have haA : a' = A := by
      have e : a'.tmps = A.tmps := by
        apply Array.ext_getElem?
        intro d
        by_cases h : ∃ j, listed.getD j false = true ∧ ((l.toArray)[j]?).bind (·.dst) = some d
        · obtain ⟨j, h1, h2⟩ := h
          exact hA.on j d h1 h2
        · rw [hA.off d (fun j hj hjd => h ⟨j, hj, hjd⟩), hI.old d (fun k hk hkd => h ⟨k, hall k (hI.lt k hk), hkd⟩)]
      have e2 := hA.df
      cases a'; cases A
      simp only at e e2
      rw [e, e2]
    subst haA
    rw [Nat.zero_add, ← hdl]
    exact wpAny_of_seq (l.drop N1) N1 listed a' w' (fun j => by simp [List.getElem?_drop]) (by rw [hdl, hfull]; simpa using hseq) (hlex w' hA.below hA.fact hA.gact)
  | succ k ih =>
    intro listed a' w' from_ ph A F G hs ht hc hph hcov hlex hI hA
    obtain ⟨i0, hi0, hu0⟩ := cnt_succ hc
    rw [show k + 1 + (l.length - N1) = (k + (l.length - N1)) + 1 by omega]
    refine ⟨fun h0 => ?_, fun i hi => ?_⟩
    · obtain ⟨j, hj⟩ := ready_ex' g (listed := listed) (by simpa using hs) i0 (by simp; omega) hu0
      rw [h0] at hj; cases hj
    obtain ⟨hiu, o, ho, hdeps⟩ := mem_ready.1 hi
    have ho' : l[i]? = some o := by simpa using ho
    have hil : i < l.length := (List.getElem?_eq_some_iff.1 ho').1
    have hi1 : i < N1 := by
      rcases Nat.lt_or_ge i N1 with h | h
      · exact h
      · have hwf := g.tail i i0 (by simpa using hil) h (by omega)
        obtain ⟨oj, hoj, e, he, hb, hon⟩ := Region.waitsFor_spec hwf
        have : oj = o := Option.some.inj (hoj.symm.trans ho)
        subst this
        have := hdeps e he hb
        rw [hon, hu0] at this; cases this
    have hfn : listed.getD i false = false := getD_both hiu
    have hcnt := cnt_set hi1 (by omega) hfn
    have hseti : (listed.setIfInBounds i true).getD i false = true := by simp [hs, hil]
    have hset : ∀ j, (listed.setIfInBounds i true).getD j false = true → j = i ∨ listed.getD j false = true := fun j hj => by
      by_cases h : j = i
      · exact .inl h
      · right; rw [getD_set_ne false (Ne.symm h)] at hj; exact hj
    have hset2 : ∀ j, listed.getD j false = true → (listed.setIfInBounds i true).getD j false = true := fun j hj => by
      by_cases h : j = i
      · subst h; exact hseti
      · rw [getD_set_ne false (Ne.symm h)]; exact hj
    have hset3 : ∀ j, (listed.setIfInBounds i true).getD j false = false → listed.getD j false = false := fun j hj => by
      cases h : listed.getD j false
      · rfl
      · rw [hset2 j h] at hj; cases hj
    have htail' : ∀ t, N1 ≤ t → (listed.setIfInBounds i true).getD t false = false := fun t htt => by rw [getD_set_ne false (by omega)]; exact ht t htt
    by_cases hif : i ∈ from_
    · -- an operation whose value is known
      have hsame := same_of hI hA (hI.looks i hif) ho hdeps
      obtain ⟨v, hy, hput⟩ := hI.det i hif o ho hfn w' hA.below hA.fact a' hA.sz hsame
      refine wpOp_of_qOp (C := fun w'' => ∃ x : Ext w', w'' = x.at_) (K := fun a'' => a'' = a'.put o.dst v) ⟨⟨w', Below.refl _ _⟩, rfl⟩ ?_ (hy.qOp ho rfl)
      rintro a'' w'' ⟨x, rfl⟩ rfl
      rw [hput a' hA.sz]
      refine ih _ _ _ from_ ph A F G (by simpa using hs) htail' (by omega) hph hcov hlex ?_ ?_
      · exact ⟨fun j hj => (hset j hj).elim (fun e => e ▸ hif) (hI.sub j), hI.lt, hI.looks, fun j hj oj hoj hl => hI.det j hj oj hoj (hset3 j hl), hI.old, hI.sz, hI.df, hI.stab, hI.gstab⟩
      · refine ⟨hR.trans hA.below (hR.of x.same), hI.stab _ _ hA.fact x.same, hI.gstab _ _ hA.gact x.same, by rw [put_size]; exact hA.sz, by rw [put_defers]; exact hA.df, fun j d hj hjd => ?_, fun d hd => ?_⟩
        · by_cases hod : o.dst = some d
          · rw [hod]; exact put_get_self a' A d hA.sz
          · rw [put_get_ne _ _ _ _ hod]
            rcases hset j hj with rfl | h
            · rw [ho] at hjd; exact absurd hjd hod
            · exact hA.on j d h hjd
        · have hod : o.dst ≠ some d := fun he => hd i hseti (by rw [ho]; exact he)
          rw [put_get_ne _ _ _ _ hod]
          exact hA.off d fun j hj => hd j (hset2 j hj)
    · -- a call that hands back new memory
      have hflat : i ∈ flat ph := by
        have := hcov i hi1
        rw [List.mem_append] at this
        exact this.resolve_left hif
      cases ph with
      | nil => simp [flat] at hflat
      | cons x ph =>
      obtain ⟨nd, lv⟩ := x
      have hoff := phB_off _ _ hph
      have h1 := hph
      simp only [phB, Bool.and_eq_true, decide_eq_true_eq, Bool.not_eq_true'] at h1
      obtain ⟨⟨⟨⟨⟨h1, h2⟩, h3⟩, h4⟩, h5⟩, h6⟩ := h1
      have hin : i = nd := by
        simp only [flat, List.mem_cons] at hflat
        rcases hflat with h | h
        · exact h
        · exfalso
          simp only [List.all_eq_true, List.any_eq_true] at h5
          obtain ⟨kk, hkf, hwf⟩ := h5 i h
          obtain ⟨oj, hoj, e, he, hb, hon⟩ := Region.waitsFor_spec hwf
          have : oj = o := Option.some.inj (hoj.symm.trans ho)
          subst this
          have := hdeps e he hb
          rw [hon] at this
          exact hoff kk hkf (hI.sub kk this)
      subst hin
      obtain ⟨o2, ho2, Fact, Gact, hstab, hgstab, hmono, hnd, hnext⟩ := hlex
      have : o2 = o := Option.some.inj (ho2.symm.trans ho)
      subst this
      have hsame := same_of hI hA h3 ho hdeps
      have hlvl := g.level h4
      have hlvlt : ∀ j ∈ lv, j < N1 ∧ j ∉ from_ ++ [i] ∧ looksB md l.toArray N1 (from_ ++ [i] ++ lv) j = true := fun j hj => by
        obtain ⟨p, hp, he⟩ := List.getElem_of_mem hj
        have := levB_at lv _ h4 p j (by rw [List.getElem?_eq_getElem hp, he])
        refine ⟨this.1, fun h => this.2.1 (List.mem_append_left _ h), looksB_mono (fun k hk => ?_) this.2.2⟩
        rw [List.mem_append] at hk ⊢
        exact hk.imp id List.mem_of_mem_take
      -- what is to be shown behind the call
      have key : ∀ v w2, R w' w2 → (Fact v w2 ∧ Gact v w2) → wpAny P md l.toArray Q (k + (l.length - N1)) (listed.setIfInBounds i true) (a'.put o2.dst v) w2 := by
        intro v w2 hb2 hfg2
        obtain ⟨hf2, hg2⟩ := hfg2
        obtain ⟨A', hwalk, hlex'⟩ := hnext v w2 hf2
        have hbw : R w w2 := hR.trans hA.below hb2
        obtain ⟨r1, r2, r3⟩ := walk_rest (hwalk w2 hbw hf2)
        have hsz' : A'.tmps.size = A.tmps.size := by rw [r1, put_size]
        -- slots of older operations stay
        have hkeep : ∀ d, (∀ j, j = i ∨ j ∈ lv → ((l.toArray)[j]?).bind (·.dst) ≠ some d) → A'.tmps[d]? = A.tmps[d]? := fun d hd => by
          rw [r3 d fun oo hoo he => by
            obtain ⟨j, hj, hoj⟩ := hlvl.1 oo hoo
            exact hd j (.inr hj) (by rw [hoj]; exact he)]
          exact put_get_ne _ _ _ _ fun he => hd i (.inl rfl) (by rw [ho]; exact he)
        have hkeep2 : ∀ j d, j ∈ from_ → ((l.toArray)[j]?).bind (·.dst) = some d → A'.tmps[d]? = A.tmps[d]? := fun j d hj hjd =>
          hkeep d fun j' hj' hjd' => by
            have hne : j ≠ j' := by
              rintro rfl
              rcases hj' with rfl | hj'
              · exact hif hj
              · exact (hlvlt j hj').2.1 (List.mem_append_left _ hj)
            refine g.apart j j' (hI.lt j hj) ?_ hne d hjd hjd'
            rcases hj' with rfl | hj'
            · exact hi1
            · exact (hlvlt j' hj').1
        refine ih _ _ _ (from_ ++ [i] ++ lv) ph A' _ _ (by simpa using hs) htail' (by omega) h6 (fun j hj => ?_) hlex' ?_ ?_
        · have := hcov j hj
          simpa [flat] using this
        · refine ⟨fun j hj => ?_, fun j hj => ?_, fun j hj => ?_, fun j hj oj hoj hl => ?_, fun d hd => ?_, hsz'.trans hI.sz, by rw [r2, put_defers]; exact hI.df, fun w1 w2 h hb => hstab _ _ _ h hb, fun w1 w2 h hb => hgstab _ _ _ h hb⟩
          · rcases hset j hj with rfl | h
            · simp
            · have := hI.sub j h; simp [this]
          · simp only [List.mem_append, List.mem_singleton] at hj
            rcases hj with (hj | rfl) | hj
            · exact hI.lt j hj
            · exact hi1
            · exact (hlvlt j hj).1
          · simp only [List.mem_append, List.mem_singleton] at hj
            rcases hj with (hj | rfl) | hj
            · exact looksB_mono (fun k hk => by simp [hk]) (hI.looks j hj)
            · exact looksB_mono (fun k hk => by simp [hk]) h3
            · exact (hlvlt j hj).2.2
          · simp only [List.mem_append, List.mem_singleton] at hj
            rcases hj with (hj | rfl) | hj
            · refine (hI.det j hj oj hoj (hset3 j hl)).mono hsz' (fun _ h => hmono _ _ h) ⟨fun d hd => ?_⟩ ?_
              · by_cases h : ∃ kk, kk < N1 ∧ ((l.toArray)[kk]?).bind (·.dst) = some d
                · obtain ⟨kk, hk, hkd⟩ := h
                  exact hkeep2 kk d (looks_spec (hI.looks j hj) hoj kk d hk hkd hd).1 hkd
                · refine hkeep d fun j' hj' hjd' => h ⟨j', ?_, hjd'⟩
                  rcases hj' with rfl | hj'
                  · exact hi1
                  · exact (hlvlt j' hj').1
              · cases hod : oj.dst with
                | none => rfl
                | some d =>
                  have := hkeep2 j d hj (by rw [hoj]; exact hod)
                  simp only [slotOf, Array.getD_eq_getD_getElem?, this]
            · rw [hseti] at hl; cases hl
            · refine det_of_walk ?_ hlvl.2.1 hlvl.2.2 hwalk oj (List.mem_filterMap.2 ⟨j, hj, hoj⟩)
              intro oo hoo cs b
              obtain ⟨j', _, hoj'⟩ := hlvl.1 oo hoo
              exact g.sel j' oo cs b hoj'
          · have h1 : ∀ j, j = i ∨ j ∈ lv → ((l.toArray)[j]?).bind (·.dst) ≠ some d := fun j hj => hd j (by
              rcases hj with rfl | hj
              · simp
              · simp [hj])
            rw [hkeep d h1]
            exact hI.old d fun k hk => hd k (by simp [hk])
        · refine ⟨hbw, hf2, hg2, by rw [put_size, hA.sz, hsz'], by rw [put_defers, hA.df, r2, put_defers], fun j d hj hjd => ?_, fun d hd => ?_⟩
          · rcases hset j hj with rfl | h
            · have hod : o2.dst = some d := by rw [ho] at hjd; exact hjd
              have e1 : A'.tmps[d]? = (A.put o2.dst v).tmps[d]? := r3 d fun oo hoo he => by
                obtain ⟨j', hj', hoj'⟩ := hlvl.1 oo hoo
                refine g.apart j j' hi1 (hlvlt j' hj').1 ?_ d hjd (by rw [hoj']; exact he)
                rintro rfl
                exact (hlvlt j hj').2.1 (by simp)
              rw [e1, hod]
              simp only [Act.put]
              rw [Array.getElem?_setIfInBounds, Array.getElem?_setIfInBounds, hA.sz]
              simp only [if_true]
            · have hjf := hI.sub j h
              have hod : o2.dst ≠ some d := fun he => by
                refine g.apart j i (hI.lt j hjf) hi1 ?_ d hjd (by rw [ho]; exact he)
                rintro rfl
                rw [hfn] at h; cases h
              rw [put_get_ne _ _ _ _ hod, hkeep2 j d hjf hjd]
              exact hA.on j d h hjd
          · have hod : o2.dst ≠ some d := fun he => hd i hseti (by rw [ho]; exact he)
            rw [put_get_ne _ _ _ _ hod]
            exact hA.off d fun j hj => hd j (hset2 j hj)
      obtain ⟨hwant, hrun⟩ := hnd w' hA.below hA.fact hA.gact
      unfold wpOp
      simp only [ho]
      rw [if_pos (by rw [hsame.wanted]; exact hwant)]
      left
      unfold Oper.wp
      rw [hsame.exec (fun cs b => g.sel i o2 cs b ho)]
      rcases hrun with ⟨v, w2, hr, hb2, hf2⟩ | ⟨f, args, hr, hcall⟩
      · rw [hr, Oper.upon_value]
        exact key v w2 hb2 hf2
      · rw [hr, Oper.upon_enter]
        refine hcall.mono fun e w2 h => ?_
        obtain ⟨v, rfl, hb2, hf2⟩ := h
        exact key v w2 hb2 hf2

set_option maxRecDepth 100000 in
theorem gl_of {N1 : Nat} {lev : List Nat} {ph : List (Nat × List Nat)} (h : phasesB md ops N1 lev ph = true) : Gl md ops N1 ∧ levB md ops N1 [] lev = true ∧ phB md ops N1 lev ph = true ∧ ∀ i, i < N1 → i ∈ lev ++ flat ph := by
  simp only [phasesB, Bool.and_eq_true, decide_eq_true_eq, List.all_eq_true, List.mem_range] at h
  obtain ⟨⟨⟨⟨⟨⟨⟨⟨h1, h2⟩, h3⟩, h4⟩, h5⟩, h6⟩, h7⟩, h8⟩, h9⟩ := h
  refine ⟨⟨fun j o cs b => Region.noSelect_spec h1 j o cs b, h2, ?_, ?_, ?_, h9⟩, h4, h5, fun i hi => by simpa using h6 i hi⟩
  · have key : ∀ i j, i < N1 → j < N1 → i < j → ∀ d, (ops[i]?).bind (·.dst) = some d → (ops[j]?).bind (·.dst) ≠ some d := by
      intro i j hi hj hij d hd he
      have := h3 i hi j hj
      simp only [hd, Bool.or_eq_true, decide_eq_true_eq] at this
      rcases this with h | h
      · omega
      · rw [he] at h; simp at h
    intro i j hi hj hne d hd he
    rcases Nat.lt_or_gt_of_ne hne with h | h
    · exact key i j hi hj h d hd he
    · exact key j i hj hi h d he hd
  · intro t i ht hN hi
    have := h7 t ht
    simp only [Bool.or_eq_true, decide_eq_true_eq, List.all_eq_true, List.mem_range] at this
    rcases this with h | h
    · omega
    · exact h i hi
  · intro j o e ho he hb
    have hlt : j < ops.size := (Array.getElem?_eq_some_iff.1 ho).1
    have := h8 j hlt
    simp only [ho, Array.all_eq_true_iff_forall_mem, Bool.or_eq_true, decide_eq_true_eq, Bool.not_eq_true'] at this
    rcases this e he with h | h
    · rw [hb] at h; cases h
    · exact h

/-- the operations with these numbers -/
def pick (ops : Array Oper) : List Nat → List Oper
  | [] => []
  | j :: r => (ops[j]?).toList ++ pick ops r

set_option maxRecDepth 100000 in
theorem pick_eq : ∀ lv : List Nat, lv.filterMap (ops[·]?) = pick ops lv
  | [] => rfl
  | j :: r => by
    simp only [pick, ← pick_eq r, List.filterMap_cons]
    cases h : ops[j]? <;> simp

set_option maxRecDepth 100000 in
theorem LexP.cons {R : World → World → Prop} {w : World} {Fin : Act → World → Prop} {nd : Nat} {lv : List Nat} {ph : List (Nat × List Nat)} {A : Act} {F G : World → Prop} {o : Oper} (ho : ops[nd]? = some o) (Fact Gact : Value → World → Prop)
    (hstab : ∀ v w' w'', Fact v w' → Below w'.heap.size w' w'' → Fact v w'') (hgstab : ∀ v w' w'', Gact v w' → Below w'.heap.size w' w'' → Gact v w'') (hmono : ∀ v w', Fact v w' → F w')
    (hnd : ∀ w1, R w w1 → F w1 → G w1 → NdOK P ops R A w1 (fun v w2 => Fact v w2 ∧ Gact v w2) o)
    (hnext : ∀ v w0, Fact v w0 → ∃ A', (∀ w1, R w w1 → Fact v w1 → wpQuiet P ops (fun w' => ∃ x : Ext w1, w' = x.at_) (fun a' => a' = A') (pick ops lv) (A.put o.dst v)) ∧
      LexP P ops R w Fin ph A' (Fact v) (Gact v)) : LexP P ops R w Fin ((nd, lv) :: ph) A F G := by
  refine ⟨o, ho, Fact, Gact, hstab, hgstab, hmono, hnd, fun v w0 hv => ?_⟩
  obtain ⟨A', h1, h2⟩ := hnext v w0 hv
  refine ⟨A', ?_, h2⟩
  rw [pick_eq]
  exact h1

set_option maxRecDepth 100000 in
theorem LexP.nil {R : World → World → Prop} {w : World} {Fin : Act → World → Prop} {A : Act} {F G : World → Prop} (h : ∀ w1, R w w1 → F w1 → G w1 → Fin A w1) : LexP P ops R w Fin [] A F G := h

set_option maxRecDepth 100000 in
/-- Calls that hand back new memory, one after another; between them what reads alone; then a tail in the order of the text. -/
theorem wp_region_phases_in {R : World → World → Prop} (hR : Rel R) (G : World → Prop) {id N1 : Nat} {lev : List Nat} {ph : List (Nat × List Nat)} {Q : Exit → Act → World → Prop} {a : Act} {w : World} {l : List Oper} (hm : P.follows .mixedOrders = true) (hB : phasesB .any l.toArray N1 lev ph = true) (hG : G w) (hGs : ∀ w' w'', G w' → Below w'.heap.size w' w'' → G w'')
    (h : ∃ A, (∀ w1, R w w1 → wpQuiet P l.toArray (fun w' => ∃ x : Ext w1, w' = x.at_) (fun a' => a' = A) (pick l.toArray lev) a) ∧
      LexP P l.toArray R w (fun A w1 => wpList P l.toArray Q (l.drop N1) A w1) ph A (fun _ => True) G) : (Code.region id l.toArray true).wp P Q a w := by
  obtain ⟨A, hlev0, hlex⟩ := h
  have hlev : ∀ w1, R w w1 → True → wpQuiet P l.toArray (fun w' => ∃ x : Ext w1, w' = x.at_) (fun a' => a' = A) (lev.filterMap (l.toArray[·]?)) a := by
    rw [pick_eq]
    exact fun w1 hb _ => hlev0 w1 hb
  obtain ⟨g, hlB, hpB, hcov⟩ := gl_of hB
  have hle : N1 ≤ l.length := by simpa using g.le
  have hlvl := g.level hlB
  obtain ⟨r1, r2, r3⟩ := walk_rest (hlev w (hR.of (Below.refl _ _)) trivial)
  have hat : ∀ j ∈ lev, j < N1 ∧ looksB .any l.toArray N1 lev j = true := fun j hj => by
    obtain ⟨p, hp, he⟩ := List.getElem_of_mem hj
    have := levB_at lev _ hlB p j (by rw [List.getElem?_eq_getElem hp, he])
    refine ⟨this.1, looksB_mono (fun k hk => ?_) this.2.2⟩
    rw [List.nil_append] at hk
    exact List.mem_of_mem_take hk
  refine wp_region_any hm ?_
  have hI : PInv R P .any l.toArray N1 a w lev A (fun _ => True) G (Array.replicate l.length false) := by
    refine ⟨fun j hj => ?_, fun j hj => (hat j hj).1, fun j hj => (hat j hj).2, fun j hj o ho _ => ?_, fun d hd => ?_, r1, r2, fun _ _ _ _ => trivial, hGs⟩
    · rw [getD_replicate_false] at hj; cases hj
    · refine det_of_walk (fun oo hoo cs b => ?_) hlvl.2.1 hlvl.2.2 hlev o (List.mem_filterMap.2 ⟨j, hj, ho⟩)
      obtain ⟨j', _, hoj'⟩ := hlvl.1 oo hoo
      exact g.sel j' oo cs b hoj'
    · refine r3 d fun oo hoo he => ?_
      obtain ⟨j, hj, hoj⟩ := hlvl.1 oo hoo
      exact hd j hj (by rw [hoj]; exact he)
  have hA : PAt R l.toArray a w A (fun _ => True) G (Array.replicate l.length false) a w.drew := by
    refine ⟨hR.of (Below.refl _ _).drew, trivial, hGs _ _ hG (Below.refl _ _).drew, r1.symm, r2.symm, fun j d hj => ?_, fun d _ => rfl⟩
    rw [getD_replicate_false] at hj; cases hj
  have := wpAny_phases hR (Q := Q) (a0 := a) g N1 (Array.replicate l.length false) a w.drew lev ph A (fun _ => True) G (by simp) (fun t _ => getD_replicate_false _ _) (cnt_start N1 _ hle) hpB hcov hlex hI hA
  rw [show N1 + (l.length - N1) = l.toArray.size by simp; omega] at this
  simpa using this

set_option maxRecDepth 100000 in
theorem But.trans {b : Nat} {w w' w'' : World} (h : But b w w') (h2 : But b w' w'') : But b w w'' :=
  ⟨h2.os.trans h.os, h2.tape.trans h.tape, h2.output.trans h.output, Nat.le_trans h.size h2.size, fun k hk hne => (h2.block k (Nat.lt_of_lt_of_le hk h.size) hne).trans (h.block k hk hne)⟩
set_option maxRecDepth 100000 in
theorem rel_but (b : Nat) : Rel (But b) := ⟨fun h => But.of h, fun h k => But.trans h k⟩

set_option maxRecDepth 100000 in
theorem wp_region_phases {id N1 : Nat} {lev : List Nat} {ph : List (Nat × List Nat)} {Q : Exit → Act → World → Prop} {a : Act} {w : World} {l : List Oper} (hm : P.follows .mixedOrders = true) (hB : phasesB .any l.toArray N1 lev ph = true)
    (h : ∃ A, (∀ w1, Below w.heap.size w w1 → wpQuiet P l.toArray (fun w' => ∃ x : Ext w1, w' = x.at_) (fun a' => a' = A) (pick l.toArray lev) a) ∧
      LexP P l.toArray (fun a b => Below a.heap.size a b) w (fun A w1 => wpList P l.toArray Q (l.drop N1) A w1) ph A (fun _ => True) (fun _ => True)) : (Code.region id l.toArray true).wp P Q a w :=
  wp_region_phases_in rel_below (fun _ => True) hm hB trivial (fun _ _ _ _ => trivial) h

end
end Go.Proofs.Ytmpgnpkodapidaa
