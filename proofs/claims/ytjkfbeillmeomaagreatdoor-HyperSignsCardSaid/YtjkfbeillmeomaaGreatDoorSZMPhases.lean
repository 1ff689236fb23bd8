/-
  Trips, Phases: one text.
-/
import Derived.Deep.Slices
import Derived.ChangeSame
import Derived.Test.YtjkfbeillmeomaaGreatDoorSZMBase
namespace Go.Proofs.YtjkfbeillmeomaaGreatDoor
set_option maxRecDepth 100000
open Go.ChangeShapes Go.WideShapes Go.ChangeAt Go.RowKit
end Go.Proofs.YtjkfbeillmeomaaGreatDoor
namespace Go.Proofs.YtjkfbeillmeomaaGreatDoor
set_option maxRecDepth 100000
open Go.RowKit
section
variable {P : Program} {ops : Array Oper} {md : Region.Mode}
theorem Same.trans {o : Oper} {a b c : Act} (h : Same ops o a b) (k : Same ops o b c) : Same ops o a c := ⟨fun d hd => (h.tmps d hd).trans (k.tmps d hd)⟩
/-- What callees may do to the world: 'R'; whatever makes new memory alone is let. -/
structure Rel (R : World → World → Prop) : Prop where
  of : ∀ {a b : World}, Below a.heap.size a b → R a b
  trans : ∀ {a b c : World}, R a b → R b c → R a c
theorem rel_below : Rel (fun a b => Below a.heap.size a b) := ⟨fun h => h, fun h k => h.trans (k.mono h.size)⟩
/-- In every world that is as w was and meets F the operation yields what stands in A's slot, from whatever frame it can't tell from A; and leaves what was there. -/
def Det (P : Program) (ops : Array Oper) (R : World → World → Prop) (w : World) (A : Act) (F : World → Prop) (o : Oper) : Prop :=
  ∀ w1, R w w1 → F w1 → ∀ a' : Act, a'.tmps.size = A.tmps.size → Same ops o a' A →
    ∃ v, YieldsIn P ops (fun w' => ∃ x : Ext w1, w' = x.at_) o v a' ∧ ∀ b : Act, b.tmps.size = A.tmps.size → b.put o.dst v = b.put o.dst (slotOf A o.dst)
theorem stF_defers : ∀ (l : List (Option Tmp × Value)) (f : Nat → Bool) (i : Nat) (a : Act), (stF l f i a).defers = a.defers
  | [], _, _, _ => rfl
  | (d, v) :: l, f, i, a => by
    simp only [stF]
    rw [stF_defers l]
    split
    · cases d <;> rfl
    · rfl
/-- What one level's walk gives. -/
theorem det_of_walk {R : World → World → Prop} {w : World} {F : World → Prop} {lo : List Oper} {S A : Act}
    (hsel : ∀ o ∈ lo, ∀ cs b, o.op ≠ .select cs b)
    (hdst : lo.Pairwise fun x y => ∀ e, x.dst = some e → y.dst ≠ some e)
    (hlook : ∀ (k k' : Nat) (x y : Oper) (d : Tmp), lo[k]? = some x → lo[k']? = some y → k ≤ k' → y.dst = some d → d ∉ x.looksAt ops)
    (h : ∀ w1, R w w1 → F w1 → wpQuiet P ops (fun w' => ∃ x : Ext w1, w' = x.at_) (fun a' => a' = A) lo S) :
    ∀ o ∈ lo, Det P ops R w A F o := by
  intro o ho w1 hb hF a' hs hsame
  obtain ⟨k, hk, rfl⟩ := List.getElem_of_mem ho
  obtain ⟨vs, hm, hq, hy⟩ := wpQuiet_vals lo S (h w1 hb hF)
  obtain ⟨v, hvk, hyk⟩ := hy k lo[k] (List.getElem?_eq_getElem hk)
  have hlen : vs.length = lo.length := by simpa using congrArg List.length hm
  have hp : vs.Pairwise fun x y => ∀ e, x.1 = some e → y.1 ≠ some e := by
    have := hdst
    rw [List.pairwise_iff_getElem] at this ⊢
    intro i j hi hj hij e he he'
    have e1 : (vs.map (·.1))[i]? = some (some e) := by simp [hi, he]
    have e2 : (vs.map (·.1))[j]? = some (some e) := by simp [hj, he']
    rw [hm] at e1 e2
    simp only [List.getElem?_map, Option.map_eq_some_iff] at e1 e2
    obtain ⟨o1, h1, hd1⟩ := e1
    obtain ⟨o2, h2, hd2⟩ := e2
    have q1 : lo[i]? = some lo[i] := List.getElem?_eq_getElem (by omega)
    have q2 : lo[j]? = some lo[j] := List.getElem?_eq_getElem (by omega)
    rw [q1] at h1; rw [q2] at h2
    obtain rfl := Option.some.inj h1
    obtain rfl := Option.some.inj h2
    exact this i j (by omega) (by omega) hij e hd1 hd2
  have hAsz : A.tmps.size = S.tmps.size := by rw [← hq]; exact stF_size _ _ _ _
  have hsL : Same ops lo[k] A (stF vs (fun j => decide (j < k)) 0 S) := by
    rw [← hq]
    refine stF_same vs _ _ 0 S S Same.refl rfl fun k' d v' hk' hne hmem => ?_
    have hkk : k ≤ k' := by
      rcases Nat.lt_or_ge k' k with h | h
      · simp [h] at hne
      · exact h
    have e1 : (vs.map (·.1))[k']? = some (some d) := by simp [hk']
    rw [hm] at e1
    simp only [List.getElem?_map, Option.map_eq_some_iff] at e1
    obtain ⟨y, hy1, hy2⟩ := e1
    exact hlook k k' lo[k] y d (List.getElem?_eq_getElem hk) hy1 hkk hy2 hmem
  refine ⟨v, (hsame.trans hsL).yields (fun cs b => hsel _ ho cs b) hyk, fun b hb' => ?_⟩
  have := vals_of_fin (a := S) (pre := lo) hm hp hq k (lo[k].dst, v) (lo[k].dst, slotOf A lo[k].dst) hvk (by simp [hk])
  exact this.2 b (by rw [hb', hAsz])
theorem Det.mono {R : World → World → Prop} {w : World} {A A2 : Act} {F F2 : World → Prop} {o : Oper} (h : Det P ops R w A F o) (hs : A2.tmps.size = A.tmps.size) (hF : ∀ w', F2 w' → F w') (hl : Same ops o A2 A) (hd : slotOf A2 o.dst = slotOf A o.dst) : Det P ops R w A2 F2 o := by
  intro w1 hb hF1 a' ha hsame
  obtain ⟨v, h1, h2⟩ := h w1 hb (hF w1 hF1) a' (ha.trans hs) (hsame.trans hl)
  exact ⟨v, h1, fun b hb' => by rw [hd]; exact h2 b (hb'.trans hs)⟩
/-- An operation that yields some value of which the fact is known, and leaves what was there. -/
def NdOK (P : Program) (ops : Array Oper) (R : World → World → Prop) (A : Act) (w1 : World) (Fact : Value → World → Prop) (o : Oper) : Prop :=
  Region.wanted o (yielded ops A.tmps) = true ∧
  ((∃ v w2, (execOp A.eval o).run P w1 = .ok (.value v) w2 ∧ R w1 w2 ∧ Fact v w2) ∨
   ∃ f args, (execOp A.eval o).run P w1 = .ok (.enter f args) w1 ∧ Calls P f args w1 fun e w2 => ∃ v, e = .returned v ∧ R w1 w2 ∧ Fact v w2)
/-- The walk, level by level. 'F': what the operations of the levels lean on, for good; 'G': what the next call leans on. -/
def LexP (P : Program) (ops : Array Oper) (R : World → World → Prop) (w : World) (Fin : Act → World → Prop) : List (Nat × List Nat) → Act → (World → Prop) → (World → Prop) → Prop
  | [], A, F, G => ∀ w1, R w w1 → F w1 → G w1 → Fin A w1
  | (nd, lv) :: ph, A, F, G => ∃ o, ops[nd]? = some o ∧ ∃ Fact Gact : Value → World → Prop, (∀ v w' w'', Fact v w' → Below w'.heap.size w' w'' → Fact v w'') ∧ (∀ v w' w'', Gact v w' → Below w'.heap.size w' w'' → Gact v w'') ∧ (∀ v w', Fact v w' → F w') ∧
      (∀ w1, R w w1 → F w1 → G w1 → NdOK P ops R A w1 (fun v w2 => Fact v w2 ∧ Gact v w2) o) ∧
      ∀ v w0, Fact v w0 → ∃ A', (∀ w1, R w w1 → Fact v w1 → wpQuiet P ops (fun w' => ∃ x : Ext w1, w' = x.at_) (fun a' => a' = A') (lv.filterMap (ops[·]?)) (A.put o.dst v)) ∧
        LexP P ops R w Fin ph A' (Fact v) (Gact v)
def flat : List (Nat × List Nat) → List Nat
  | [] => []
  | (nd, lv) :: ph => nd :: (lv ++ flat ph)
/-- what operation j looks at is made by these, for which it waits -/
def looksB (md : Region.Mode) (ops : Array Oper) (N1 : Nat) (from_ : List Nat) (j : Nat) : Bool :=
  match ops[j]? with
  | some o => (List.range N1).all fun k => match (ops[k]?).bind (·.dst) with
    | some d => !(o.looksAt ops).contains d || (from_.contains k && Region.waitsFor md ops j k)
    | none => true
  | none => true
/-- a level's operations, each behind those that it looks at -/
def levB (md : Region.Mode) (ops : Array Oper) (N1 : Nat) : List Nat → List Nat → Bool
  | _, [] => true
  | from_, j :: r => decide (j < N1) && !from_.contains j && looksB md ops N1 from_ j && levB md ops N1 (from_ ++ [j]) r
def phB (md : Region.Mode) (ops : Array Oper) (N1 : Nat) : List Nat → List (Nat × List Nat) → Bool
  | _, [] => true
  | from_, (nd, lv) :: ph => decide (nd < N1) && !from_.contains nd && looksB md ops N1 from_ nd && levB md ops N1 (from_ ++ [nd]) lv &&
      ((lv ++ flat ph).all fun j => (flat ((nd, lv) :: ph)).any fun i => Region.waitsFor md ops j i) && phB md ops N1 (from_ ++ [nd] ++ lv) ph
def phasesB (md : Region.Mode) (ops : Array Oper) (N1 : Nat) (lev : List Nat) (ph : List (Nat × List Nat)) : Bool :=
  Region.noSelect ops && decide (N1 ≤ ops.size) &&
  ((List.range N1).all fun i => (List.range N1).all fun j => decide (j ≤ i) || match (ops[i]?).bind (·.dst) with
    | some d => (ops[j]?).bind (·.dst) != some d
    | none => true) &&
  levB md ops N1 [] lev && phB md ops N1 lev ph && ((List.range N1).all fun i => (lev ++ flat ph).contains i) &&
  ((List.range ops.size).all fun t => decide (t < N1) || (List.range t).all fun i => Region.waitsFor md ops t i) &&
  ((List.range ops.size).all fun j => match ops[j]? with
    | some o => o.after.all fun e => !Region.binds md e || decide (e.on < j)
    | none => true) &&
  Region.seqB md ops (ops.size - N1) N1 (full ops.size N1)
theorem looks_spec {N1 j : Nat} {from_ : List Nat} {o : Oper} (h : looksB md ops N1 from_ j = true) (ho : ops[j]? = some o) : ∀ (k : Nat) (d : Tmp), k < N1 → (ops[k]?).bind (·.dst) = some d → d ∈ o.looksAt ops → k ∈ from_ ∧ Region.waitsFor md ops j k = true := by
  intro k d hk hd hm
  simp only [looksB, ho, List.all_eq_true, List.mem_range] at h
  have := h k hk
  simp only [hd, Bool.or_eq_true, Bool.and_eq_true, Bool.not_eq_true'] at this
  rcases this with h | h
  · exfalso
    have h2 : (o.looksAt ops).contains d = true := by simpa using hm
    rw [h] at h2; cases h2
  · exact ⟨by simpa using h.1, h.2⟩
theorem looksB_mono {N1 j : Nat} {from_ from2 : List Nat} (hs : ∀ k ∈ from_, k ∈ from2) (h : looksB md ops N1 from_ j = true) : looksB md ops N1 from2 j = true := by
  unfold looksB at *
  cases ho : ops[j]? with
  | none => rfl
  | some o =>
    simp only [ho, List.all_eq_true, List.mem_range] at h ⊢
    intro k hk
    have := h k hk
    cases hd : (ops[k]?).bind (·.dst) with
    | none => rfl
    | some d =>
      simp only [hd, Bool.or_eq_true, Bool.and_eq_true, Bool.not_eq_true'] at this ⊢
      rcases this with h | h
      · exact .inl h
      · exact .inr ⟨by simpa using hs k (by simpa using h.1), h.2⟩
theorem levB_at {N1 : Nat} : ∀ (lv from_ : List Nat), levB md ops N1 from_ lv = true → ∀ (k j : Nat), lv[k]? = some j → j < N1 ∧ j ∉ from_ ++ lv.take k ∧ looksB md ops N1 (from_ ++ lv.take k) j = true
  | [], _, _, k, j, hk => by simp at hk
  | x :: r, from_, h, k, j, hk => by
    simp only [levB, Bool.and_eq_true, decide_eq_true_eq, Bool.not_eq_true'] at h
    obtain ⟨⟨⟨h1, h2⟩, h3⟩, h4⟩ := h
    cases k with
    | zero =>
      simp at hk
      subst hk
      refine ⟨h1, ?_, ?_⟩
      · simpa using h2
      · simpa using h3
    | succ k =>
      have := levB_at r (from_ ++ [x]) h4 k j (by simpa using hk)
      simpa using this
theorem fm_get : ∀ (lv : List Nat), (∀ j ∈ lv, j < ops.size) → ∀ (k : Nat), (lv.filterMap (ops[·]?))[k]? = (lv[k]?).bind (ops[·]?)
  | [], _, k => by simp
  | j :: r, h, k => by
    have ho : ops[j]? = some (ops[j]'(h j (by simp))) := Array.getElem?_eq_getElem _
    rw [List.filterMap_cons]
    simp only [ho]
    cases k with
    | zero => simp [ho]
    | succ k => simpa using fm_get r (fun j hj => h j (by simp [hj])) k
structure Gl (md : Region.Mode) (ops : Array Oper) (N1 : Nat) : Prop where
  sel : ∀ (j : Nat) (o : Oper) cs b, ops[j]? = some o → o.op ≠ .select cs b
  le : N1 ≤ ops.size
  apart : ∀ i j, i < N1 → j < N1 → i ≠ j → ∀ d, (ops[i]?).bind (·.dst) = some d → (ops[j]?).bind (·.dst) ≠ some d
  tail : ∀ t i, t < ops.size → N1 ≤ t → i < t → Region.waitsFor md ops t i = true
  down : ∀ (j : Nat) (o : Oper) e, ops[j]? = some o → e ∈ o.after → Region.binds md e = true → e.on < j
  seq : Region.seqB md ops (ops.size - N1) N1 (full ops.size N1) = true
/-- a level's operations are apart from all others -/
theorem level_of {N1 : Nat} (hle : N1 ≤ ops.size) (hap : ∀ i j, i < N1 → j < N1 → i ≠ j → ∀ d, (ops[i]?).bind (·.dst) = some d → (ops[j]?).bind (·.dst) ≠ some d) {from_ lv : List Nat} (h : levB md ops N1 from_ lv = true) :
    (∀ o ∈ lv.filterMap (ops[·]?), ∃ j ∈ lv, ops[j]? = some o) ∧
    ((lv.filterMap (ops[·]?)).Pairwise fun x y => ∀ e, x.dst = some e → y.dst ≠ some e) ∧
    (∀ (k k' : Nat) (x y : Oper) (d : Tmp), (lv.filterMap (ops[·]?))[k]? = some x → (lv.filterMap (ops[·]?))[k']? = some y → k ≤ k' → y.dst = some d → d ∉ x.looksAt ops) := by
  have hlt : ∀ j ∈ lv, j < ops.size := fun j hj => by
    obtain ⟨i, hi, he⟩ := List.getElem_of_mem hj
    have := (levB_at lv _ h i j (by rw [List.getElem?_eq_getElem hi, he])).1
    omega
  refine ⟨fun o ho => ?_, ?_, ?_⟩
  · rw [List.mem_filterMap] at ho
    exact ho
  · rw [List.pairwise_iff_getElem]
    intro i j hi hj hij e he he'
    have q1 : (lv.filterMap (ops[·]?))[i]? = some (lv.filterMap (ops[·]?))[i] := List.getElem?_eq_getElem hi
    have q2 : (lv.filterMap (ops[·]?))[j]? = some (lv.filterMap (ops[·]?))[j] := List.getElem?_eq_getElem hj
    rw [fm_get lv hlt, Option.bind_eq_some_iff] at q1 q2
    obtain ⟨x, hx, hox⟩ := q1
    obtain ⟨y, hy, hoy⟩ := q2
    have h1 := levB_at lv _ h i x hx
    have h2 := levB_at lv _ h j y hy
    have hne : x ≠ y := by
      rintro rfl
      refine h2.2.1 (List.mem_append_right _ ?_)
      have : (lv.take j)[i]? = some x := by rw [List.getElem?_take, if_pos hij]; exact hx
      exact List.mem_of_getElem? this
    exact hap x y h1.1 h2.1 hne e (by rw [hox]; exact he) (by rw [hoy]; exact he')
  · intro k k' x y d hx hy hle hd hm
    rw [fm_get lv hlt, Option.bind_eq_some_iff] at hx hy
    obtain ⟨i, hi, hoi⟩ := hx
    obtain ⟨j, hj, hoj⟩ := hy
    have h1 := levB_at lv _ h k i hi
    have h2 := levB_at lv _ h k' j hj
    have := (looks_spec h1.2.2 hoi j d h2.1 (by rw [hoj]; exact hd) hm).1
    refine h2.2.1 ?_
    rw [List.mem_append] at this ⊢
    refine this.imp id fun h => ?_
    obtain ⟨p, hp, he⟩ := List.getElem_of_mem h
    have hp' : p < k := by rw [List.length_take] at hp; omega
    have : (lv.take k')[p]? = some j := by
      rw [List.getElem?_take, if_pos (by omega)]
      have e2 : (lv.take k)[p]? = some j := by rw [List.getElem?_eq_getElem hp, he]
      rw [List.getElem?_take, if_pos hp'] at e2
      exact e2
    exact List.mem_of_getElem? this
/-- What a walk leaves alone. -/
theorem walk_rest {C : World → Prop} {S A : Act} {lo : List Oper} (h : wpQuiet P ops C (fun a' => a' = A) lo S) :
    A.tmps.size = S.tmps.size ∧ A.defers = S.defers ∧ ∀ d, (∀ o ∈ lo, o.dst ≠ some d) → A.tmps[d]? = S.tmps[d]? := by
  obtain ⟨vs, hm, hq, _⟩ := wpQuiet_vals lo S h
  refine ⟨by rw [← hq]; exact stF_size _ _ _ _, by rw [← hq]; exact stF_defers _ _ _ _, fun d hd => ?_⟩
  rw [← hq]
  refine stF_slot vs 0 S d fun x hx he => ?_
  have : x.1 ∈ vs.map (·.1) := List.mem_map_of_mem hx
  rw [hm, List.mem_map] at this
  obtain ⟨o, ho, hod⟩ := this
  exact hd o ho (hod.trans he)
structure PInv (R : World → World → Prop) (P : Program) (md : Region.Mode) (ops : Array Oper) (N1 : Nat) (a0 : Act) (w : World) (from_ : List Nat) (A : Act) (F G : World → Prop) (listed : Array Bool) : Prop where
  sub : ∀ j, listed.getD j false = true → j ∈ from_
  lt : ∀ j ∈ from_, j < N1
  looks : ∀ j ∈ from_, looksB md ops N1 from_ j = true
  det : ∀ j ∈ from_, ∀ o, ops[j]? = some o → listed.getD j false = false → Det P ops R w A F o
  old : ∀ d, (∀ k ∈ from_, (ops[k]?).bind (·.dst) ≠ some d) → A.tmps[d]? = a0.tmps[d]?
  sz : A.tmps.size = a0.tmps.size
  df : A.defers = a0.defers
  stab : ∀ w' w'', F w' → Below w'.heap.size w' w'' → F w''
  gstab : ∀ w' w'', G w' → Below w'.heap.size w' w'' → G w''
structure PAt (R : World → World → Prop) (ops : Array Oper) (a0 : Act) (w : World) (A : Act) (F G : World → Prop) (listed : Array Bool) (a' : Act) (w' : World) : Prop where
  below : R w w'
  fact : F w'
  gact : G w'
  sz : a'.tmps.size = A.tmps.size
  df : a'.defers = A.defers
  on : ∀ j d, listed.getD j false = true → (ops[j]?).bind (·.dst) = some d → a'.tmps[d]? = A.tmps[d]?
  off : ∀ d, (∀ j, listed.getD j false = true → (ops[j]?).bind (·.dst) ≠ some d) → a'.tmps[d]? = a0.tmps[d]?
theorem ready_of (hdown : ∀ (j : Nat) (o : Oper) e, ops[j]? = some o → e ∈ o.after → Region.binds md e = true → e.on < j) {listed : Array Bool} (hs : listed.size = ops.size) : ∀ i, i < ops.size → listed.getD i false = false → ∃ j, j ∈ Region.ready md ops listed := by
  intro i
  induction i using Nat.strongRecOn with
  | _ i ih =>
    intro hi hu
    obtain ⟨o, ho⟩ : ∃ o, ops[i]? = some o := ⟨_, Array.getElem?_eq_getElem hi⟩
    by_cases hall : ∀ e ∈ o.after, Region.binds md e = true → listed.getD e.on false = true
    · exact ⟨i, mem_ready.2 ⟨getD_in (by omega) hu, o, ho, hall⟩⟩
    · have : ∃ e, e ∈ o.after ∧ Region.binds md e = true ∧ listed.getD e.on false = false := by
        apply Classical.byContradiction
        intro hn
        refine hall fun e he hb => ?_
        cases hl : listed.getD e.on false
        · exact absurd ⟨e, he, hb, hl⟩ hn
        · rfl
      obtain ⟨e, he, hb, hl⟩ := this
      have hlt := hdown i o e ho he hb
      exact ih e.on hlt (by omega) hl
theorem put_get_self (a b : Act) (d : Tmp) (hs : a.tmps.size = b.tmps.size) : (a.put (some d) (slotOf b (some d))).tmps[d]? = b.tmps[d]? := by
  simp only [Act.put, slotOf]
  by_cases h : (d : Nat) < b.tmps.size
  · simp [h, hs]
  · simp [h, hs]
theorem put_get_ne (a : Act) (dst : Option Tmp) (v : Value) (d : Tmp) (h : dst ≠ some d) : (a.put dst v).tmps[d]? = a.tmps[d]? := by
  cases dst with
  | none => rfl
  | some e =>
    have hne : e ≠ d := fun he => h (by rw [he])
    simp only [Act.put]
    rw [Array.getElem?_setIfInBounds_ne hne]
theorem put_defers (a : Act) (d : Option Tmp) (v : Value) : (a.put d v).defers = a.defers := by cases d <;> rfl
/-- the operations with these numbers -/
def pick (ops : Array Oper) : List Nat → List Oper
  | [] => []
  | j :: r => (ops[j]?).toList ++ pick ops r
theorem pick_eq : ∀ lv : List Nat, lv.filterMap (ops[·]?) = pick ops lv
  | [] => rfl
  | j :: r => by
    simp only [pick, ← pick_eq r, List.filterMap_cons]
    cases h : ops[j]? <;> simp
theorem But.trans {b : Nat} {w w' w'' : World} (h : But b w w') (h2 : But b w' w'') : But b w w'' :=
  ⟨h2.os.trans h.os, h2.tape.trans h.tape, h2.output.trans h.output, Nat.le_trans h.size h2.size, fun k hk hne => (h2.block k (Nat.lt_of_lt_of_le hk h.size) hne).trans (h.block k hk hne)⟩
end
end Go.Proofs.YtjkfbeillmeomaaGreatDoor
