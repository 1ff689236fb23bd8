/-
  Region, Base, Ints, Arr, Bytes, Opens: one text.
-/
import Derived.Deep.Quiet
import Derived.StillTail
import Derived.Below
import Derived.Test.YtmpgnpkodapidaaProg
import Derived.WalkKit
import Derived.ProofKit
import Derived.OpenShut
import Derived.WalkSpells
import Derived.WalkLawsBesides
import Derived.Handy
import Derived.Outline
import Derived.Deep.QuietTactic
import Derived.BigQuiet
import Derived.ChangeKeysEq
import Derived.Deep.MidRow
import Derived.Laws.BytesArg
namespace Go.Proofs.Ytmpgnpkodapidaa
open Go.RowKit

section
variable {P : Program} {ops : Array Oper} {md : Region.Mode}

/-- two acts that an operation cannot tell apart -/
structure Same (ops : Array Oper) (o : Oper) (a a' : Act) : Prop where
  tmps : ∀ d, d ∈ o.looksAt ops → a.tmps[d]? = a'.tmps[d]?

set_option maxRecDepth 100000 in
theorem Same.refl {o : Oper} {a : Act} : Same ops o a a := ⟨fun _ _ => rfl⟩

set_option maxRecDepth 100000 in
theorem Same.put {o : Oper} {a a' : Act} (h : Same ops o a a') (hs : a.tmps.size = a'.tmps.size) (d : Option Tmp) (v : Value) : Same ops o (a.put d v) (a'.put d v) := by
  cases d with
  | none => exact h
  | some d =>
    refine ⟨fun e he => ?_⟩
    simp only [Act.put]
    rw [Array.getElem?_setIfInBounds, Array.getElem?_setIfInBounds, hs, h.tmps e he]
set_option maxRecDepth 100000 in
theorem Same.left {o : Oper} {a a' : Act} (h : Same ops o a a') (d : Option Tmp) (v : Value) (hd : ∀ e, d = some e → e ∉ o.looksAt ops) : Same ops o (a.put d v) a' := by
  cases d with
  | none => exact h
  | some d =>
    refine ⟨fun e he => ?_⟩
    have hne : d ≠ e := fun h => hd d rfl (h ▸ he)
    simp only [Act.put]
    rw [Array.getElem?_setIfInBounds_ne hne]
    exact h.tmps e he
set_option maxRecDepth 100000 in
theorem Same.right {o : Oper} {a a' : Act} (h : Same ops o a a') (d : Option Tmp) (v : Value) (hd : ∀ e, d = some e → e ∉ o.looksAt ops) : Same ops o a (a'.put d v) := by
  cases d with
  | none => exact h
  | some d =>
    refine ⟨fun e he => ?_⟩
    have hne : d ≠ e := fun h => hd d rfl (h ▸ he)
    simp only [Act.put]
    rw [Array.getElem?_setIfInBounds_ne hne]
    exact h.tmps e he

set_option maxRecDepth 100000 in
theorem Same.exec {o : Oper} {a a' : Act} (h : Same ops o a a') (hs : ∀ cs b, o.op ≠ .select cs b) : execOp a.eval o = execOp a'.eval o :=
  execOp_congr o hs fun x hx => by
    cases x with
    | tmp t =>
      have : t ∈ o.looksAt ops := List.mem_append_left _ (List.mem_filterMap.2 ⟨.tmp t, by simpa using hx, rfl⟩)
      simp [Act.eval, h.tmps t this]
    | _ => rfl
set_option maxRecDepth 100000 in
theorem Same.wanted {o : Oper} {a a' : Act} (h : Same ops o a a') : Region.wanted o (yielded ops a.tmps) = Region.wanted o (yielded ops a'.tmps) := by
  unfold Region.wanted
  cases hg : o.guard with
  | none => rfl
  | some gw =>
    obtain ⟨g, want⟩ := gw
    have hy : yielded ops a.tmps g = yielded ops a'.tmps g := by
      unfold yielded
      cases ht : (ops[g]?).bind (·.dst) with
      | none => rfl
      | some t =>
        have : t ∈ o.looksAt ops := by simp [Oper.looksAt, hg, ht]
        simp [h.tmps t this]
    simp only [hy]
set_option maxRecDepth 100000 in
theorem Same.yields {C : World → Prop} {o : Oper} {v : Value} {a a' : Act} (h : Same ops o a' a) (hs : ∀ cs b, o.op ≠ .select cs b) (hy : YieldsIn P ops C o v a) : YieldsIn P ops C o v a' :=
  hy.of_same (h.exec hs) h.wanted

set_option maxRecDepth 100000 in
theorem put_size (a : Act) (d : Option Tmp) (v : Value) : (a.put d v).tmps.size = a.tmps.size := by cases d <;> simp [Act.put]

/-- Those of the operations that 'f' names (by their places, from i on) have come up, and left these values. -/
def stF : List (Option Tmp × Value) → (Nat → Bool) → Nat → Act → Act
  | [], _, _, a => a
  | (d, v) :: l, f, i, a => stF l f (i + 1) (if f i then a.put d v else a)

set_option maxRecDepth 100000 in
theorem stF_size (l : List (Option Tmp × Value)) : ∀ (f : Nat → Bool) (i : Nat) (a : Act), (stF l f i a).tmps.size = a.tmps.size := by
  induction l with
  | nil => intros; rfl
  | cons x l ih =>
    intro f i a
    obtain ⟨d, v⟩ := x
    simp only [stF]
    rw [ih]
    split
    · exact put_size _ _ _
    · rfl

set_option maxRecDepth 100000 in
theorem stF_congr (l : List (Option Tmp × Value)) : ∀ (f g : Nat → Bool) (i : Nat) (a : Act), (∀ j, i ≤ j → f j = g j) → stF l f i a = stF l g i a := by
  induction l with
  | nil => intros; rfl
  | cons x l ih =>
    intro f g i a h
    obtain ⟨d, v⟩ := x
    simp only [stF]
    rw [h i (Nat.le_refl _), ih f g (i + 1) _ (fun j hj => h j (by omega))]

set_option maxRecDepth 100000 in
/-- One more has come up. -/
theorem stF_put (l : List (Option Tmp × Value)) (d : Option Tmp) (v : Value) : ∀ (f : Nat → Bool) (i : Nat) (a : Act), (∀ x ∈ l, ∀ e, d = some e → x.1 ≠ some e) →
    stF l f i (a.put d v) = (stF l f i a).put d v := by
  induction l with
  | nil => intros; rfl
  | cons x l ih =>
    intro f i a h
    obtain ⟨d', v'⟩ := x
    simp only [stF]
    split
    · rw [Act.put_comm a v v' (fun e he => h (d', v') (by simp) e he), ih f (i + 1) _ (fun x hx => h x (by simp [hx]))]
    · rw [ih f (i + 1) _ (fun x hx => h x (by simp [hx]))]

set_option maxRecDepth 100000 in
theorem stF_set (l : List (Option Tmp × Value)) : ∀ (f g : Nat → Bool) (i k : Nat) (x : Option Tmp × Value) (a : Act), l[k]? = some x → (∀ j, j ≠ i + k → g j = f j) → f (i + k) = false → g (i + k) = true →
    (l.Pairwise fun x y => ∀ e, x.1 = some e → y.1 ≠ some e) → stF l g i a = (stF l f i a).put x.1 x.2 := by
  induction l with
  | nil => intro f g i k x a h; simp at h
  | cons y l ih =>
    intro f g i k x a hk hfg hf hg hp
    obtain ⟨d, v⟩ := y
    simp only [stF]
    rw [List.pairwise_cons] at hp
    cases k with
    | zero =>
      simp at hk
      subst hk
      rw [Nat.add_zero] at hf hg
      rw [hf, hg]
      simp only [if_true, Bool.false_eq_true, if_false]
      rw [stF_put l d v g (i + 1) a (fun x hx e he => hp.1 x hx e he)]
      congr 1
      exact stF_congr l _ _ _ _ (fun j hj => hfg j (by omega))
    | succ k =>
      have hk' : l[k]? = some x := by simpa using hk
      rw [hfg i (by omega)]
      exact ih f g (i + 1) k x _ hk' (fun j hj => hfg j (by omega)) (by rw [← hf]; congr 1; omega) (by rw [← hg]; congr 1; omega) hp.2

set_option maxRecDepth 100000 in
/-- Two states in which other operations have come up are the same to one that looks at none of those. -/
theorem stF_same {o : Oper} (l : List (Option Tmp × Value)) : ∀ (f g : Nat → Bool) (i : Nat) (a a' : Act), Same ops o a a' → a.tmps.size = a'.tmps.size →
    (∀ k d v, l[k]? = some (some d, v) → f (i + k) ≠ g (i + k) → d ∉ o.looksAt ops) → Same ops o (stF l f i a) (stF l g i a') := by
  induction l with
  | nil => intro f g i a a' h _ _; exact h
  | cons x l ih =>
    intro f g i a a' h hs hd
    obtain ⟨d, v⟩ := x
    simp only [stF]
    have hrest : ∀ k d v, l[k]? = some (some d, v) → f (i + 1 + k) ≠ g (i + 1 + k) → d ∉ o.looksAt ops := fun k d v hk hne => by
      refine hd (k + 1) d v (by simpa using hk) ?_
      rw [show i + (k + 1) = i + 1 + k by omega]; exact hne
    by_cases hfg : f i = g i
    · rw [hfg]
      split
      · exact ih f g (i + 1) _ _ (h.put hs d v) (by rw [put_size, put_size, hs]) hrest
      · exact ih f g (i + 1) _ _ h hs hrest
    · have hnot : ∀ e, d = some e → e ∉ o.looksAt ops := fun e he => hd 0 e v (by simp [he]) (by simpa using hfg)
      cases hf : f i <;> cases hg : g i
      · simp [hf, hg] at hfg
      · simp only [Bool.false_eq_true, if_false, if_true]
        exact ih f g (i + 1) _ _ (h.right d v hnot) (by rw [put_size, hs]) hrest
      · simp only [Bool.false_eq_true, if_false, if_true]
        exact ih f g (i + 1) _ _ (h.left d v hnot) (by rw [put_size, hs]) hrest
      · simp [hf, hg] at hfg


set_option maxRecDepth 100000 in
theorem stF_shift (l : List (Option Tmp × Value)) : ∀ (f g : Nat → Bool) (i : Nat) (a : Act), (∀ j, f (j + 1) = g j) → stF l f (i + 1) a = stF l g i a := by
  induction l with
  | nil => intros; rfl
  | cons x l ih =>
    intro f g i a h
    obtain ⟨d, v⟩ := x
    simp only [stF]
    rw [h i, ih f g (i + 1) _ h]

set_option maxRecDepth 100000 in
/-- What a walk of the lexical order shows: a value for each operation. -/
theorem wpQuiet_vals {C : World → Prop} {Q : Act → Prop} : ∀ (l : List Oper) (a : Act), wpQuiet P ops C Q l a →
    ∃ vs : List (Option Tmp × Value), vs.map (·.1) = l.map (·.dst) ∧ Q (stF vs (fun _ => true) 0 a) ∧
      ∀ k o, l[k]? = some o → ∃ v, vs[k]? = some (o.dst, v) ∧ YieldsIn P ops C o v (stF vs (fun j => decide (j < k)) 0 a)
  | [], a, h => ⟨[], rfl, h, fun k o h => by simp at h⟩
  | o :: l, a, h => by
    have hv : ∃ v, YieldsIn P ops C o v a ∧ wpQuiet P ops C Q l (a.put o.dst v) := by
      unfold wpQuiet at h
      by_cases hw : Region.wanted o (yielded ops a.tmps) = true
      · simp only [hw, if_true] at h
        obtain ⟨v, h1, h2⟩ := h
        exact ⟨v, .inl ⟨hw, h1⟩, h2⟩
      · simp only [hw] at h
        exact ⟨undef, .inr ⟨by simpa using hw, rfl⟩, h⟩
    obtain ⟨v, hy, hrest⟩ := hv
    obtain ⟨vs, hd, hq, hk⟩ := wpQuiet_vals l _ hrest
    refine ⟨(o.dst, v) :: vs, by simp [hd], ?_, fun k o' hko => ?_⟩
    · simp only [stF, if_true]
      rw [stF_shift vs _ (fun _ => true) 0 _ (fun _ => rfl)]
      exact hq
    · cases k with
      | zero =>
        simp at hko
        subst hko
        refine ⟨v, by simp, ?_⟩
        have : stF ((o.dst, v) :: vs) (fun j => decide (j < 0)) 0 a = a := by
          have e : ∀ (l : List (Option Tmp × Value)) (i : Nat) (a : Act), stF l (fun j => decide (j < 0)) i a = a := by
            intro l
            induction l with
            | nil => intros; rfl
            | cons x l ih => intro i a; obtain ⟨d, v⟩ := x; simp only [stF, Nat.not_lt_zero, decide_false, Bool.false_eq_true, if_false]; exact ih _ _
          exact e _ _ _
        rw [this]; exact hy
      | succ k =>
        obtain ⟨v', h1, h2⟩ := hk k o' (by simpa using hko)
        refine ⟨v', by simpa using h1, ?_⟩
        simp only [stF, Nat.zero_lt_succ, decide_true, if_true]
        rw [stF_shift vs _ (fun j => decide (j < k)) 0 _ (fun j => by simp)]
        exact h2

/-- Two values that a put makes no difference between. -/
def Alike2 (N : Nat) (x y : Option Tmp × Value) : Prop := x.1 = y.1 ∧ ∀ a : Act, a.tmps.size = N → a.put x.1 x.2 = a.put y.1 y.2

set_option maxRecDepth 100000 in
theorem stF_alike {N : Nat} : ∀ (l l' : List (Option Tmp × Value)), l.length = l'.length → (∀ (k : Nat) x y, l[k]? = some x → l'[k]? = some y → Alike2 N x y) →
    ∀ (f : Nat → Bool) (i : Nat) (a : Act), a.tmps.size = N → stF l f i a = stF l' f i a
  | [], [], _, _ => fun _ _ _ _ => rfl
  | (d, v) :: l, (d', v') :: l', hl, h => fun f i a ha => by
    simp only [stF]
    have h0 := h 0 (d, v) (d', v') (by simp) (by simp)
    have hr := stF_alike l l' (by simpa using hl) (fun k x y hx hy => h (k + 1) x y (by simpa using hx) (by simpa using hy))
    cases hf : f i
    · simp only [Bool.false_eq_true, if_false]; exact hr f (i + 1) a ha
    · simp only [if_true]
      rw [show a.put d v = a.put d' v' from h0.2 a ha]
      exact hr f (i + 1) _ (by rw [put_size]; exact ha)
  | [], _ :: _, hl, _ => by simp at hl
  | _ :: _, [], hl, _ => by simp at hl

/-- What a slot holds at the end. -/
def slotOf (a : Act) : Option Tmp → Value
  | some d => a.tmps.getD d undef
  | none => undef

set_option maxRecDepth 100000 in
theorem stF_slot : ∀ (l : List (Option Tmp × Value)) (i : Nat) (a : Act) (d : Tmp), (∀ x ∈ l, x.1 ≠ some d) → (stF l (fun _ => true) i a).tmps[d]? = a.tmps[d]?
  | [], _, _, _, _ => rfl
  | (e, v) :: l, i, a, d, h => by
    simp only [stF, if_true]
    rw [stF_slot l (i + 1) _ d (fun x hx => h x (by simp [hx]))]
    cases e with
    | none => rfl
    | some e =>
      have hne : e ≠ d := fun he => h (some e, v) (by simp) (by simp [he])
      simp only [Act.put]
      rw [Array.getElem?_setIfInBounds_ne hne]

set_option maxRecDepth 100000 in
theorem stF_fin : ∀ (l : List (Option Tmp × Value)) (i : Nat) (a : Act), (l.Pairwise fun x y => ∀ e, x.1 = some e → y.1 ≠ some e) →
    ∀ (k : Nat) (d : Nat) v, l[k]? = some (some d, v) → d < a.tmps.size → (stF l (fun _ => true) i a).tmps[d]? = some v
  | [], _, _, _, k, d, v, h, _ => by simp at h
  | (e, u) :: l, i, a, hp, k, d, v, h, hlt => by
    rw [List.pairwise_cons] at hp
    simp only [stF, if_true]
    cases k with
    | zero =>
      simp at h
      obtain ⟨rfl, rfl⟩ := h
      rw [stF_slot l (i + 1) _ d (fun x hx => hp.1 x hx d rfl)]
      simp [Act.put, hlt]
    | succ k =>
      exact stF_fin l (i + 1) _ hp.2 k d v (by simpa using h) (by rw [put_size]; exact hlt)

set_option maxRecDepth 100000 in
/-- so that the values are those of the final frame -/
theorem vals_of_fin {a afin : Act} {pre : List Oper} {vs : List (Option Tmp × Value)} (hd : vs.map (·.1) = pre.map (·.dst)) (hp : vs.Pairwise fun x y => ∀ e, x.1 = some e → y.1 ≠ some e)
    (hf : stF vs (fun _ => true) 0 a = afin) (k : Nat) (x y : Option Tmp × Value) (hx : vs[k]? = some x) (hy : (pre.map fun o => (o.dst, slotOf afin o.dst))[k]? = some y) : Alike2 a.tmps.size x y := by
  obtain ⟨d, v⟩ := x
  have h1 : (vs.map (·.1))[k]? = some d := by simp [hx]
  rw [hd] at h1
  simp at h1 hy
  obtain ⟨o, ho, hod⟩ := h1
  obtain ⟨o', ho', hy⟩ := hy
  rw [ho] at ho'
  obtain rfl := Option.some.inj ho'
  subst hy
  refine ⟨by simp [hod], fun b hb => ?_⟩
  subst hod
  simp only
  cases hdst : o.dst with
  | none => rfl
  | some d =>
    rw [hdst] at hx
    by_cases hlt : (d : Nat) < a.tmps.size
    · have := stF_fin vs 0 a hp k d v hx hlt
      rw [hf] at this
      simp [slotOf, this]
    · have hlt' : b.tmps.size ≤ (d : Nat) := by rw [hb]; exact Nat.not_lt.1 hlt
      simp only [Act.put]
      rw [Array.setIfInBounds_eq_of_size_le hlt', Array.setIfInBounds_eq_of_size_le hlt']

/-- the first N1 operations of N have come up -/
def full (N N1 : Nat) : Array Bool := Array.ofFn (n := N) fun i => decide (i.val < N1)

/-- The tail waits for all ahead of it; each operation of the head looks at slots of the head's elder ones alone, for which it waits; slots are unlike. -/
def hdB (md : Region.Mode) (ops : Array Oper) (n N1 : Nat) : Bool :=
  Region.noSelect ops && decide (n ≤ N1) && decide (N1 ≤ n + 1) && decide (N1 ≤ ops.size) &&
  ((List.range N1).all fun i => (List.range N1).all fun j => decide (j ≤ i) || match (ops[i]?).bind (·.dst) with
    | some d => (ops[j]?).bind (·.dst) != some d
    | none => true) &&
  ((List.range n).all fun j => (List.range N1).all fun k => match (ops[k]?).bind (·.dst) with
    | some d => match ops[j]? with
      | some o => !(o.looksAt ops).contains d || (decide (k < j) && Region.waitsFor md ops j k)
      | none => true
    | none => true) &&
  ((List.range ops.size).all fun t => decide (t < N1) || (List.range t).all fun i => Region.waitsFor md ops t i) &&
  ((List.range ops.size).all fun j => match ops[j]? with
    | some o => o.after.all fun e => !Region.binds md e || decide (e.on < j)
    | none => true) &&
  Region.seqB md ops (ops.size - N1) N1 (full ops.size N1)

structure Hd (md : Region.Mode) (ops : Array Oper) (n N1 : Nat) : Prop where
  sel : ∀ (j : Nat) (o : Oper) cs b, ops[j]? = some o → o.op ≠ .select cs b
  le1 : n ≤ N1
  le2 : N1 ≤ n + 1
  le3 : N1 ≤ ops.size
  apart : ∀ i j, i < N1 → j < N1 → i < j → ∀ d, (ops[i]?).bind (·.dst) = some d → (ops[j]?).bind (·.dst) ≠ some d
  looks : ∀ (j k : Nat) (d : Tmp) (o : Oper), j < n → k < N1 → (ops[k]?).bind (·.dst) = some d → ops[j]? = some o → d ∈ o.looksAt ops → k < j ∧ Region.waitsFor md ops j k = true
  tail : ∀ t i, t < ops.size → N1 ≤ t → i < t → Region.waitsFor md ops t i = true
  down : ∀ (j : Nat) (o : Oper) e, ops[j]? = some o → e ∈ o.after → Region.binds md e = true → e.on < j
  seq : Region.seqB md ops (ops.size - N1) N1 (full ops.size N1) = true

set_option maxRecDepth 100000 in
theorem hd_of {n N1 : Nat} (h : hdB md ops n N1 = true) : Hd md ops n N1 := by
  simp only [hdB, Bool.and_eq_true, decide_eq_true_eq, List.all_eq_true, List.mem_range] at h
  obtain ⟨⟨⟨⟨⟨⟨⟨⟨h1, h2⟩, h3⟩, h4⟩, h5⟩, h6⟩, h7⟩, h8⟩, h9⟩ := h
  refine ⟨fun j o cs b => Region.noSelect_spec h1 j o cs b, h2, h3, h4, ?_, ?_, ?_, ?_, h9⟩
  · intro i j hi hj hij d hd he
    have := h5 i hi j hj
    simp only [hd, Bool.or_eq_true, decide_eq_true_eq] at this
    rcases this with h | h
    · omega
    · rw [he] at h; simp at h
  · intro j k d o hj hk hd ho hmem
    have := h6 j hj k hk
    simp only [hd, ho, Bool.or_eq_true, Bool.and_eq_true, decide_eq_true_eq, Bool.not_eq_true'] at this
    rcases this with h | h
    · exfalso
      have : (o.looksAt ops).contains d = true := by simpa using hmem
      rw [h] at this; cases this
    · exact h
  · intro t i ht hN hi
    have := h7 t ht
    simp only [Bool.or_eq_true, decide_eq_true_eq, List.all_eq_true, List.mem_range] at this
    rcases this with h | h
    · omega
    · exact h i hi
  · intro j o e ho he hb
    have hlt : j < ops.size := (Array.getElem?_eq_some_iff.1 ho).1
    have := h8 j hlt
    simp only [ho, Array.all_eq_true_iff_forall_mem, Bool.or_eq_true, decide_eq_true_eq, Bool.not_eq_true'] at this
    rcases this e he with h | h
    · rw [hb] at h; cases h
    · exact h

/-- how many of the head have not come up -/
def cnt (N1 : Nat) (listed : Array Bool) : Nat := ((List.range N1).filter fun i => !listed.getD i false).length

set_option maxRecDepth 100000 in
theorem filter_one (p q : Nat → Bool) (i : Nat) (hp : p i = true) (hq : q i = false) (hne : ∀ j, j ≠ i → q j = p j) : ∀ (l : List Nat), l.Nodup → i ∈ l → (l.filter p).length = (l.filter q).length + 1
  | [], _, h => by simp at h
  | x :: l, hn, h => by
    rw [List.nodup_cons] at hn
    by_cases hx : x = i
    · subst hx
      have e : l.filter p = l.filter q := List.filter_congr fun j hj => (hne j (fun e => hn.1 (e ▸ hj))).symm
      simp [hp, hq, e]
    · have hm : i ∈ l := by
        rcases List.mem_cons.1 h with h | h
        · exact absurd h.symm hx
        · exact h
      have ih := filter_one p q i hp hq hne l hn.2 hm
      simp only [List.filter_cons, hne x hx]
      split
      · simp [ih]
      · exact ih

set_option maxRecDepth 100000 in
theorem cnt_set {N1 i : Nat} {listed : Array Bool} (hi : i < N1) (hs : i < listed.size) (hu : listed.getD i false = false) : cnt N1 listed = cnt N1 (listed.setIfInBounds i true) + 1 := by
  unfold cnt
  refine filter_one _ _ i (by simp [hu]) ?_ ?_ _ List.nodup_range (List.mem_range.2 hi)
  · simp [hs]
  · intro j hj
    rw [getD_set_ne false (Ne.symm hj)]

set_option maxRecDepth 100000 in
theorem cnt_zero {N1 : Nat} {listed : Array Bool} (h : cnt N1 listed = 0) : ∀ i, i < N1 → listed.getD i false = true := by
  intro i hi
  unfold cnt at h
  have h' := List.eq_nil_of_length_eq_zero h
  rw [List.filter_eq_nil_iff] at h'
  have := h' i (List.mem_range.2 hi)
  simpa using this

set_option maxRecDepth 100000 in
theorem cnt_succ {N1 k : Nat} {listed : Array Bool} (h : cnt N1 listed = k + 1) : ∃ i, i < N1 ∧ listed.getD i false = false := by
  unfold cnt at h
  have hne : (List.range N1).filter (fun i => !listed.getD i false) ≠ [] := fun e => by rw [e] at h; cases h
  obtain ⟨i, hi⟩ := List.exists_mem_of_ne_nil _ hne
  rw [List.mem_filter, List.mem_range] at hi
  exact ⟨i, hi.1, by simpa using hi.2⟩

set_option maxRecDepth 100000 in
/-- something may always come up -/
theorem ready_ex {n N1 : Nat} (h : Hd md ops n N1) {listed : Array Bool} (hs : listed.size = ops.size) : ∀ i, i < ops.size → listed.getD i false = false → ∃ j, j ∈ Region.ready md ops listed := by
  intro i
  induction i using Nat.strongRecOn with
  | _ i ih =>
    intro hi hu
    obtain ⟨o, ho⟩ : ∃ o, ops[i]? = some o := ⟨_, Array.getElem?_eq_getElem hi⟩
    by_cases hall : ∀ e ∈ o.after, Region.binds md e = true → listed.getD e.on false = true
    · exact ⟨i, mem_ready.2 ⟨getD_in (by omega) hu, o, ho, hall⟩⟩
    · have : ∃ e, e ∈ o.after ∧ Region.binds md e = true ∧ listed.getD e.on false = false := by
        apply Classical.byContradiction
        intro hn
        refine hall fun e he hb => ?_
        cases hl : listed.getD e.on false
        · exact absurd ⟨e, he, hb, hl⟩ hn
        · rfl
      obtain ⟨e, he, hb, hl⟩ := this
      have hlt := h.down i o e ho he hb
      exact ih e.on hlt (by omega) hl

set_option maxRecDepth 100000 in
theorem full_eq {N N1 : Nat} {listed : Array Bool} (hs : listed.size = N) (h1 : ∀ i, i < N1 → listed.getD i false = true) (h2 : ∀ i, N1 ≤ i → listed.getD i false = false) : listed = full N N1 := by
  apply Array.ext
  · simp [full, hs]
  · intro i hi hi'
    simp only [full, Array.getElem_ofFn]
    by_cases h : i < N1
    · have := h1 i h
      simp [hi] at this
      simp [this, h]
    · have := h2 i (by omega)
      simp [hi] at this
      simp [this, h]

/-- A world that is as w was, and has new blocks at most. -/
structure Ext (w : World) where
  at_ : World
  same : Below w.heap.size w at_

instance (w : World) : Nonempty (Ext w) := ⟨⟨w, Below.refl _ w⟩⟩

/-- where the run stands: the head's operations that 'f' names have come up -/
def At (n : Nat) (vals : List (Option Tmp × Value)) (dN : Option Tmp) (Fact : Value → World → Prop) (a : Act) (w : World) (f : Nat → Bool) (a' : Act) (w' : World) : Prop :=
  Below w.heap.size w w' ∧ ((f n = false ∧ a' = stF vals f 0 a) ∨ (f n = true ∧ ∃ v, Fact v w' ∧ a' = (stF vals f 0 a).put dN v))

set_option maxRecDepth 100000 in
theorem getElem?_of_get {l : List Oper} {n k : Nat} {o : Oper} (h : (l.take n)[k]? = some o) : k < n ∧ l[k]? = some o := by
  rw [List.getElem?_take] at h
  split at h
  · exact ⟨‹_›, h⟩
  · cases h

set_option maxRecDepth 100000 in
theorem wpAny_hd {n N1 : Nat} {Q : Exit → Act → World → Prop} {l : List Oper} {dN : Option Tmp} {Fact : Value → World → Prop} {a afin : Act} {w : World} (hd : Hd md l.toArray n N1)
    (hstab : ∀ v w' w'', Fact v w' → Below w'.heap.size w' w'' → Fact v w'')
    (hlex : ∀ w1, Below w.heap.size w w1 → wpQuiet P l.toArray (fun w' => ∃ x : Ext w1, w' = x.at_) (fun a' => a' = afin) (l.take n) a)
    (hal : n < N1 → ∃ o, l[n]? = some o ∧ o.dst = dN ∧ o.guard = none ∧ ∀ (a' : Act) (w' : World), ∃ v w'', (execOp a'.eval o).run P w' = .ok (.value v) w'' ∧ Below w'.heap.size w' w'' ∧ (w.heap.size ≤ w'.heap.size → Fact v w''))
    (htail : ∀ w1 a1, Below w.heap.size w w1 → ((N1 = n ∧ a1 = afin) ∨ (N1 = n + 1 ∧ ∃ v, Fact v w1 ∧ a1 = afin.put dN v)) → wpList P l.toArray Q (l.drop N1) a1 w1) :
    ∀ (k : Nat) (listed : Array Bool) (a' : Act) (w' : World), listed.size = l.length → (∀ t, N1 ≤ t → listed.getD t false = false) → cnt N1 listed = k →
      At n ((l.take n).map fun o => (o.dst, slotOf afin o.dst)) dN Fact a w (fun i => listed.getD i false) a' w' → wpAny P md l.toArray Q (k + (l.length - N1)) listed a' w' := by
  -- the lexical walk's values, in each world
  have hvals : ∀ w1, Below w.heap.size w w1 → ∀ (f : Nat → Bool) (vs : List (Option Tmp × Value)), vs.map (·.1) = (l.take n).map (·.dst) → stF vs (fun _ => true) 0 a = afin →
      stF vs f 0 a = stF ((l.take n).map fun o => (o.dst, slotOf afin o.dst)) f 0 a ∧ (∀ (k : Nat) x y, vs[k]? = some x → ((l.take n).map fun o => (o.dst, slotOf afin o.dst))[k]? = some y → Alike2 a.tmps.size x y) := by
    intro w1 _ f vs hm hf
    have hp : vs.Pairwise fun x y => ∀ e, x.1 = some e → y.1 ≠ some e := by
      rw [List.pairwise_iff_getElem]
      intro i j hi hj hij e he he'
      have hlen : vs.length = (l.take n).length := by simpa using congrArg List.length hm
      have hi' : i < (l.take n).length := by omega
      have hj' : j < (l.take n).length := by omega
      have e1 : (vs.map (·.1))[i]? = some (some e) := by simp [hi, he]
      have e2 : (vs.map (·.1))[j]? = some (some e) := by simp [hj, he']
      rw [hm] at e1 e2
      simp only [List.getElem?_map, Option.map_eq_some_iff] at e1 e2
      obtain ⟨o1, h1, hd1⟩ := e1
      obtain ⟨o2, h2, hd2⟩ := e2
      have g1 := getElem?_of_get h1
      have g2 := getElem?_of_get h2
      have := hd.le1
      exact hd.apart i j (by omega) (by omega) hij e (by simp [g1.2, hd1]) (by simp [g2.2, hd2])
    have hal2 := vals_of_fin (a := a) (pre := l.take n) hm hp hf
    refine ⟨stF_alike vs _ (by simpa using congrArg List.length hm) (fun k x y hx hy => hal2 k x y hx hy) f 0 a rfl, fun k x y hx hy => hal2 k x y hx hy⟩
  have hpv : ((l.take n).map fun o => (o.dst, slotOf afin o.dst)).Pairwise fun x y => ∀ e, x.1 = some e → y.1 ≠ some e := by
    rw [List.pairwise_iff_getElem]
    intro i j hi hj hij e he he'
    simp only [List.length_map] at hi hj
    simp only [List.getElem_map] at he he'
    have g1 := getElem?_of_get (List.getElem?_eq_getElem hi)
    have g2 := getElem?_of_get (List.getElem?_eq_getElem hj)
    have := hd.le1
    have q1 : l.toArray[i]? = some (l.take n)[i] := by rw [List.getElem?_toArray]; exact g1.2
    have q2 : l.toArray[j]? = some (l.take n)[j] := by rw [List.getElem?_toArray]; exact g2.2
    exact hd.apart i j (by omega) (by omega) hij e (by rw [q1]; exact he) (by rw [q2]; exact he')
  intro k
  induction k with
  | zero =>
    intro listed a' w' hs ht hc hat
    have hall := cnt_zero hc
    have hfull : listed = full l.length N1 := full_eq hs hall ht
    have hseq := hd.seq
    obtain ⟨hb, hat⟩ := hat
    have hdl : (l.drop N1).length = l.length - N1 := by simp
    have hst : stF ((l.take n).map fun o => (o.dst, slotOf afin o.dst)) (fun i => listed.getD i false) 0 a = afin := by
      obtain ⟨vs, hm, hq, _⟩ := wpQuiet_vals _ _ (hlex w (Below.refl _ _))
      rw [← (hvals w (Below.refl _ _) _ vs hm hq).1, ← hq]
      have e : ∀ (l' : List (Option Tmp × Value)) (f g : Nat → Bool) (i : Nat) (b : Act), (∀ j, j < i + l'.length → f j = g j) → stF l' f i b = stF l' g i b := by
        intro l'
        induction l' with
        | nil => intros; rfl
        | cons x l' ih => intro f g i b h; obtain ⟨d, v⟩ := x; simp only [stF]; rw [h i (by simp), ih f g (i + 1) _ (fun j hj => h j (by simp only [List.length_cons]; omega))]
      refine e _ _ _ _ _ fun j hj => ?_
      have hlen : vs.length = (l.take n).length := by simpa using congrArg List.length hm
      have hle := hd.le1
      have : (l.take n).length ≤ n := by simp; omega
      exact hall j (by omega)
    have hw : wpList P l.toArray Q (l.drop N1) a' w' := by
      refine htail w' a' hb ?_
      rw [hst] at hat
      rcases hat with ⟨hf, h⟩ | ⟨hf, h⟩
      · refine .inl ⟨?_, h⟩
        have := hd.le1; have := hd.le2
        rcases Nat.lt_or_ge n N1 with h' | h'
        · simp only at hf; rw [hall n h'] at hf; cases hf
        · omega
      · refine .inr ⟨?_, h⟩
        have := hd.le1; have := hd.le2
        rcases Nat.lt_or_ge n N1 with h' | h'
        · omega
        · simp only at hf; rw [ht n h'] at hf; cases hf
    rw [Nat.zero_add, ← hdl]
    exact wpAny_of_seq (l.drop N1) N1 listed a' w' (fun j => by simp [List.getElem?_drop]) (by rw [hdl, hfull]; simpa using hseq) hw
  | succ k ih =>
    intro listed a' w' hs ht hc hat
    obtain ⟨i0, hi0, hu0⟩ := cnt_succ hc
    have hle3 : N1 ≤ l.length := by simpa using hd.le3
    rw [show k + 1 + (l.length - N1) = (k + (l.length - N1)) + 1 by omega]
    refine ⟨fun h0 => ?_, fun i hi => ?_⟩
    · obtain ⟨j, hj⟩ := ready_ex hd (listed := listed) (by simpa using hs) i0 (by simp; omega) hu0
      rw [h0] at hj; cases hj
    obtain ⟨hiu, o, ho, hdeps⟩ := mem_ready.1 hi
    have ho' : l[i]? = some o := by simpa using ho
    have hil : i < l.length := (List.getElem?_eq_some_iff.1 ho').1
    have hi1 : i < N1 := by
      rcases Nat.lt_or_ge i N1 with h | h
      · exact h
      · have hwf := hd.tail i i0 (by simpa using hil) h (by omega)
        obtain ⟨oj, hoj, e, he, hb, hon⟩ := Region.waitsFor_spec hwf
        have : oj = o := Option.some.inj (hoj.symm.trans ho)
        subst this
        have := hdeps e he hb
        rw [hon, hu0] at this; cases this
    have hcnt := cnt_set hi1 (by omega) (getD_both hiu)
    have hnext : ∀ a'' w'', At n ((l.take n).map fun o => (o.dst, slotOf afin o.dst)) dN Fact a w (fun j => (listed.setIfInBounds i true).getD j false) a'' w'' →
        wpAny P md l.toArray Q (k + (l.length - N1)) (listed.setIfInBounds i true) a'' w'' := fun a'' w'' h =>
      ih _ a'' w'' (by simpa using hs) (fun t htt => by rw [getD_set_ne false (by omega)]; exact ht t htt) (by omega) h
    obtain ⟨hb, hat⟩ := hat
    have hseti : (listed.setIfInBounds i true).getD i false = true := by simp [hs, hil]
    rcases Nat.lt_or_ge i n with hin | hin
    · -- an operation of the quiet head
      obtain ⟨vs, hm, hq, hy⟩ := wpQuiet_vals _ _ (hlex w' hb)
      have hget : (l.take n)[i]? = some o := by rw [List.getElem?_take, if_pos hin]; exact ho'
      obtain ⟨v, hvi, hyi⟩ := hy i o hget
      obtain ⟨_, hal2⟩ := hvals w' hb (fun j => decide (j < i)) vs hm hq
      rw [(hvals w' hb (fun j => decide (j < i)) vs hm hq).1] at hyi
      have hval : ((l.take n).map fun o => (o.dst, slotOf afin o.dst))[i]? = some (o.dst, slotOf afin o.dst) := by rw [List.getElem?_map, hget]; rfl
      have halike := hal2 i _ _ hvi hval
      -- the real frame looks the same to it
      have hsame0 : Same l.toArray o (stF ((l.take n).map fun o => (o.dst, slotOf afin o.dst)) (fun j => listed.getD j false) 0 a) (stF ((l.take n).map fun o => (o.dst, slotOf afin o.dst)) (fun j => decide (j < i)) 0 a) := by
        refine stF_same _ _ _ 0 a a Same.refl rfl fun k' d v' hk' hne hmem => ?_
        simp only [List.getElem?_map, Option.map_eq_some_iff, Prod.mk.injEq] at hk'
        obtain ⟨ok, hok, hdk, _⟩ := hk'
        obtain ⟨hkn, hlk⟩ := getElem?_of_get hok
        have hle := hd.le1
        have hlk' : (l.toArray)[k']? = some ok := by simpa using hlk
        obtain ⟨hki, hwf⟩ := hd.looks i k' d o hin (by omega) (by rw [hlk']; exact hdk) ho hmem
        obtain ⟨oj, hoj, e, he, hbd, hon⟩ := Region.waitsFor_spec hwf
        have : oj = o := Option.some.inj (hoj.symm.trans ho)
        subst this
        have := hdeps e he hbd
        rw [hon] at this
        rw [Nat.zero_add] at hne
        exact hne (by rw [this]; simp [hki])
      have hsame : Same l.toArray o a' (stF ((l.take n).map fun o => (o.dst, slotOf afin o.dst)) (fun j => decide (j < i)) 0 a) := by
        rcases hat with ⟨_, rfl⟩ | ⟨hfn, u, _, rfl⟩
        · exact hsame0
        · refine hsame0.left dN u fun e he hmem => ?_
          have hnN : n < N1 := by
            rcases Nat.lt_or_ge n N1 with h | h
            · exact h
            · simp only at hfn; rw [ht n h] at hfn; cases hfn
          obtain ⟨oN, hoN, hdN, _⟩ := hal hnN
          have hoN' : (l.toArray)[n]? = some oN := by simpa using hoN
          have hdN' : oN.dst = some e := hdN.trans he
          have := (hd.looks i n e o hin hnN (by rw [hoN']; exact hdN') ho hmem).1
          omega
      have hyr : YieldsIn P l.toArray (fun w'' => ∃ x : Ext w', w'' = x.at_) o v a' := hsame.yields (fun cs b => hd.sel i o cs b ho) hyi
      have hsz : (stF ((l.take n).map fun o => (o.dst, slotOf afin o.dst)) (fun j => listed.getD j false) 0 a).tmps.size = a.tmps.size := stF_size _ _ _ _
      have hput : ∀ b : Act, b.tmps.size = a.tmps.size → b.put o.dst v = b.put o.dst (slotOf afin o.dst) := halike.2
      have hstF : stF ((l.take n).map fun o => (o.dst, slotOf afin o.dst)) (fun j => (listed.setIfInBounds i true).getD j false) 0 a =
          (stF ((l.take n).map fun o => (o.dst, slotOf afin o.dst)) (fun j => listed.getD j false) 0 a).put o.dst (slotOf afin o.dst) := by
        refine stF_set _ _ _ 0 i (o.dst, slotOf afin o.dst) a hval (fun j hj => ?_) ?_ ?_ hpv
        · exact getD_set_ne false (by omega)
        · rw [Nat.zero_add]; exact getD_both hiu
        · rw [Nat.zero_add]; exact hseti
      have hne : i ≠ n := by omega
      refine wpOp_of_qOp (C := fun w'' => ∃ x : Ext w', w'' = x.at_) (K := fun a'' => a'' = a'.put o.dst v) ⟨⟨w', Below.refl _ _⟩, rfl⟩ ?_ (hyr.qOp ho rfl)
      rintro a'' w'' ⟨x, rfl⟩ rfl
      refine hnext _ _ ⟨hb.trans (x.same.mono hb.size), ?_⟩
      rcases hat with ⟨hfn, rfl⟩ | ⟨hfn, u, hu, rfl⟩
      · refine .inl ⟨?_, ?_⟩
        · simp only; rw [getD_set_ne false hne]; exact hfn
        · rw [hstF, hput _ hsz]
      · refine .inr ⟨?_, u, hstab _ _ _ hu x.same, ?_⟩
        · simp only; rw [getD_set_ne false hne]; exact hfn
        · have hnN : n < N1 := by
            rcases Nat.lt_or_ge n N1 with h | h
            · exact h
            · simp only at hfn; rw [ht n h] at hfn; cases hfn
          obtain ⟨oN, hoN, hdN, _⟩ := hal hnN
          have hoN' : (l.toArray)[n]? = some oN := by simpa using hoN
          have hcomm : ∀ d, dN = some d → o.dst ≠ some d := fun d hdd hod => by
            have h1 : ((l.toArray)[i]?).bind (·.dst) = some d := by rw [ho]; exact hod
            have h2 : ((l.toArray)[n]?).bind (·.dst) = some d := by rw [hoN']; exact hdN.trans hdd
            exact hd.apart i n hi1 hnN hin d h1 h2
          rw [hstF, hput _ (by rw [put_size]; exact hsz), Act.put_comm _ u (slotOf afin o.dst) hcomm]
    · -- the new variable
      have hi_n : i = n := by have := hd.le2; omega
      subst hi_n
      obtain ⟨oN, hoN, hdN, hg, hrun⟩ := hal hi1
      have : oN = o := Option.some.inj (hoN.symm.trans ho')
      subst this
      have hfn : listed.getD i false = false := getD_both hiu
      have hat' : a' = stF ((l.take i).map fun o => (o.dst, slotOf afin o.dst)) (fun j => listed.getD j false) 0 a := by
        rcases hat with ⟨_, h⟩ | ⟨hfn', _⟩
        · exact h
        · simp only at hfn'; rw [hfn] at hfn'; cases hfn'
      subst hat'
      obtain ⟨v, w'', hr, hbel, hfact⟩ := hrun (stF ((l.take i).map fun o => (o.dst, slotOf afin o.dst)) (fun j => listed.getD j false) 0 a) w'
      unfold wpOp
      simp only [ho]
      rw [if_pos (by simp [Region.wanted, hg])]
      left
      unfold Oper.wp
      rw [hr]
      show wpAny P md l.toArray Q _ _ _ _
      refine hnext _ _ ⟨hb.trans (hbel.mono hb.size), .inr ⟨hseti, v, hfact hb.size, ?_⟩⟩
      rw [hdN]
      congr 1
      have e : ∀ (l' : List (Option Tmp × Value)) (f g : Nat → Bool) (i' : Nat) (b : Act), (∀ j, j < i' + l'.length → f j = g j) → stF l' f i' b = stF l' g i' b := by
        intro l'
        induction l' with
        | nil => intros; rfl
        | cons x l' ih => intro f g i' b h; obtain ⟨d, v⟩ := x; simp only [stF]; rw [h i' (by simp), ih f g (i' + 1) _ (fun j hj => h j (by simp only [List.length_cons]; omega))]
      refine e _ _ _ _ _ fun j hj => ?_
      have : (l.take i).length ≤ i := by simp; omega
      simp only [List.length_map] at hj
      rw [getD_set_ne false (by omega)]

set_option maxRecDepth 100000 in
theorem listed0 (m : Nat) : cnt 0 (Array.replicate m false) = 0 := rfl

set_option maxRecDepth 100000 in
theorem cnt_start : ∀ (N1 m : Nat), N1 ≤ m → cnt N1 (Array.replicate m false) = N1 := by
  intro N1 m _
  unfold cnt
  have : (List.range N1).filter (fun i => !(Array.replicate m false).getD i false) = List.range N1 := by
    rw [List.filter_eq_self]
    intro i _
    rw [getD_replicate_false]; rfl
  rw [this, List.length_range]

set_option maxRecDepth 100000 in
theorem stF_none : ∀ (l : List (Option Tmp × Value)) (f : Nat → Bool) (i : Nat) (a : Act), (∀ j, f j = false) → stF l f i a = a
  | [], _, _, _, _ => rfl
  | (d, v) :: l, f, i, a, h => by
    simp only [stF, h i, Bool.false_eq_true, if_false]
    exact stF_none l f (i + 1) a h

set_option maxRecDepth 100000 in
/-- ONE WALK OF THE LEXICAL ORDER: a quiet head of n operations, then a tail that is carried out in the order of the text. -/
theorem wp_region_hd {id n : Nat} {Q : Exit → Act → World → Prop} {a : Act} {w : World} {l : List Oper} (hm : P.follows .mixedOrders = true) (hB : hdB .any l.toArray n n = true)
    (h : ∃ afin, (∀ w1, Below w.heap.size w w1 → wpQuiet P l.toArray (fun w' => ∃ x : Ext w1, w' = x.at_) (fun a' => a' = afin) (l.take n) a) ∧
      ∀ w1, Below w.heap.size w w1 → wpList P l.toArray Q (l.drop n) afin w1) : (Code.region id l.toArray true).wp P Q a w := by
  obtain ⟨afin, hlex, htail⟩ := h
  have hd := hd_of hB
  have hsz : n ≤ l.length := by simpa using hd.le3
  refine wp_region_any hm ?_
  have := wpAny_hd (Q := Q) (dN := none) (Fact := fun _ _ => False) (a := a) (afin := afin) (w := w) hd (fun _ _ _ h _ => h) hlex (fun h => absurd h (Nat.lt_irrefl _))
    (fun w1 a1 hb h => by
      rcases h with ⟨_, rfl⟩ | ⟨h, _⟩
      · exact htail w1 hb
      · omega) n (Array.replicate l.length false) a w.drew (by simp) (fun t _ => getD_replicate_false _ _) (cnt_start n _ hsz)
    ⟨(Below.refl _ _).drew, .inl ⟨getD_replicate_false _ _, (stF_none _ _ _ _ (fun j => getD_replicate_false _ _)).symm⟩⟩
  rw [show n + (l.length - n) = l.toArray.size by simp; omega] at this
  simpa using this

set_option maxRecDepth 100000 in
/-- The same where the n-th operation makes a new variable, that no operation of the head looks at. -/
theorem wp_region_hda {id n : Nat} {Q : Exit → Act → World → Prop} {a : Act} {w : World} {l : List Oper} (o : Oper) (d : Tmp) (cs : Array Value) (T : TypeId) (hm : P.follows .mixedOrders = true) (hB : hdB .any l.toArray n (n + 1) = true)
    (ho : l[n]? = some o) (hod : o.dst = some d) (hg : o.guard = none)
    (hrun : ∀ (a' : Act) (w' : World), (execOp a'.eval o).run P w' = .ok (.value (.pointer (some ⟨w'.heap.size, 0, none⟩))) (w'.alloc (.cells cs T (0, 0))))
    (h : ∃ afin, (∀ w1, Below w.heap.size w w1 → wpQuiet P l.toArray (fun w' => ∃ x : Ext w1, w' = x.at_) (fun a' => a' = afin) (l.take n) a) ∧
      ∀ w1 b, Below w.heap.size w w1 → w.heap.size ≤ b → w1.heap[b]? = some (.cells cs T (0, 0)) → wpList P l.toArray Q (l.drop (n + 1)) (afin.put (some d) (.pointer (some ⟨b, 0, none⟩))) w1) :
    (Code.region id l.toArray true).wp P Q a w := by
  obtain ⟨afin, hlex, htail⟩ := h
  have hd := hd_of hB
  have hsz : n + 1 ≤ l.length := by simpa using hd.le3
  refine wp_region_any hm ?_
  have := wpAny_hd (Q := Q) (dN := some d) (Fact := fun v w' => ∃ b, v = .pointer (some ⟨b, 0, none⟩) ∧ w.heap.size ≤ b ∧ w'.heap[b]? = some (.cells cs T (0, 0))) (a := a) (afin := afin) (w := w) hd
    (fun v w' w'' h hb => by
      obtain ⟨b, h1, h2, h3⟩ := h
      exact ⟨b, h1, h2, by rw [hb.block b (Array.getElem?_eq_some_iff.1 h3).1]; exact h3⟩) hlex
    (fun _ => ⟨o, ho, hod, hg, fun a' w' => ⟨_, _, hrun a' w', (Below.refl _ _).alloc (Nat.le_refl _) _, fun hle => ⟨w'.heap.size, rfl, hle, by show (w'.heap.push _)[w'.heap.size]? = _; simp⟩⟩⟩)
    (fun w1 a1 hb h => by
      rcases h with ⟨h, _⟩ | ⟨_, v, ⟨b, rfl, h2, h3⟩, rfl⟩
      · omega
      · exact htail w1 b hb h2 h3) (n + 1) (Array.replicate l.length false) a w.drew (by simp) (fun t _ => getD_replicate_false _ _) (cnt_start (n + 1) _ hsz)
    ⟨(Below.refl _ _).drew, .inl ⟨getD_replicate_false _ _, (stF_none _ _ _ _ (fun j => getD_replicate_false _ _)).symm⟩⟩
  rw [show n + 1 + (l.length - (n + 1)) = l.toArray.size by simp; omega] at this
  simpa using this

end
end Go.Proofs.Ytmpgnpkodapidaa

namespace Go.Proofs.Ytmpgnpkodapidaa
open Go.ChangeShapes Go.WideShapes Go.ChangeAt Go.RowKit

set_option maxRecDepth 100000 in
theorem hid {p : Prop} (h : p) : Hid p := h

/-- Block b of the world holds these cells (not frozen). -/
def Blk (w : World) (b : Nat) (cs : Array Value) (T : TypeId) : Prop := w.heap[b]? = some (.cells cs T (0, 0))

set_option maxRecDepth 100000 in
theorem Blk.lt {w : World} {b : Nat} {cs : Array Value} {T : TypeId} (h : Blk w b cs T) : b < w.heap.size := by
  unfold Blk at h
  exact (Array.getElem?_eq_some_iff.1 h).1
set_option maxRecDepth 100000 in
theorem Blk.cell {w : World} {b : Nat} {cs : Array Value} {T : TypeId} (h : Blk w b cs T) : ∀ o, w.cell? ⟨b, o, none⟩ = cs[o]? := by
  intro o
  unfold Blk at h
  simp [World.cell?, h]
set_option maxRecDepth 100000 in
theorem Blk.free {w : World} {b : Nat} {cs : Array Value} {T : TypeId} (h : Blk w b cs T) : ∀ o, w.frozen? ⟨b, o, none⟩ = false := by
  intro o
  unfold Blk at h
  simp [World.frozen?, h]
set_option maxRecDepth 100000 in
theorem Blk.new {w : World} {n : Nat} (hn : w.heap.size = n) (cs : Array Value) (T : TypeId) : Blk (w.alloc (.cells cs T (0, 0))) n cs T := by
  subst hn
  show (w.heap.push _)[w.heap.size]? = _
  simp
set_option maxRecDepth 100000 in
theorem Blk.old {w : World} {b : Nat} {cs : Array Value} {T : TypeId} (h : Blk w b cs T) (o : Obj) : Blk (w.alloc o) b cs T := by
  have := h.lt
  unfold Blk at *
  rw [Below.heap_alloc _ _ _ this]; exact h
set_option maxRecDepth 100000 in
theorem Blk.below {w w' : World} {b : Nat} {cs : Array Value} {T : TypeId} (h : Blk w b cs T) (hb : Below w.heap.size w w') : Blk w' b cs T := by
  have := h.lt
  unfold Blk at *
  rw [hb.block _ this]; exact h
set_option maxRecDepth 100000 in
theorem Blk.belowB {w w' : World} {B b : Nat} {cs : Array Value} {T : TypeId} (h : Blk w b cs T) (hB : b < B) (hb : Below B w w') : Blk w' b cs T := by
  unfold Blk at *
  rw [hb.block _ hB]; exact h
set_option maxRecDepth 100000 in
theorem Blk.set {w : World} {b : Nat} {cs : Array Value} {T : TypeId} (h : Blk w b cs T) (o : Nat) (v : Value) : Blk (w.setCell ⟨b, o, none⟩ v) b (cs.setIfInBounds o v) T := by
  unfold Blk at *
  simp only [World.setCell, Array.getElem?_modify, if_true, h, Option.map_some, Option.isSome_none, Bool.false_eq_true, if_false]
set_option maxRecDepth 100000 in
theorem Blk.other {w : World} {b : Nat} {cs : Array Value} {T : TypeId} (h : Blk w b cs T) (p : Addr) (hp : p.block ≠ b) (v : Value) : Blk (w.setCell p v) b cs T := by
  unfold Blk at *
  rw [Below.heap_setCell _ _ _ _ (Ne.symm hp)]; exact h
set_option maxRecDepth 100000 in
theorem Blk.ne {w : World} {b b' : Nat} {cs : Array Value} {T : TypeId} (h : Blk w b cs T) (h' : w.heap.size ≤ b') : b' ≠ b := by
  have := h.lt; omega
set_option maxRecDepth 100000 in
theorem Blk.drew {w : World} {b : Nat} {cs : Array Value} {T : TypeId} (h : Blk w b cs T) : Blk w.drew b cs T := h

set_option maxRecDepth 100000 in
theorem Blk.ext {w : World} {b : Nat} {cs : Array Value} {T : TypeId} (h : Blk w b cs T) : ∀ (x : Ext w) (o : Nat), x.at_.cell? ⟨b, o, none⟩ = cs[o]? :=
  fun x => (h.below x.same).cell

set_option maxRecDepth 100000 in
theorem Ext.cells (w : World) : ∀ (x : Ext w) (b o : Nat), b < w.heap.size → x.at_.cell? ⟨b, o, none⟩ = w.cell? ⟨b, o, none⟩ :=
  fun x b o h => x.same.cell (p := ⟨b, o, none⟩) h

set_option maxRecDepth 100000 in
/-- A region that draws its order, whose operations only read, and whose callees leave what was there: ONE walk, in the order of the text. -/
theorem wp_region_ext {P : Program} {id : Nat} {Q : Exit → Act → World → Prop} {a : Act} {w : World} {l : List Oper} (hm : P.follows .mixedOrders = true) (hB : Region.lexB .any l.toArray = true)
    (h : wpQuiet P l.toArray (fun w' => ∃ x : Ext w, w' = x.at_) (fun a' => ∀ w', (∃ x : Ext w, w' = x.at_) → Q .normal a' w') l a) : (Code.region id l.toArray true).wp P Q a w :=
  wp_region_quiet (C := fun w' => ∃ x : Ext w, w' = x.at_) hm hB ⟨⟨w.drew, (Below.refl _ _).drew⟩, rfl⟩ (by simpa using h)

set_option maxRecDepth 100000 in
theorem Calls.ext {P : Program} {f : FuncId} {args : Array Value} {w : World} {x : Ext w} {v : Value}
    (h : Calls P f args x.at_ fun e w' => e = .returned v ∧ Below x.at_.heap.size x.at_ w') : Calls P f args x.at_ fun e w'' => e = .returned v ∧ ∃ y : Ext w, w'' = y.at_ :=
  h.mono fun _ w'' ⟨he, hm⟩ => ⟨he, ⟨w'', x.same.trans (hm.mono x.same.size)⟩, rfl⟩

set_option maxRecDepth 100000 in
/-- behind a contract that ends in 'Below': the old cells and marks read as before -/
theorem bcell {W w1 : World} (hb : Below W.heap.size W w1) : (∀ b o, b < W.heap.size → w1.cell? ⟨b, o, none⟩ = W.cell? ⟨b, o, none⟩) ∧ (∀ b o, b < W.heap.size → w1.frozen? ⟨b, o, none⟩ = W.frozen? ⟨b, o, none⟩) :=
  ⟨fun b o h => hb.cell (p := ⟨b, o, none⟩) h, fun b o h => hb.frozen (p := ⟨b, o, none⟩) h⟩

set_option maxRecDepth 100000 in
/-- A contract on a written-out world, said of the world where it all began. -/
theorem Below.on {w W w1 : World} (h : Below w.heap.size w W) (hb : Below W.heap.size W w1) : Below w.heap.size w w1 := h.trans (hb.mono h.size)

/-- The stores of a whole value, cell by cell. -/
def setAll (w : World) (b : Nat) : Nat → List Value → World
  | _, [] => w
  | o, v :: vs => setAll (w.setCell ⟨b, o, none⟩ v) b (o + 1) vs

set_option maxRecDepth 100000 in
theorem Blk.setAll_other {b b' : Nat} {T : TypeId} {cs : Array Value} (hne : b ≠ b') : ∀ (vs : List Value) (o : Nat) (w : World), Blk w b' cs T → Blk (setAll w b o vs) b' cs T
  | [], _, _, h => h
  | v :: vs, o, _, h => Blk.setAll_other hne vs (o + 1) _ (h.other ⟨b, o, none⟩ hne v)
set_option maxRecDepth 100000 in
theorem Blk.setAll_at {b : Nat} {T : TypeId} : ∀ (vs : List Value) (o : Nat) (w : World) (cs : Array Value), Blk w b cs T → o + vs.length ≤ cs.size →
    ∃ cs' : Array Value, Blk (setAll w b o vs) b cs' T ∧ cs'.size = cs.size ∧ (∀ j, j < o → cs'[j]? = cs[j]?) ∧ (∀ j, o + vs.length ≤ j → cs'[j]? = cs[j]?) ∧ ∀ j, j < vs.length → cs'[o + j]? = vs[j]?
  | [], _, _, cs, h, _ => ⟨cs, h, rfl, fun _ _ => rfl, fun _ _ => rfl, fun j hj => by simp at hj⟩
  | v :: vs, o, w, cs, h, hl => by
    simp only [List.length_cons] at hl
    obtain ⟨cs', h1, h2, h3, h4, h5⟩ := Blk.setAll_at vs (o + 1) _ _ (h.set o v) (by simp; omega)
    refine ⟨cs', h1, by simpa using h2, fun j hj => ?_, fun j hj => ?_, fun j hj => ?_⟩
    · rw [h3 j (by omega), Array.getElem?_setIfInBounds_ne (by omega)]
    · simp only [List.length_cons] at hj
      rw [h4 j (by omega), Array.getElem?_setIfInBounds_ne (by omega)]
    · cases j with
      | zero =>
        rw [Nat.add_zero, h3 o (by omega)]
        have : o < cs.size := by omega
        simp [this]
      | succ j =>
        simp only [List.length_cons] at hj
        rw [show o + (j + 1) = o + 1 + j by omega, h5 j (by omega)]
        simp
set_option maxRecDepth 100000 in
theorem Blk.setAll_self {b : Nat} {T : TypeId} {w : World} {cs : Array Value} (h : Blk w b cs T) (vs : List Value) (hl : vs.length = cs.size) : Blk (setAll w b 0 vs) b vs.toArray T := by
  obtain ⟨cs', h1, h2, _, _, h5⟩ := Blk.setAll_at vs 0 w cs h (by omega)
  have : cs' = vs.toArray := by
    apply Array.ext_getElem?
    intro j
    rcases Nat.lt_or_ge j vs.length with hj | hj
    · have := h5 j hj
      rw [Nat.zero_add] at this
      rw [this]; simp
    · rw [Array.getElem?_eq_none (by omega), Array.getElem?_eq_none (by simp; omega)]
  rw [← this]; exact h1
set_option maxRecDepth 100000 in
theorem Below.setAll {B b : Nat} {w : World} (hb : B ≤ b) : ∀ (vs : List Value) (o : Nat) (w' : World), Below B w w' → Below B w (setAll w' b o vs)
  | [], _, _, h => h
  | v :: vs, o, _, h => Below.setAll hb vs (o + 1) _ (h.setCell (p := ⟨b, o, none⟩) hb v)

/-- As w was, but for block b: what a method leaves that writes to its receiver's block. -/
structure But (b : Nat) (w w' : World) : Prop where
  os : w'.os = w.os
  tape : w'.tape = w.tape
  output : w'.output = w.output
  size : w.heap.size ≤ w'.heap.size
  block : ∀ k, k < w.heap.size → k ≠ b → w'.heap[k]? = w.heap[k]?

set_option maxRecDepth 100000 in
theorem But.of {b : Nat} {w w' : World} (h : Below w.heap.size w w') : But b w w' := ⟨h.os, h.tape, h.output, h.size, fun k hk _ => h.block k hk⟩
set_option maxRecDepth 100000 in
theorem But.ext {b : Nat} {w w' w'' : World} (h : But b w w') (hb : Below w'.heap.size w' w'') : But b w w'' :=
  ⟨hb.os.trans h.os, hb.tape.trans h.tape, hb.output.trans h.output, Nat.le_trans h.size hb.size, fun k hk hne => (hb.block k (Nat.lt_of_lt_of_le hk h.size)).trans (h.block k hk hne)⟩
set_option maxRecDepth 100000 in
theorem But.set {b : Nat} {w w' : World} (h : But b w w') {p : Addr} (hp : p.block = b ∨ w.heap.size ≤ p.block) (v : Value) : But b w (w'.setCell p v) :=
  ⟨h.os, h.tape, h.output, by simpa [World.setCell] using h.size, fun k hk hne => by rw [Below.heap_setCell _ _ _ _ (by rcases hp with h | h <;> omega)]; exact h.block k hk hne⟩
set_option maxRecDepth 100000 in
theorem But.blk {b b' : Nat} {w w' : World} {cs : Array Value} {T : TypeId} (h : But b w w') (k : Blk w b' cs T) (hne : b' ≠ b) : Blk w' b' cs T := by
  have := k.lt
  unfold Blk at *
  rw [h.block _ this hne]; exact k
set_option maxRecDepth 100000 in
/-- where the block is one of the call's own -/
theorem But.below {b B : Nat} {w0 w w' : World} (h : But b w w') (h0 : Below B w0 w) (hB : B ≤ w.heap.size) (hb : B ≤ b) : Below B w0 w' :=
  h0.trans ⟨h.os, h.tape, h.output, h.size, fun k hk => h.block k (by omega) (by omega)⟩

end Go.Proofs.Ytmpgnpkodapidaa

namespace Go.Proofs.Ytmpgnpkodapidaa
open Go.RowKit

/-- An array of integers, as a value. -/
def ints (k : IntKind) (xs : List Int) : Value := .agg (xs.map (Value.int k)).toArray

section
variable {P : Program} {t e : TypeId} {n : Nat} {k : IntKind} {i : TypeInfo}

set_option maxRecDepth 100000 in
theorem run_part_ints (he : P.underlying e = some (.int k)) (xs : List Int) (j : Nat) (hj : j < xs.length) (w : World) : (part e (xs.map (Value.int k)).toArray j).run P w = .ok (.int k xs[j]) w :=
  run_part_plain w (by simp [Program.plainKey, he]) (by simp [hj])

set_option maxRecDepth 100000 in
theorem run_eqItems_ints (d : Nat) (he : P.underlying e = some (.int k)) (hc : P.cellsOf e = 1) (xs ys : List Int) (hl : xs.length = ys.length) (w : World) : ∀ (is : List Nat), (∀ j ∈ is, j < xs.length) →
    (Op.eqItems (d + 1) e (P.cellsOf e) (xs.map (Value.int k)).toArray (ys.map (Value.int k)).toArray is).run P w = .ok (decide (∀ j ∈ is, xs[j]? = ys[j]?)) w
  | [], _ => by simp [Op.eqItems]
  | j :: is, h => by
    have hj := h j (by simp)
    have hj' : j < ys.length := by omega
    have ih := run_eqItems_ints d he hc xs ys hl w is (fun q hq => h q (by simp [hq]))
    rw [hc] at ih ⊢
    simp only [Op.eqItems, Nat.mul_one, Sem.run_bind, run_part_ints he xs j hj, run_part_ints he ys j hj', Result.andThen_ok, run_equalIn_int w d e k k _ _ he]
    by_cases hq : xs[j] = ys[j]
    · simp only [hq, beq_self_eq_true, Bool.not_true, Bool.false_eq_true, if_false, ih, Result.ok.injEq, and_true, decide_eq_decide]
      simp [hj, hj', hq]
    · have : (xs[j] == ys[j]) = false := by simpa using hq
      simp [this, hj, hj', hq]

set_option maxRecDepth 100000 in
/-- '==' of two arrays of integers. -/
theorem run_eql_ints (hu : P.underlying t = some (.array n e)) (he : P.underlying e = some (.int k)) (hi : P.info? e = some i) (hc : P.cellsOf e = 1) (xs ys : List Int) (hx : xs.length = n) (hy : ys.length = n) (w : World) :
    (binOp .eql t (ints k xs) (ints k ys)).run P w = .ok (.bool (decide (xs = ys))) w := by
  unfold ints
  rw [run_eql_struct, run_equalIn_array w 9999 _ _ hu hi, run_eqItems_ints 9998 he hc xs ys (by omega) w _ (by simp; omega)]
  simp only [Result.andThen_ok, Result.ok.injEq, Value.bool.injEq, and_true, decide_eq_decide, List.mem_range]
  constructor
  · intro h
    apply List.ext_getElem?
    intro j
    rcases Nat.lt_or_ge j n with hj | hj
    · exact h j hj
    · rw [List.getElem?_eq_none (by omega), List.getElem?_eq_none (by omega)]
  · rintro rfl _ _; rfl

set_option maxRecDepth 100000 in
/-- '!=' of two arrays of integers. -/
theorem run_neq_ints (hu : P.underlying t = some (.array n e)) (he : P.underlying e = some (.int k)) (hi : P.info? e = some i) (hc : P.cellsOf e = 1) (xs ys : List Int) (hx : xs.length = n) (hy : ys.length = n) (w : World) :
    (binOp .neq t (ints k xs) (ints k ys)).run P w = .ok (.bool (!decide (xs = ys))) w := by
  have h := run_eql_ints (t := t) hu he hi hc xs ys hx hy w
  unfold ints at *
  rw [run_eql_struct] at h
  rw [run_neq_struct]
  generalize (Op.equalIn 10000 t (.agg (xs.map (Value.int k)).toArray) (.agg (ys.map (Value.int k)).toArray)).run P w = r at *
  cases r with
  | ok b w' => simp at h ⊢; obtain ⟨rfl, rfl⟩ := h; simp
  | halt x w' => simp [Result.andThen] at h
end
end Go.Proofs.Ytmpgnpkodapidaa

namespace Go.Proofs.Ytmpgnpkodapidaa
open Go.RowKit

/-- n zeros, as cells -/
def zeros (k : IntKind) (n : Nat) : Array Value := (List.replicate n (Value.int k 0)).toArray

set_option maxRecDepth 100000 in
theorem zeros_ints (k : IntKind) (n : Nat) : zeros k n = ((List.replicate n (0 : Int)).map (Value.int k)).toArray := by simp [zeros]
set_option maxRecDepth 100000 in
theorem ints_one (k : IntKind) (xs : List Int) : (xs.map (Value.int k)).toArray.all (·.oneCell') = true :=
  all_oneCell_toArray fun v hv => by simp only [List.mem_map] at hv; obtain ⟨x, _, rfl⟩ := hv; rfl

set_option maxRecDepth 100000 in
/-- An element of an array of integers. -/
theorem run_index_ints {P : Program} {t e : TypeId} {n : Nat} {k k' : IntKind} {i : TypeInfo} (hu : P.underlying t = some (.array n e)) (he : P.underlying e = some (.int k)) (hi : P.info? e = some i) (hs : i.size = 1) (xs : List Int) (hx : xs.length = n)
    (j : Nat) (hj : j < n) (w : World) : (Instr.index t (.agg (xs.map (Value.int k)).toArray) (.int k' j)).run P w = .ok (.int k (xs.getD j 0)) w := by
  have hp := run_part_ints (P := P) he xs j (by omega) w
  have hlt : (0 : Int) ≤ j ∧ (j : Int) < n := by omega
  have hjx : j < xs.length := by omega
  unfold Instr.index
  simp [asIntOf, Sem.run_bind, run_underlying hu, hlt, sizeOf, typeInfo, hi, hs, hp, hjx]
  intro h; omega

set_option maxRecDepth 100000 in
/-- The cells of a block that was just made, as the append's law asks for them. -/
theorem news_new (w : World) (cs : List Value) (T : TypeId) : ∀ (j : Nat) (u : Value), cs[j]? = some u → (w.alloc (.cells cs.toArray T (0, 0))).cell? ((⟨w.heap.size, 0, none⟩ : Addr).add j) = some u := by
  intro j u h
  rw [Addr.add_mid, Nat.zero_add, (Blk.new rfl cs.toArray T : Blk (w.alloc _) w.heap.size cs.toArray T).cell]
  simpa using h

set_option maxRecDepth 100000 in
/-- What the call owns it owns where all that was there stays. -/
theorem owns_below {w w' : World} {base : Nat} {e : TypeId} {size : Nat} {v : Value} {n : Nat} {xs : List Value} (h : w.ownsRow base e size v n xs) (hb : Below w.heap.size w w') : w'.ownsRow base e size v n xs := by
  refine h.kept (row := none) ⟨hb.os, hb.tape, hb.output, hb.size, fun k hk _ => hb.block k hk⟩ ?_
  cases hq : v.ownBlock
  · exact .inl rfl
  · exact .inr (by simp)

set_option maxRecDepth 100000 in
/-- The cells of a block, as the append's law asks for them. -/
theorem news_blk {w : World} {b : Nat} {cs : List Value} {T : TypeId} (h : Blk w b cs.toArray T) : ∀ (j : Nat) (u : Value), cs[j]? = some u → w.cell? ((⟨b, 0, none⟩ : Addr).add j) = some u := by
  intro j u hj
  rw [Addr.add_mid, Nat.zero_add, h.cell]
  simpa using hj

set_option maxRecDepth 100000 in
/-- A block below an append's own row is as it was. -/
theorem Blk.grown {w w' : World} {b : Nat} {cs : Array Value} {T : TypeId} {row : Option Nat} (h : Blk w b cs T) (hg : w.grownBy w' row) (hr : ∀ q, row = some q → b ≠ q) : Blk w' b cs T := by
  have := h.lt
  unfold Blk at *
  rw [hg.block _ this (fun e => hr _ e.symm rfl)]; exact h

section
variable {P : Program} {ops : Array Oper} {rest : List Oper} {op : Oper} {a : Act} {w : World} {Q : Exit → Act → World → Prop}

set_option maxRecDepth 100000 in
theorem Blk.rangeAt {b : Nat} {cs : Array Value} {T : TypeId} (h : Blk w b cs T) : w.rangeAt b 0 cs.toList := fun j v hv => by
  rw [Nat.zero_add, h.cell j]; simpa using hv
set_option maxRecDepth 100000 in
theorem Blk.there {b n : Nat} {cs : Array Value} {T : TypeId} (h : Blk w b cs T) (hn : n ≤ cs.size) : w.there b 0 n := fun j hj =>
  ⟨by rw [Nat.zero_add, h.cell j, Array.getElem?_eq_getElem (by omega)]; rfl, h.free _⟩

set_option maxRecDepth 100000 in
/-- A whole variable is read. -/
theorem wpList_load_blk (hgd : op.guard = none) (ty : TypeId) (x : Operand) (ho : op.op = .load ty x) (b : Nat) (hx : a.eval x = .pointer (some ⟨b, 0, none⟩)) (cs : Array Value) (T : TypeId) (hk : Blk w b cs T)
    (d : TypeDesc) (hu : P.underlying ty = some d) (hd : d.isRow = true) (n : Nat) (hi : (P.info? ty).map (·.size) = some n) (hs : cs.size = n)
    (h : wpList P ops Q rest (a.put op.dst (.agg cs)) w) : wpList P ops Q (op :: rest) a w :=
  wpList_load_mid hgd ty x ho b 0 hx cs.toList d hk.rangeAt hu hd (by rw [hi]; simp [hs]) (by simpa using h)

set_option maxRecDepth 100000 in
/-- .. behind a guard that holds -/
theorem wpList_load_blk_if (hw : Region.wanted op (yielded ops a.tmps) = true) (ty : TypeId) (x : Operand) (ho : op.op = .load ty x) (b : Nat) (hx : a.eval x = .pointer (some ⟨b, 0, none⟩)) (cs : Array Value) (T : TypeId) (hk : Blk w b cs T)
    (d : TypeDesc) (hu : P.underlying ty = some d) (hd : d.isRow = true) (n : Nat) (hi : (P.info? ty).map (·.size) = some n) (hs : cs.size = n)
    (h : wpList P ops Q rest (a.put op.dst (.agg cs)) w) : wpList P ops Q (op :: rest) a w := by
  unfold wpList
  rw [if_pos hw]
  exact .inl (wp_load_mid ty x ho b 0 hx cs.toList d hk.rangeAt hu hd (by rw [hi]; simp [hs]) (by simpa using h))

set_option maxRecDepth 100000 in
theorem But.setCells {b : Nat} {w0 : World} : ∀ (vs : List Value) (o : Nat) (w : World), But b w0 w → But b w0 (w.setCells b o vs)
  | [], _, _, h => h
  | v :: vs, o, w, h => by
    rw [World.setCells]
    exact But.setCells vs (o + 1) _ (h.set (p := ⟨b, o, none⟩) (.inl rfl) v)

set_option maxRecDepth 100000 in
theorem setCells_is : ∀ (vs : List Value) (b o : Nat) (w : World), w.setCells b o vs = setAll w b o vs
  | [], _, _, _ => rfl
  | v :: vs, b, o, w => by rw [World.setCells]; exact setCells_is vs b (o + 1) _

set_option maxRecDepth 100000 in
/-- A whole variable is written: all else stays. -/
theorem wpList_store_blk (hgd : op.guard = none) (ty : TypeId) (x y : Operand) (ho : op.op = .store ty x y) (b : Nat) (cells : Array Value) (hx : a.eval x = .pointer (some ⟨b, 0, none⟩)) (hy : a.eval y = .agg cells)
    (cs : Array Value) (T : TypeId) (hk : Blk w b cs T) (n : Nat) (hi : (P.info? ty).map (·.size) = some n) (hs : cs.size = n) (hn : cells.size = n) (h1 : cells.all (·.oneCell') = true)
    (h : ∀ w', But b w w' → Blk w' b cells T → wpList P ops Q rest (a.put op.dst undef) w') : wpList P ops Q (op :: rest) a w := by
  refine wpList_store_mid hgd ty x y ho b 0 cells hx hy (hk.there (by omega)) (by rw [hi, hn]) h1 (h _ (But.setCells _ _ _ (But.of (Below.refl _ _))) ?_)
  rw [setCells_is]
  have := hk.setAll_self cells.toList (by simp; omega)
  simpa using this

set_option maxRecDepth 100000 in
/-- .. in a region that draws its order -/
theorem quiet_load_blk {C : World → Prop} {K : Act → Prop} (ty : TypeId) (x : Operand) (ho : op.op = .load ty x) (b : Nat) (hx : a.eval x = .pointer (some ⟨b, 0, none⟩)) (cs : Array Value)
    (hk : ∀ w', C w' → ∃ T, Blk w' b cs T) (d : TypeDesc) (hu : P.underlying ty = some d) (hd : d.isRow = true) (n : Nat) (hi : (P.info? ty).map (·.size) = some n) (hs : cs.size = n)
    (h : K (a.put op.dst (.agg cs))) : op.quiet P a C K :=
  ⟨.agg cs, fun w' hw' => by
    obtain ⟨T, hb⟩ := hk w' hw'
    unfold Oper.quietAt execOp
    simp only [ho, hx, Instr.loadAt, Instr.sureAddr, Sem.run_bind, Sem.run_pure, Result.andThen_ok, run_loadVar_mid w' b 0 ty cs.toList d hb.rangeAt hu hd (by rw [hi]; simp [hs])]
    simp [Oper.quietUpon], h⟩

set_option maxRecDepth 100000 in
/-- What a function that answers an array hands back. -/
theorem results_blk {fn : Func} {p : Tmp} {ty : TypeId} (h : fn.results = #[.cell p ty]) (tmps : Array Value) (b : Nat) (hp : tmps.getD p undef = .pointer (some ⟨b, 0, none⟩)) (cs : Array Value) (T : TypeId) (hk : Blk w b cs T)
    (d : TypeDesc) (hu : P.underlying ty = some d) (hd : d.isRow = true) (n : Nat) (hi : (P.info? ty).map (·.size) = some n) (hs : cs.size = n) : (results fn tmps).run P w = .ok (.agg cs) w := by
  exact results_cell_row h tmps w b T cs (0, 0) d hp hk hu (by cases d <;> simp_all) (by rw [hi, hs])

set_option maxRecDepth 100000 in
/-- .. an array and one value more. -/
theorem results_blk_tmp {fn : Func} {p u : Tmp} {ty : TypeId} (h : fn.results = #[.cell p ty, .tmp u]) (tmps : Array Value) (b : Nat) (hp : tmps.getD p undef = .pointer (some ⟨b, 0, none⟩)) (v : Value) (hv : tmps.getD u undef = v) (cs : Array Value) (T : TypeId) (hk : Blk w b cs T)
    (d : TypeDesc) (hu : P.underlying ty = some d) (hd : d.isRow = true) (n : Nat) (hi : (P.info? ty).map (·.size) = some n) (hs : cs.size = n) : (results fn tmps).run P w = .ok (.tuple #[.agg cs, v]) w := by
  have hp' : tmps[p]?.getD undef = .pointer (some ⟨b, 0, none⟩) := by simpa using hp
  have hv' : tmps[u]?.getD undef = v := by simpa using hv
  have hl := run_loadVar_row (P := P) w b T ty cs (0, 0) d hk hu (by cases d <;> simp_all) (by rw [hi, hs])
  simp [results, h, hp', hv', asAddr, hl]

end
end Go.Proofs.Ytmpgnpkodapidaa

namespace Go.Proofs.Ytmpgnpkodapidaa
open Go.RowKit

/-- the k bytes of a number, the highest first -/
def be : Nat → Int → List Int
  | 0, _ => []
  | k + 1, n => be k (n / 256) ++ [n % 256]

set_option maxRecDepth 100000 in
theorem be_length : ∀ (k : Nat) (n : Int), (be k n).length = k
  | 0, _ => rfl
  | k + 1, n => by simp [be, be_length k]
set_option maxRecDepth 100000 in
theorem be_zero : ∀ k : Nat, be k 0 = List.replicate k 0
  | 0 => rfl
  | k + 1 => by rw [be, Int.zero_ediv, be_zero k, Int.zero_emod, ← List.replicate_succ']
set_option maxRecDepth 100000 in
theorem be_small : ∀ (k : Nat) (n : Int), ∀ x ∈ be k n, 0 ≤ x ∧ x < 256
  | 0, _ => by simp [be]
  | k + 1, n => by
    intro x hx
    simp only [be, List.mem_append, List.mem_cons, List.not_mem_nil, or_false] at hx
    rcases hx with h | rfl
    · exact be_small k _ x h
    · omega
set_option maxRecDepth 100000 in
/-- the next byte ahead of those that are there -/
theorem be_front : ∀ (j : Nat) (n : Int), be (j + 1) n = (n / (256 : Int) ^ j % 256) :: be j n
  | 0, n => by simp [be]
  | j + 1, n => by
    rw [be, be_front j (n / 256)]
    have : n / 256 / (256 : Int) ^ j = n / (256 : Int) ^ (j + 1) := by
      rw [Int.ediv_ediv_of_nonneg (by omega), Int.pow_succ, Int.mul_comm]
    rw [this]
    simp [be]

set_option maxRecDepth 100000 in
theorem replicate_set (m : Nat) (l : List Int) (x : Int) : (List.replicate (m + 1) 0 ++ l).set m x = List.replicate m 0 ++ (x :: l) := by
  rw [List.replicate_succ', List.append_assoc, List.set_append_right _ _ (by simp)]
  simp

/-- the number that bytes are -/
def numOf (bs : List Int) : Int := bs.foldl (fun n x => 256 * n + x) 0
set_option maxRecDepth 100000 in
theorem numOf_snoc (bs : List Int) (x : Int) : numOf (bs ++ [x]) = 256 * numOf bs + x := by simp [numOf]
set_option maxRecDepth 100000 in
theorem numOf_be : ∀ (k : Nat) (n : Int), numOf (be k n) = n % (256 : Int) ^ k
  | 0, n => by simp [be, numOf, Int.emod_one]
  | k + 1, n => by
    rw [be, numOf_snoc, numOf_be k]
    rw [Int.pow_succ]
    generalize (256 : Int) ^ k = p
    have h1 := Int.mul_ediv_add_emod n (p * 256)
    have h2 := Int.mul_ediv_add_emod (n / 256) p
    have h3 : n / 256 / p = n / (p * 256) := by rw [Int.ediv_ediv_of_nonneg (by omega), Int.mul_comm]
    rw [h3] at h2
    rw [Int.mul_assoc, Int.mul_left_comm] at h1
    omega

/-- Block g begins with these bytes. -/
def Row8 (w : World) (g : Nat) (bs : List Int) : Prop := ∃ cs T, Blk w g cs T ∧ ∀ i, i < bs.length → cs[i]? = some (.int .u8 (bs.getD i 0))

set_option maxRecDepth 100000 in
theorem Row8.below {w w' : World} {g : Nat} {bs : List Int} (h : Row8 w g bs) (hb : Below w.heap.size w w') : Row8 w' g bs := by
  obtain ⟨cs, T, hk, hc⟩ := h
  exact ⟨cs, T, hk.below hb, hc⟩
set_option maxRecDepth 100000 in
theorem Row8.old {w : World} {g : Nat} {bs : List Int} (h : Row8 w g bs) (o : Obj) : Row8 (w.alloc o) g bs := by
  obtain ⟨cs, T, hk, hc⟩ := h
  exact ⟨cs, T, hk.old o, hc⟩
set_option maxRecDepth 100000 in
theorem Row8.cell {w : World} {g : Nat} {bs : List Int} (h : Row8 w g bs) (i : Nat) (hi : i < bs.length) : w.cell? ⟨g, i, none⟩ = some (.int .u8 (bs.getD i 0)) := by
  obtain ⟨cs, T, hk, hc⟩ := h
  rw [hk.cell]; exact hc i hi
set_option maxRecDepth 100000 in
theorem Row8.of_blk {w : World} {g : Nat} {bs : List Int} {T : TypeId} (h : Blk w g (bs.map (Value.int .u8)).toArray T) : Row8 w g bs :=
  ⟨_, T, h, fun i hi => by simp [hi]⟩
set_option maxRecDepth 100000 in
theorem Row8.of_owns {w : World} {base e g n cap : Nat} {bs : List Int} (h : w.ownsRow base e 1 (.slice (some ⟨g, 0, none⟩) n cap) n (bs.map (Value.int .u8))) : base ≤ g ∧ Row8 w g bs := by
  obtain ⟨hl, h | ⟨g', cap', cur, hv, hg, hh, _, _, hs, htk⟩⟩ := h
  · simp at h
  · simp only [Value.slice.injEq, Option.some.injEq, Addr.mk.injEq, true_and, and_true] at hv
    obtain ⟨rfl, rfl⟩ := hv
    refine ⟨hg, cur, e, hh, fun i hi => ?_⟩
    have h1 : (List.map (Value.int .u8) bs)[i]? = some (.int .u8 (bs.getD i 0)) := by simp [hi]
    simp only [List.length_map] at hl
    rw [← htk, List.getElem?_take, if_pos (by omega)] at h1
    simpa using h1

set_option maxRecDepth 100000 in
/-- The string that such bytes make. -/
theorem Row8.string {P : Program} {w : World} {g cap : Nat} {bs : List Int} {src dst e : TypeId} (h : Row8 w g bs) (hs : P.underlying src = some (.slice e)) (he : P.underlying e = some (.int .u8)) (hd : P.underlying dst = some .string) :
    (convert src dst (.slice (some ⟨g, 0, none⟩) bs.length cap)).run P w = .ok (.string (strOfNums bs)) w :=
  run_convert_bytes_arg w src e hs he g 0 bs.length cap bs rfl (fun i hi => by rw [Nat.zero_add]; exact h.cell i hi) dst hd

end Go.Proofs.Ytmpgnpkodapidaa

namespace Go.Proofs.Ytmpgnpkodapidaa
open Go.ChangeShapes Go.WideShapes Go.ChangeAt Go.RowKit

set_option maxRecDepth 100000 in
theorem open_array_ints {H : Type} {enc : TypeId × Value → H} {P : Program} {W : World} {base : Nat} {t e : TypeId} {n : Nat} {k : IntKind} {v : Value} {d : DataW H} {p : List MemPlace} (hu : P.underlying t = some (.array n e)) (he : P.underlying e = some (.int k))
    (hc : P.cellsOf e = 1) (hct : P.cellsOf t = n) (hv : Value.okWide P W .any base t v) (h : DataW.Trod enc P W 0 (fun _ => true) true t v d p) :
    ∃ xs : List Int, xs.length = n ∧ v = ints k xs ∧ ∀ x ∈ xs, (Lit.int k x).wf = true := by
  unfold Value.okWide at hv
  rw [hu] at hv
  obtain ⟨cs, rfl, hsz, _⟩ := hv
  obtain ⟨fuel, hf⟩ := h
  have hf : DataW.trod enc P W 0 (fun _ => true) true fuel t cs.toList = some (d, p) := hf
  obtain ⟨ys, m, _, _, hl, hyl, hel⟩ := DataW.trod_array hu hf
  have key : ∀ (j : Nat), j < n → ∃ x : Int, cs.toList[j]? = some (.int k x) ∧ (Lit.int k x).wf = true := by
    intro j hj
    have h1 := hel j hj
    have hjl : j < cs.toList.length := by omega
    rw [hc, Nat.mul_one] at h1
    obtain ⟨y, hy⟩ : ∃ y, ys[j]? = some y := ⟨_, List.getElem?_eq_getElem (by omega)⟩
    rw [hy] at h1
    have e1 : (cs.toList.drop j).take 1 = [cs.toList[j]] := by
      rw [List.drop_eq_getElem_cons hjl]
      simp
    rw [e1] at h1
    obtain ⟨a, e0, _, wa⟩ := DataW.trod_int he h1
    simp only [List.cons.injEq, and_true] at e0
    exact ⟨a, by rw [List.getElem?_eq_getElem hjl, e0], wa⟩
  refine ⟨cs.toList.map fun v => match v with | .int _ x => x | _ => 0, ?_, ?_, ?_⟩
  · simp; omega
  · unfold ints
    congr 1
    apply Array.ext_getElem?
    intro j
    rcases Nat.lt_or_ge j n with hj | hj
    · obtain ⟨x, hx, _⟩ := key j hj
      have hx' : cs[j]? = some (.int k x) := by simpa using hx
      simp [hx']
    · rw [Array.getElem?_eq_none (by omega), Array.getElem?_eq_none (by simp; omega)]
  · intro x hx
    simp only [List.mem_map] at hx
    obtain ⟨v, hv, rfl⟩ := hx
    obtain ⟨j, hj, rfl⟩ := List.getElem_of_mem hv
    obtain ⟨x, hx, hw⟩ := key j (by simp only [Array.length_toList] at hj; omega)
    rw [List.getElem?_eq_getElem hj] at hx
    rw [Option.some.inj hx]
    exact hw

set_option maxRecDepth 100000 in
/-- A slice of integers that comes in: it is nil; or its elements lie in a row of a block that is there. -/
theorem open_row_ints {H : Type} {enc : TypeId × Value → H} {P : Program} {W : World} {base : Nat} {t e : TypeId} {k : IntKind} {v : Value} {d : DataW H} {p : List MemPlace} (hu : P.underlying t = some (.slice e)) (he : P.underlying e = some (.int k))
    (hc : P.cellsOf e = 1) (hv : Value.okWide P W .any base t v) (h : DataW.Trod enc P W 0 (fun _ => true) true t v d p) :
    ∃ (a : Option Addr) (len cap : Nat) (zs : List Int), v = .slice a len cap ∧ zs.length = len ∧ len ≤ cap ∧ cap ≤ maxLen ∧ (∀ z ∈ zs, (Lit.int k z).wf = true) ∧ ((a = none ∧ len = 0 ∧ cap = 0) ∨ ∃ b off s, a = some ⟨b, off, s⟩ ∧ ∀ i, i < len → s = none ∧ b < W.heap.size ∧ W.cell? ⟨b, off + i, none⟩ = some (.int k (zs.getD i 0))) := by
  obtain ⟨a, len, cap, rfl⟩ := okWide_slice hu hv
  obtain ⟨fuel, hf⟩ := h
  rcases open_ints hu he hc hf with ⟨hcs, _⟩ | ⟨x, l, c, zs, hcs, _, hl, hm, hz, _, hcell, hwz⟩
  · simp [Value.cells] at hcs
    obtain ⟨rfl, rfl, rfl⟩ := hcs
    exact ⟨none, 0, 0, [], rfl, rfl, Nat.le_refl _, Nat.zero_le _, by simp, .inl ⟨rfl, rfl, rfl⟩⟩
  · simp [Value.cells] at hcs
    obtain ⟨rfl, rfl, rfl⟩ := hcs
    obtain ⟨b, off, s⟩ := x
    have hz' : zs.length = cap := by simpa using hz
    refine ⟨_, len, cap, zs.take len, rfl, by simp; omega, hl, hm, fun z hz => hwz z (List.mem_of_mem_take hz), .inr ⟨b, off, s, rfl, fun i hi => ?_⟩⟩
    have h0 := hcell i (by omega)
    have hs : s = none := by
      have h00 := hcell 0 (by omega)
      have := World.cell?_spot h00
      simpa [Addr.add] using this
    subst hs
    rw [Addr.add_mid] at h0
    refine ⟨rfl, World.block_lt_of_cell? W _ h0, ?_⟩
    rw [h0]
    simp [hi]

set_option maxRecDepth 100000 in
theorem wf_u64 {x : Int} (h : (Lit.int .u64 x).wf = true) : 0 ≤ x ∧ x < 18446744073709551616 := by
  simp [Lit.wf, IntKind.min, IntKind.max, IntKind.signed, IntKind.bits] at h; omega
set_option maxRecDepth 100000 in
theorem wf_u32 {x : Int} (h : (Lit.int .u32 x).wf = true) : 0 ≤ x ∧ x < 4294967296 := by
  simp [Lit.wf, IntKind.min, IntKind.max, IntKind.signed, IntKind.bits] at h; omega
set_option maxRecDepth 100000 in
theorem wf_u16 {x : Int} (h : (Lit.int .u16 x).wf = true) : 0 ≤ x ∧ x < 65536 := by
  simp [Lit.wf, IntKind.min, IntKind.max, IntKind.signed, IntKind.bits] at h; omega
set_option maxRecDepth 100000 in
theorem wf_u8 {x : Int} (h : (Lit.int .u8 x).wf = true) : 0 ≤ x ∧ x < 256 := by
  simp [Lit.wf, IntKind.min, IntKind.max, IntKind.signed, IntKind.bits] at h; omega
set_option maxRecDepth 100000 in
theorem wf_i64 {x : Int} (h : (Lit.int .i64 x).wf = true) : -9223372036854775808 ≤ x ∧ x < 9223372036854775808 := by
  simp [Lit.wf, IntKind.min, IntKind.max, IntKind.signed, IntKind.bits] at h; omega
end Go.Proofs.Ytmpgnpkodapidaa
