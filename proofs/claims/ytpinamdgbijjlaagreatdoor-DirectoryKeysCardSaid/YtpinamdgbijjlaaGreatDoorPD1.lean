/-
  Put together, as far as wanted: JMBase JMPhases JNFlow JNFlowB JNLate JSNLate.
-/
import Derived.Deep.Quiet
import Derived.StillTail
import Derived.Below
import Derived.Test.YtpinamdgbijjlaaGreatDoorProg
import Derived.WalkKit
import Derived.ProofKit
import Derived.OpenShut
import Derived.WalkSpells
import Derived.WalkLawsBesides
import Derived.Handy
import Derived.Outline
import Derived.Deep.QuietTactic
import Derived.BigQuiet
import Derived.ChangeKeysEq
import Derived.Deep.MidRow
import Derived.Laws.BytesArg
import Derived.Deep.Slices
import Derived.ChangeSame
import Derived.Deep.Matrix
import Derived.OwnWalk
import Derived.Maps.AppendAt
import Derived.Lib.AppendZerosOnto
import Derived.Laws.BitsAllLaws
import Derived.Laws.CopyOwn
import Derived.Lib.SliceRun
import Derived.Lib.Bytes
import Derived.Lib.SlBytesConst
import Derived.Test.YtpinamdgbijjlaaGreatDoorRows
import Derived.HandedShaped
import Derived.Carry
import Derived.Test.YtpinamdgbijjlaaGreatDoorCards
import Derived.Test.YtpinamdgbijjlaaGreatDoorTie
import Derived.LaidMore
import Derived.Stop.Joined
import Derived.SevenTiedAt
import Derived.Lib.LaidTab
import Derived.Stop.LaidErr
import Derived.OrdersHeld
import Derived.Deep.Strs
import Derived.Lib.SmallJoins
namespace Go.Proofs.YtpinamdgbijjlaaGreatDoor
set_option maxRecDepth 100000
open Go.RowKit
section
variable {P : Program} {ops : Array Oper} {md : Region.Mode}
/-- two acts that an operation cannot tell apart -/
structure Same (ops : Array Oper) (o : Oper) (a a' : Act) : Prop where
  tmps : ∀ d, d ∈ o.looksAt ops → a.tmps[d]? = a'.tmps[d]?
theorem Same.refl {o : Oper} {a : Act} : Same ops o a a := ⟨fun _ _ => rfl⟩
theorem Same.put {o : Oper} {a a' : Act} (h : Same ops o a a') (hs : a.tmps.size = a'.tmps.size) (d : Option Tmp) (v : Value) : Same ops o (a.put d v) (a'.put d v) := by
  cases d with
  | none => exact h
  | some d =>
    refine ⟨fun e he => ?_⟩
    simp only [Act.put]
    rw [Array.getElem?_setIfInBounds, Array.getElem?_setIfInBounds, hs, h.tmps e he]
theorem Same.left {o : Oper} {a a' : Act} (h : Same ops o a a') (d : Option Tmp) (v : Value) (hd : ∀ e, d = some e → e ∉ o.looksAt ops) : Same ops o (a.put d v) a' := by
  cases d with
  | none => exact h
  | some d =>
    refine ⟨fun e he => ?_⟩
    have hne : d ≠ e := fun h => hd d rfl (h ▸ he)
    simp only [Act.put]
    rw [Array.getElem?_setIfInBounds_ne hne]
    exact h.tmps e he
theorem Same.right {o : Oper} {a a' : Act} (h : Same ops o a a') (d : Option Tmp) (v : Value) (hd : ∀ e, d = some e → e ∉ o.looksAt ops) : Same ops o a (a'.put d v) := by
  cases d with
  | none => exact h
  | some d =>
    refine ⟨fun e he => ?_⟩
    have hne : d ≠ e := fun h => hd d rfl (h ▸ he)
    simp only [Act.put]
    rw [Array.getElem?_setIfInBounds_ne hne]
    exact h.tmps e he
theorem Same.exec {o : Oper} {a a' : Act} (h : Same ops o a a') (hs : ∀ cs b, o.op ≠ .select cs b) : execOp a.eval o = execOp a'.eval o :=
  execOp_congr o hs fun x hx => by
    cases x with
    | tmp t =>
      have : t ∈ o.looksAt ops := List.mem_append_left _ (List.mem_filterMap.2 ⟨.tmp t, by simpa using hx, rfl⟩)
      simp [Act.eval, h.tmps t this]
    | _ => rfl
theorem Same.wanted {o : Oper} {a a' : Act} (h : Same ops o a a') : Region.wanted o (yielded ops a.tmps) = Region.wanted o (yielded ops a'.tmps) := by
  unfold Region.wanted
  cases hg : o.guard with
  | none => rfl
  | some gw =>
    obtain ⟨g, want⟩ := gw
    have hy : yielded ops a.tmps g = yielded ops a'.tmps g := by
      unfold yielded
      cases ht : (ops[g]?).bind (·.dst) with
      | none => rfl
      | some t =>
        have : t ∈ o.looksAt ops := by simp [Oper.looksAt, hg, ht]
        simp [h.tmps t this]
    simp only [hy]
theorem Same.yields {C : World → Prop} {o : Oper} {v : Value} {a a' : Act} (h : Same ops o a' a) (hs : ∀ cs b, o.op ≠ .select cs b) (hy : YieldsIn P ops C o v a) : YieldsIn P ops C o v a' :=
  hy.of_same (h.exec hs) h.wanted
theorem put_size (a : Act) (d : Option Tmp) (v : Value) : (a.put d v).tmps.size = a.tmps.size := by cases d <;> simp [Act.put]
/-- Those of the operations that 'f' names (by their places, from i on) have come up, and left these values. -/
def stF : List (Option Tmp × Value) → (Nat → Bool) → Nat → Act → Act
  | [], _, _, a => a
  | (d, v) :: l, f, i, a => stF l f (i + 1) (if f i then a.put d v else a)
theorem stF_size (l : List (Option Tmp × Value)) : ∀ (f : Nat → Bool) (i : Nat) (a : Act), (stF l f i a).tmps.size = a.tmps.size := by
  induction l with
  | nil => intros; rfl
  | cons x l ih =>
    intro f i a
    obtain ⟨d, v⟩ := x
    simp only [stF]
    rw [ih]
    split
    · exact put_size _ _ _
    · rfl
theorem stF_congr (l : List (Option Tmp × Value)) : ∀ (f g : Nat → Bool) (i : Nat) (a : Act), (∀ j, i ≤ j → f j = g j) → stF l f i a = stF l g i a := by
  induction l with
  | nil => intros; rfl
  | cons x l ih =>
    intro f g i a h
    obtain ⟨d, v⟩ := x
    simp only [stF]
    rw [h i (Nat.le_refl _), ih f g (i + 1) _ (fun j hj => h j (by omega))]
/-- One more has come up. -/
theorem stF_put (l : List (Option Tmp × Value)) (d : Option Tmp) (v : Value) : ∀ (f : Nat → Bool) (i : Nat) (a : Act), (∀ x ∈ l, ∀ e, d = some e → x.1 ≠ some e) →
    stF l f i (a.put d v) = (stF l f i a).put d v := by
  induction l with
  | nil => intros; rfl
  | cons x l ih =>
    intro f i a h
    obtain ⟨d', v'⟩ := x
    simp only [stF]
    split
    · rw [Act.put_comm a v v' (fun e he => h (d', v') (by simp) e he), ih f (i + 1) _ (fun x hx => h x (by simp [hx]))]
    · rw [ih f (i + 1) _ (fun x hx => h x (by simp [hx]))]
theorem stF_set (l : List (Option Tmp × Value)) : ∀ (f g : Nat → Bool) (i k : Nat) (x : Option Tmp × Value) (a : Act), l[k]? = some x → (∀ j, j ≠ i + k → g j = f j) → f (i + k) = false → g (i + k) = true →
    (l.Pairwise fun x y => ∀ e, x.1 = some e → y.1 ≠ some e) → stF l g i a = (stF l f i a).put x.1 x.2 := by
  induction l with
  | nil => intro f g i k x a h; simp at h
  | cons y l ih =>
    intro f g i k x a hk hfg hf hg hp
    obtain ⟨d, v⟩ := y
    simp only [stF]
    rw [List.pairwise_cons] at hp
    cases k with
    | zero =>
      simp at hk
      subst hk
      rw [Nat.add_zero] at hf hg
      rw [hf, hg]
      simp only [if_true, Bool.false_eq_true, if_false]
      rw [stF_put l d v g (i + 1) a (fun x hx e he => hp.1 x hx e he)]
      congr 1
      exact stF_congr l _ _ _ _ (fun j hj => hfg j (by omega))
    | succ k =>
      have hk' : l[k]? = some x := by simpa using hk
      rw [hfg i (by omega)]
      exact ih f g (i + 1) k x _ hk' (fun j hj => hfg j (by omega)) (by rw [← hf]; congr 1; omega) (by rw [← hg]; congr 1; omega) hp.2
/-- Two states in which other operations have come up are the same to one that looks at none of those. -/
theorem stF_same {o : Oper} (l : List (Option Tmp × Value)) : ∀ (f g : Nat → Bool) (i : Nat) (a a' : Act), Same ops o a a' → a.tmps.size = a'.tmps.size →
    (∀ k d v, l[k]? = some (some d, v) → f (i + k) ≠ g (i + k) → d ∉ o.looksAt ops) → Same ops o (stF l f i a) (stF l g i a') := by
  induction l with
  | nil => intro f g i a a' h _ _; exact h
  | cons x l ih =>
    intro f g i a a' h hs hd
    obtain ⟨d, v⟩ := x
    simp only [stF]
    have hrest : ∀ k d v, l[k]? = some (some d, v) → f (i + 1 + k) ≠ g (i + 1 + k) → d ∉ o.looksAt ops := fun k d v hk hne => by
      refine hd (k + 1) d v (by simpa using hk) ?_
      rw [show i + (k + 1) = i + 1 + k by omega]; exact hne
    by_cases hfg : f i = g i
    · rw [hfg]
      split
      · exact ih f g (i + 1) _ _ (h.put hs d v) (by rw [put_size, put_size, hs]) hrest
      · exact ih f g (i + 1) _ _ h hs hrest
    · have hnot : ∀ e, d = some e → e ∉ o.looksAt ops := fun e he => hd 0 e v (by simp [he]) (by simpa using hfg)
      cases hf : f i <;> cases hg : g i
      · simp [hf, hg] at hfg
      · simp only [Bool.false_eq_true, if_false, if_true]
        exact ih f g (i + 1) _ _ (h.right d v hnot) (by rw [put_size, hs]) hrest
      · simp only [Bool.false_eq_true, if_false, if_true]
        exact ih f g (i + 1) _ _ (h.left d v hnot) (by rw [put_size, hs]) hrest
      · simp [hf, hg] at hfg
theorem stF_shift (l : List (Option Tmp × Value)) : ∀ (f g : Nat → Bool) (i : Nat) (a : Act), (∀ j, f (j + 1) = g j) → stF l f (i + 1) a = stF l g i a := by
  induction l with
  | nil => intros; rfl
  | cons x l ih =>
    intro f g i a h
    obtain ⟨d, v⟩ := x
    simp only [stF]
    rw [h i, ih f g (i + 1) _ h]
/-- What a walk of the lexical order shows: a value for each operation. -/
theorem wpQuiet_vals {C : World → Prop} {Q : Act → Prop} : ∀ (l : List Oper) (a : Act), wpQuiet P ops C Q l a →
    ∃ vs : List (Option Tmp × Value), vs.map (·.1) = l.map (·.dst) ∧ Q (stF vs (fun _ => true) 0 a) ∧
      ∀ k o, l[k]? = some o → ∃ v, vs[k]? = some (o.dst, v) ∧ YieldsIn P ops C o v (stF vs (fun j => decide (j < k)) 0 a)
  | [], a, h => ⟨[], rfl, h, fun k o h => by simp at h⟩
  | o :: l, a, h => by
    have hv : ∃ v, YieldsIn P ops C o v a ∧ wpQuiet P ops C Q l (a.put o.dst v) := by
      unfold wpQuiet at h
      by_cases hw : Region.wanted o (yielded ops a.tmps) = true
      · simp only [hw, if_true] at h
        obtain ⟨v, h1, h2⟩ := h
        exact ⟨v, .inl ⟨hw, h1⟩, h2⟩
      · simp only [hw] at h
        exact ⟨undef, .inr ⟨by simpa using hw, rfl⟩, h⟩
    obtain ⟨v, hy, hrest⟩ := hv
    obtain ⟨vs, hd, hq, hk⟩ := wpQuiet_vals l _ hrest
    refine ⟨(o.dst, v) :: vs, by simp [hd], ?_, fun k o' hko => ?_⟩
    · simp only [stF, if_true]
      rw [stF_shift vs _ (fun _ => true) 0 _ (fun _ => rfl)]
      exact hq
    · cases k with
      | zero =>
        simp at hko
        subst hko
        refine ⟨v, by simp, ?_⟩
        have : stF ((o.dst, v) :: vs) (fun j => decide (j < 0)) 0 a = a := by
          have e : ∀ (l : List (Option Tmp × Value)) (i : Nat) (a : Act), stF l (fun j => decide (j < 0)) i a = a := by
            intro l
            induction l with
            | nil => intros; rfl
            | cons x l ih => intro i a; obtain ⟨d, v⟩ := x; simp only [stF, Nat.not_lt_zero, decide_false, Bool.false_eq_true, if_false]; exact ih _ _
          exact e _ _ _
        rw [this]; exact hy
      | succ k =>
        obtain ⟨v', h1, h2⟩ := hk k o' (by simpa using hko)
        refine ⟨v', by simpa using h1, ?_⟩
        simp only [stF, Nat.zero_lt_succ, decide_true, if_true]
        rw [stF_shift vs _ (fun j => decide (j < k)) 0 _ (fun j => by simp)]
        exact h2
/-- Two values that a put makes no difference between. -/
def Alike2 (N : Nat) (x y : Option Tmp × Value) : Prop := x.1 = y.1 ∧ ∀ a : Act, a.tmps.size = N → a.put x.1 x.2 = a.put y.1 y.2
theorem stF_alike {N : Nat} : ∀ (l l' : List (Option Tmp × Value)), l.length = l'.length → (∀ (k : Nat) x y, l[k]? = some x → l'[k]? = some y → Alike2 N x y) →
    ∀ (f : Nat → Bool) (i : Nat) (a : Act), a.tmps.size = N → stF l f i a = stF l' f i a
  | [], [], _, _ => fun _ _ _ _ => rfl
  | (d, v) :: l, (d', v') :: l', hl, h => fun f i a ha => by
    simp only [stF]
    have h0 := h 0 (d, v) (d', v') (by simp) (by simp)
    have hr := stF_alike l l' (by simpa using hl) (fun k x y hx hy => h (k + 1) x y (by simpa using hx) (by simpa using hy))
    cases hf : f i
    · simp only [Bool.false_eq_true, if_false]; exact hr f (i + 1) a ha
    · simp only [if_true]
      rw [show a.put d v = a.put d' v' from h0.2 a ha]
      exact hr f (i + 1) _ (by rw [put_size]; exact ha)
  | [], _ :: _, hl, _ => by simp at hl
  | _ :: _, [], hl, _ => by simp at hl
/-- What a slot holds at the end. -/
def slotOf (a : Act) : Option Tmp → Value
  | some d => a.tmps.getD d undef
  | none => undef
theorem stF_slot : ∀ (l : List (Option Tmp × Value)) (i : Nat) (a : Act) (d : Tmp), (∀ x ∈ l, x.1 ≠ some d) → (stF l (fun _ => true) i a).tmps[d]? = a.tmps[d]?
  | [], _, _, _, _ => rfl
  | (e, v) :: l, i, a, d, h => by
    simp only [stF, if_true]
    rw [stF_slot l (i + 1) _ d (fun x hx => h x (by simp [hx]))]
    cases e with
    | none => rfl
    | some e =>
      have hne : e ≠ d := fun he => h (some e, v) (by simp) (by simp [he])
      simp only [Act.put]
      rw [Array.getElem?_setIfInBounds_ne hne]
theorem stF_fin : ∀ (l : List (Option Tmp × Value)) (i : Nat) (a : Act), (l.Pairwise fun x y => ∀ e, x.1 = some e → y.1 ≠ some e) →
    ∀ (k : Nat) (d : Nat) v, l[k]? = some (some d, v) → d < a.tmps.size → (stF l (fun _ => true) i a).tmps[d]? = some v
  | [], _, _, _, k, d, v, h, _ => by simp at h
  | (e, u) :: l, i, a, hp, k, d, v, h, hlt => by
    rw [List.pairwise_cons] at hp
    simp only [stF, if_true]
    cases k with
    | zero =>
      simp at h
      obtain ⟨rfl, rfl⟩ := h
      rw [stF_slot l (i + 1) _ d (fun x hx => hp.1 x hx d rfl)]
      simp [Act.put, hlt]
    | succ k =>
      exact stF_fin l (i + 1) _ hp.2 k d v (by simpa using h) (by rw [put_size]; exact hlt)
/-- so that the values are those of the final frame -/
theorem vals_of_fin {a afin : Act} {pre : List Oper} {vs : List (Option Tmp × Value)} (hd : vs.map (·.1) = pre.map (·.dst)) (hp : vs.Pairwise fun x y => ∀ e, x.1 = some e → y.1 ≠ some e)
    (hf : stF vs (fun _ => true) 0 a = afin) (k : Nat) (x y : Option Tmp × Value) (hx : vs[k]? = some x) (hy : (pre.map fun o => (o.dst, slotOf afin o.dst))[k]? = some y) : Alike2 a.tmps.size x y := by
  obtain ⟨d, v⟩ := x
  have h1 : (vs.map (·.1))[k]? = some d := by simp [hx]
  rw [hd] at h1
  simp at h1 hy
  obtain ⟨o, ho, hod⟩ := h1
  obtain ⟨o', ho', hy⟩ := hy
  rw [ho] at ho'
  obtain rfl := Option.some.inj ho'
  subst hy
  refine ⟨by simp [hod], fun b hb => ?_⟩
  subst hod
  simp only
  cases hdst : o.dst with
  | none => rfl
  | some d =>
    rw [hdst] at hx
    by_cases hlt : (d : Nat) < a.tmps.size
    · have := stF_fin vs 0 a hp k d v hx hlt
      rw [hf] at this
      simp [slotOf, this]
    · have hlt' : b.tmps.size ≤ (d : Nat) := by rw [hb]; exact Nat.not_lt.1 hlt
      simp only [Act.put]
      rw [Array.setIfInBounds_eq_of_size_le hlt', Array.setIfInBounds_eq_of_size_le hlt']
/-- the first N1 operations of N have come up -/
def full (N N1 : Nat) : Array Bool := Array.ofFn (n := N) fun i => decide (i.val < N1)
/-- The tail waits for all ahead of it; each operation of the head looks at slots of the head's elder ones alone, for which it waits; slots are unlike. -/
def hdB (md : Region.Mode) (ops : Array Oper) (n N1 : Nat) : Bool :=
  Region.noSelect ops && decide (n ≤ N1) && decide (N1 ≤ n + 1) && decide (N1 ≤ ops.size) &&
  ((List.range N1).all fun i => (List.range N1).all fun j => decide (j ≤ i) || match (ops[i]?).bind (·.dst) with
    | some d => (ops[j]?).bind (·.dst) != some d
    | none => true) &&
  ((List.range n).all fun j => (List.range N1).all fun k => match (ops[k]?).bind (·.dst) with
    | some d => match ops[j]? with
      | some o => !(o.looksAt ops).contains d || (decide (k < j) && Region.waitsFor md ops j k)
      | none => true
    | none => true) &&
  ((List.range ops.size).all fun t => decide (t < N1) || (List.range t).all fun i => Region.waitsFor md ops t i) &&
  ((List.range ops.size).all fun j => match ops[j]? with
    | some o => o.after.all fun e => !Region.binds md e || decide (e.on < j)
    | none => true) &&
  Region.seqB md ops (ops.size - N1) N1 (full ops.size N1)
structure Hd (md : Region.Mode) (ops : Array Oper) (n N1 : Nat) : Prop where
  sel : ∀ (j : Nat) (o : Oper) cs b, ops[j]? = some o → o.op ≠ .select cs b
  le1 : n ≤ N1
  le2 : N1 ≤ n + 1
  le3 : N1 ≤ ops.size
  apart : ∀ i j, i < N1 → j < N1 → i < j → ∀ d, (ops[i]?).bind (·.dst) = some d → (ops[j]?).bind (·.dst) ≠ some d
  looks : ∀ (j k : Nat) (d : Tmp) (o : Oper), j < n → k < N1 → (ops[k]?).bind (·.dst) = some d → ops[j]? = some o → d ∈ o.looksAt ops → k < j ∧ Region.waitsFor md ops j k = true
  tail : ∀ t i, t < ops.size → N1 ≤ t → i < t → Region.waitsFor md ops t i = true
  down : ∀ (j : Nat) (o : Oper) e, ops[j]? = some o → e ∈ o.after → Region.binds md e = true → e.on < j
  seq : Region.seqB md ops (ops.size - N1) N1 (full ops.size N1) = true
theorem hd_of {n N1 : Nat} (h : hdB md ops n N1 = true) : Hd md ops n N1 := by
  simp only [hdB, Bool.and_eq_true, decide_eq_true_eq, List.all_eq_true, List.mem_range] at h
  obtain ⟨⟨⟨⟨⟨⟨⟨⟨h1, h2⟩, h3⟩, h4⟩, h5⟩, h6⟩, h7⟩, h8⟩, h9⟩ := h
  refine ⟨fun j o cs b => Region.noSelect_spec h1 j o cs b, h2, h3, h4, ?_, ?_, ?_, ?_, h9⟩
  · intro i j hi hj hij d hd he
    have := h5 i hi j hj
    simp only [hd, Bool.or_eq_true, decide_eq_true_eq] at this
    rcases this with h | h
    · omega
    · rw [he] at h; simp at h
  · intro j k d o hj hk hd ho hmem
    have := h6 j hj k hk
    simp only [hd, ho, Bool.or_eq_true, Bool.and_eq_true, decide_eq_true_eq, Bool.not_eq_true'] at this
    rcases this with h | h
    · exfalso
      have : (o.looksAt ops).contains d = true := by simpa using hmem
      rw [h] at this; cases this
    · exact h
  · intro t i ht hN hi
    have := h7 t ht
    simp only [Bool.or_eq_true, decide_eq_true_eq, List.all_eq_true, List.mem_range] at this
    rcases this with h | h
    · omega
    · exact h i hi
  · intro j o e ho he hb
    have hlt : j < ops.size := (Array.getElem?_eq_some_iff.1 ho).1
    have := h8 j hlt
    simp only [ho, Array.all_eq_true_iff_forall_mem, Bool.or_eq_true, decide_eq_true_eq, Bool.not_eq_true'] at this
    rcases this e he with h | h
    · rw [hb] at h; cases h
    · exact h
/-- how many of the head have not come up -/
def cnt (N1 : Nat) (listed : Array Bool) : Nat := ((List.range N1).filter fun i => !listed.getD i false).length
theorem filter_one (p q : Nat → Bool) (i : Nat) (hp : p i = true) (hq : q i = false) (hne : ∀ j, j ≠ i → q j = p j) : ∀ (l : List Nat), l.Nodup → i ∈ l → (l.filter p).length = (l.filter q).length + 1
  | [], _, h => by simp at h
  | x :: l, hn, h => by
    rw [List.nodup_cons] at hn
    by_cases hx : x = i
    · subst hx
      have e : l.filter p = l.filter q := List.filter_congr fun j hj => (hne j (fun e => hn.1 (e ▸ hj))).symm
      simp [hp, hq, e]
    · have hm : i ∈ l := by
        rcases List.mem_cons.1 h with h | h
        · exact absurd h.symm hx
        · exact h
      have ih := filter_one p q i hp hq hne l hn.2 hm
      simp only [List.filter_cons, hne x hx]
      split
      · simp [ih]
      · exact ih
theorem cnt_set {N1 i : Nat} {listed : Array Bool} (hi : i < N1) (hs : i < listed.size) (hu : listed.getD i false = false) : cnt N1 listed = cnt N1 (listed.setIfInBounds i true) + 1 := by
  unfold cnt
  refine filter_one _ _ i (by simp [hu]) ?_ ?_ _ List.nodup_range (List.mem_range.2 hi)
  · simp [hs]
  · intro j hj
    rw [getD_set_ne false (Ne.symm hj)]
theorem cnt_zero {N1 : Nat} {listed : Array Bool} (h : cnt N1 listed = 0) : ∀ i, i < N1 → listed.getD i false = true := by
  intro i hi
  unfold cnt at h
  have h' := List.eq_nil_of_length_eq_zero h
  rw [List.filter_eq_nil_iff] at h'
  have := h' i (List.mem_range.2 hi)
  simpa using this
theorem cnt_succ {N1 k : Nat} {listed : Array Bool} (h : cnt N1 listed = k + 1) : ∃ i, i < N1 ∧ listed.getD i false = false := by
  unfold cnt at h
  have hne : (List.range N1).filter (fun i => !listed.getD i false) ≠ [] := fun e => by rw [e] at h; cases h
  obtain ⟨i, hi⟩ := List.exists_mem_of_ne_nil _ hne
  rw [List.mem_filter, List.mem_range] at hi
  exact ⟨i, hi.1, by simpa using hi.2⟩
/-- something may always come up -/
theorem ready_ex {n N1 : Nat} (h : Hd md ops n N1) {listed : Array Bool} (hs : listed.size = ops.size) : ∀ i, i < ops.size → listed.getD i false = false → ∃ j, j ∈ Region.ready md ops listed := by
  intro i
  induction i using Nat.strongRecOn with
  | _ i ih =>
    intro hi hu
    obtain ⟨o, ho⟩ : ∃ o, ops[i]? = some o := ⟨_, Array.getElem?_eq_getElem hi⟩
    by_cases hall : ∀ e ∈ o.after, Region.binds md e = true → listed.getD e.on false = true
    · exact ⟨i, mem_ready.2 ⟨getD_in (by omega) hu, o, ho, hall⟩⟩
    · have : ∃ e, e ∈ o.after ∧ Region.binds md e = true ∧ listed.getD e.on false = false := by
        apply Classical.byContradiction
        intro hn
        refine hall fun e he hb => ?_
        cases hl : listed.getD e.on false
        · exact absurd ⟨e, he, hb, hl⟩ hn
        · rfl
      obtain ⟨e, he, hb, hl⟩ := this
      have hlt := h.down i o e ho he hb
      exact ih e.on hlt (by omega) hl
theorem full_eq {N N1 : Nat} {listed : Array Bool} (hs : listed.size = N) (h1 : ∀ i, i < N1 → listed.getD i false = true) (h2 : ∀ i, N1 ≤ i → listed.getD i false = false) : listed = full N N1 := by
  apply Array.ext
  · simp [full, hs]
  · intro i hi hi'
    simp only [full, Array.getElem_ofFn]
    by_cases h : i < N1
    · have := h1 i h
      simp [hi] at this
      simp [this, h]
    · have := h2 i (by omega)
      simp [hi] at this
      simp [this, h]
/-- A world that is as w was, and has new blocks at most. -/
structure Ext (w : World) where
  at_ : World
  same : Below w.heap.size w at_
instance (w : World) : Nonempty (Ext w) := ⟨⟨w, Below.refl _ w⟩⟩
/-- where the run stands: the head's operations that 'f' names have come up -/
def At (n : Nat) (vals : List (Option Tmp × Value)) (dN : Option Tmp) (Fact : Value → World → Prop) (a : Act) (w : World) (f : Nat → Bool) (a' : Act) (w' : World) : Prop :=
  Below w.heap.size w w' ∧ ((f n = false ∧ a' = stF vals f 0 a) ∨ (f n = true ∧ ∃ v, Fact v w' ∧ a' = (stF vals f 0 a).put dN v))
theorem getElem?_of_get {l : List Oper} {n k : Nat} {o : Oper} (h : (l.take n)[k]? = some o) : k < n ∧ l[k]? = some o := by
  rw [List.getElem?_take] at h
  split at h
  · exact ⟨‹_›, h⟩
  · cases h
theorem wpAny_hd {n N1 : Nat} {Q : Exit → Act → World → Prop} {l : List Oper} {dN : Option Tmp} {Fact : Value → World → Prop} {a afin : Act} {w : World} (hd : Hd md l.toArray n N1)
    (hstab : ∀ v w' w'', Fact v w' → Below w'.heap.size w' w'' → Fact v w'')
    (hlex : ∀ w1, Below w.heap.size w w1 → wpQuiet P l.toArray (fun w' => ∃ x : Ext w1, w' = x.at_) (fun a' => a' = afin) (l.take n) a)
    (hal : n < N1 → ∃ o, l[n]? = some o ∧ o.dst = dN ∧ o.guard = none ∧ ∀ (a' : Act) (w' : World), ∃ v w'', (execOp a'.eval o).run P w' = .ok (.value v) w'' ∧ Below w'.heap.size w' w'' ∧ (w.heap.size ≤ w'.heap.size → Fact v w''))
    (htail : ∀ w1 a1, Below w.heap.size w w1 → ((N1 = n ∧ a1 = afin) ∨ (N1 = n + 1 ∧ ∃ v, Fact v w1 ∧ a1 = afin.put dN v)) → wpList P l.toArray Q (l.drop N1) a1 w1) :
    ∀ (k : Nat) (listed : Array Bool) (a' : Act) (w' : World), listed.size = l.length → (∀ t, N1 ≤ t → listed.getD t false = false) → cnt N1 listed = k →
      At n ((l.take n).map fun o => (o.dst, slotOf afin o.dst)) dN Fact a w (fun i => listed.getD i false) a' w' → wpAny P md l.toArray Q (k + (l.length - N1)) listed a' w' := by
  -- the lexical walk's values, in each world
  have hvals : ∀ w1, Below w.heap.size w w1 → ∀ (f : Nat → Bool) (vs : List (Option Tmp × Value)), vs.map (·.1) = (l.take n).map (·.dst) → stF vs (fun _ => true) 0 a = afin →
      stF vs f 0 a = stF ((l.take n).map fun o => (o.dst, slotOf afin o.dst)) f 0 a ∧ (∀ (k : Nat) x y, vs[k]? = some x → ((l.take n).map fun o => (o.dst, slotOf afin o.dst))[k]? = some y → Alike2 a.tmps.size x y) := by
    intro w1 _ f vs hm hf
    have hp : vs.Pairwise fun x y => ∀ e, x.1 = some e → y.1 ≠ some e := by
      rw [List.pairwise_iff_getElem]
      intro i j hi hj hij e he he'
      have hlen : vs.length = (l.take n).length := by simpa using congrArg List.length hm
      have hi' : i < (l.take n).length := by omega
      have hj' : j < (l.take n).length := by omega
      have e1 : (vs.map (·.1))[i]? = some (some e) := by simp [hi, he]
      have e2 : (vs.map (·.1))[j]? = some (some e) := by simp [hj, he']
      rw [hm] at e1 e2
      simp only [List.getElem?_map, Option.map_eq_some_iff] at e1 e2
      obtain ⟨o1, h1, hd1⟩ := e1
      obtain ⟨o2, h2, hd2⟩ := e2
      have g1 := getElem?_of_get h1
      have g2 := getElem?_of_get h2
      have := hd.le1
      exact hd.apart i j (by omega) (by omega) hij e (by simp [g1.2, hd1]) (by simp [g2.2, hd2])
    have hal2 := vals_of_fin (a := a) (pre := l.take n) hm hp hf
    refine ⟨stF_alike vs _ (by simpa using congrArg List.length hm) (fun k x y hx hy => hal2 k x y hx hy) f 0 a rfl, fun k x y hx hy => hal2 k x y hx hy⟩
  have hpv : ((l.take n).map fun o => (o.dst, slotOf afin o.dst)).Pairwise fun x y => ∀ e, x.1 = some e → y.1 ≠ some e := by
    rw [List.pairwise_iff_getElem]
    intro i j hi hj hij e he he'
    simp only [List.length_map] at hi hj
    simp only [List.getElem_map] at he he'
    have g1 := getElem?_of_get (List.getElem?_eq_getElem hi)
    have g2 := getElem?_of_get (List.getElem?_eq_getElem hj)
    have := hd.le1
    have q1 : l.toArray[i]? = some (l.take n)[i] := by rw [List.getElem?_toArray]; exact g1.2
    have q2 : l.toArray[j]? = some (l.take n)[j] := by rw [List.getElem?_toArray]; exact g2.2
    exact hd.apart i j (by omega) (by omega) hij e (by rw [q1]; exact he) (by rw [q2]; exact he')
  intro k
  induction k with
  | zero =>
    intro listed a' w' hs ht hc hat
    have hall := cnt_zero hc
    have hfull : listed = full l.length N1 := full_eq hs hall ht
    have hseq := hd.seq
    obtain ⟨hb, hat⟩ := hat
    have hdl : (l.drop N1).length = l.length - N1 := by simp
    have hst : stF ((l.take n).map fun o => (o.dst, slotOf afin o.dst)) (fun i => listed.getD i false) 0 a = afin := by
      obtain ⟨vs, hm, hq, _⟩ := wpQuiet_vals _ _ (hlex w (Below.refl _ _))
      rw [← (hvals w (Below.refl _ _) _ vs hm hq).1, ← hq]
      have e : ∀ (l' : List (Option Tmp × Value)) (f g : Nat → Bool) (i : Nat) (b : Act), (∀ j, j < i + l'.length → f j = g j) → stF l' f i b = stF l' g i b := by
        intro l'
        induction l' with
        | nil => intros; rfl
        | cons x l' ih => intro f g i b h; obtain ⟨d, v⟩ := x; simp only [stF]; rw [h i (by simp), ih f g (i + 1) _ (fun j hj => h j (by simp only [List.length_cons]; omega))]
      refine e _ _ _ _ _ fun j hj => ?_
      have hlen : vs.length = (l.take n).length := by simpa using congrArg List.length hm
      have hle := hd.le1
      have : (l.take n).length ≤ n := by simp; omega
      exact hall j (by omega)
    have hw : wpList P l.toArray Q (l.drop N1) a' w' := by
      refine htail w' a' hb ?_
      rw [hst] at hat
      rcases hat with ⟨hf, h⟩ | ⟨hf, h⟩
      · refine .inl ⟨?_, h⟩
        have := hd.le1; have := hd.le2
        rcases Nat.lt_or_ge n N1 with h' | h'
        · simp only at hf; rw [hall n h'] at hf; cases hf
        · omega
      · refine .inr ⟨?_, h⟩
        have := hd.le1; have := hd.le2
        rcases Nat.lt_or_ge n N1 with h' | h'
        · omega
        · simp only at hf; rw [ht n h'] at hf; cases hf
    rw [Nat.zero_add, ← hdl]
    exact wpAny_of_seq (l.drop N1) N1 listed a' w' (fun j => by simp [List.getElem?_drop]) (by rw [hdl, hfull]; simpa using hseq) hw
  | succ k ih =>
    intro listed a' w' hs ht hc hat
    obtain ⟨i0, hi0, hu0⟩ := cnt_succ hc
    have hle3 : N1 ≤ l.length := by simpa using hd.le3
    rw [show k + 1 + (l.length - N1) = (k + (l.length - N1)) + 1 by omega]
    refine ⟨fun h0 => ?_, fun i hi => ?_⟩
    · obtain ⟨j, hj⟩ := ready_ex hd (listed := listed) (by simpa using hs) i0 (by simp; omega) hu0
      rw [h0] at hj; cases hj
    obtain ⟨hiu, o, ho, hdeps⟩ := mem_ready.1 hi
    have ho' : l[i]? = some o := by simpa using ho
    have hil : i < l.length := (List.getElem?_eq_some_iff.1 ho').1
    have hi1 : i < N1 := by
      rcases Nat.lt_or_ge i N1 with h | h
      · exact h
      · have hwf := hd.tail i i0 (by simpa using hil) h (by omega)
        obtain ⟨oj, hoj, e, he, hb, hon⟩ := Region.waitsFor_spec hwf
        have : oj = o := Option.some.inj (hoj.symm.trans ho)
        subst this
        have := hdeps e he hb
        rw [hon, hu0] at this; cases this
    have hcnt := cnt_set hi1 (by omega) (getD_both hiu)
    have hnext : ∀ a'' w'', At n ((l.take n).map fun o => (o.dst, slotOf afin o.dst)) dN Fact a w (fun j => (listed.setIfInBounds i true).getD j false) a'' w'' →
        wpAny P md l.toArray Q (k + (l.length - N1)) (listed.setIfInBounds i true) a'' w'' := fun a'' w'' h =>
      ih _ a'' w'' (by simpa using hs) (fun t htt => by rw [getD_set_ne false (by omega)]; exact ht t htt) (by omega) h
    obtain ⟨hb, hat⟩ := hat
    have hseti : (listed.setIfInBounds i true).getD i false = true := by simp [hs, hil]
    rcases Nat.lt_or_ge i n with hin | hin
    · -- an operation of the quiet head
      obtain ⟨vs, hm, hq, hy⟩ := wpQuiet_vals _ _ (hlex w' hb)
      have hget : (l.take n)[i]? = some o := by rw [List.getElem?_take, if_pos hin]; exact ho'
      obtain ⟨v, hvi, hyi⟩ := hy i o hget
      obtain ⟨_, hal2⟩ := hvals w' hb (fun j => decide (j < i)) vs hm hq
      rw [(hvals w' hb (fun j => decide (j < i)) vs hm hq).1] at hyi
      have hval : ((l.take n).map fun o => (o.dst, slotOf afin o.dst))[i]? = some (o.dst, slotOf afin o.dst) := by rw [List.getElem?_map, hget]; rfl
      have halike := hal2 i _ _ hvi hval
      -- the real frame looks the same to it
      have hsame0 : Same l.toArray o (stF ((l.take n).map fun o => (o.dst, slotOf afin o.dst)) (fun j => listed.getD j false) 0 a) (stF ((l.take n).map fun o => (o.dst, slotOf afin o.dst)) (fun j => decide (j < i)) 0 a) := by
        refine stF_same _ _ _ 0 a a Same.refl rfl fun k' d v' hk' hne hmem => ?_
        simp only [List.getElem?_map, Option.map_eq_some_iff, Prod.mk.injEq] at hk'
        obtain ⟨ok, hok, hdk, _⟩ := hk'
        obtain ⟨hkn, hlk⟩ := getElem?_of_get hok
        have hle := hd.le1
        have hlk' : (l.toArray)[k']? = some ok := by simpa using hlk
        obtain ⟨hki, hwf⟩ := hd.looks i k' d o hin (by omega) (by rw [hlk']; exact hdk) ho hmem
        obtain ⟨oj, hoj, e, he, hbd, hon⟩ := Region.waitsFor_spec hwf
        have : oj = o := Option.some.inj (hoj.symm.trans ho)
        subst this
        have := hdeps e he hbd
        rw [hon] at this
        rw [Nat.zero_add] at hne
        exact hne (by rw [this]; simp [hki])
      have hsame : Same l.toArray o a' (stF ((l.take n).map fun o => (o.dst, slotOf afin o.dst)) (fun j => decide (j < i)) 0 a) := by
        rcases hat with ⟨_, rfl⟩ | ⟨hfn, u, _, rfl⟩
        · exact hsame0
        · refine hsame0.left dN u fun e he hmem => ?_
          have hnN : n < N1 := by
            rcases Nat.lt_or_ge n N1 with h | h
            · exact h
            · simp only at hfn; rw [ht n h] at hfn; cases hfn
          obtain ⟨oN, hoN, hdN, _⟩ := hal hnN
          have hoN' : (l.toArray)[n]? = some oN := by simpa using hoN
          have hdN' : oN.dst = some e := hdN.trans he
          have := (hd.looks i n e o hin hnN (by rw [hoN']; exact hdN') ho hmem).1
          omega
      have hyr : YieldsIn P l.toArray (fun w'' => ∃ x : Ext w', w'' = x.at_) o v a' := hsame.yields (fun cs b => hd.sel i o cs b ho) hyi
      have hsz : (stF ((l.take n).map fun o => (o.dst, slotOf afin o.dst)) (fun j => listed.getD j false) 0 a).tmps.size = a.tmps.size := stF_size _ _ _ _
      have hput : ∀ b : Act, b.tmps.size = a.tmps.size → b.put o.dst v = b.put o.dst (slotOf afin o.dst) := halike.2
      have hstF : stF ((l.take n).map fun o => (o.dst, slotOf afin o.dst)) (fun j => (listed.setIfInBounds i true).getD j false) 0 a =
          (stF ((l.take n).map fun o => (o.dst, slotOf afin o.dst)) (fun j => listed.getD j false) 0 a).put o.dst (slotOf afin o.dst) := by
        refine stF_set _ _ _ 0 i (o.dst, slotOf afin o.dst) a hval (fun j hj => ?_) ?_ ?_ hpv
        · exact getD_set_ne false (by omega)
        · rw [Nat.zero_add]; exact getD_both hiu
        · rw [Nat.zero_add]; exact hseti
      have hne : i ≠ n := by omega
      refine wpOp_of_qOp (C := fun w'' => ∃ x : Ext w', w'' = x.at_) (K := fun a'' => a'' = a'.put o.dst v) ⟨⟨w', Below.refl _ _⟩, rfl⟩ ?_ (hyr.qOp ho rfl)
      rintro a'' w'' ⟨x, rfl⟩ rfl
      refine hnext _ _ ⟨hb.trans (x.same.mono hb.size), ?_⟩
      rcases hat with ⟨hfn, rfl⟩ | ⟨hfn, u, hu, rfl⟩
      · refine .inl ⟨?_, ?_⟩
        · simp only; rw [getD_set_ne false hne]; exact hfn
        · rw [hstF, hput _ hsz]
      · refine .inr ⟨?_, u, hstab _ _ _ hu x.same, ?_⟩
        · simp only; rw [getD_set_ne false hne]; exact hfn
        · have hnN : n < N1 := by
            rcases Nat.lt_or_ge n N1 with h | h
            · exact h
            · simp only at hfn; rw [ht n h] at hfn; cases hfn
          obtain ⟨oN, hoN, hdN, _⟩ := hal hnN
          have hoN' : (l.toArray)[n]? = some oN := by simpa using hoN
          have hcomm : ∀ d, dN = some d → o.dst ≠ some d := fun d hdd hod => by
            have h1 : ((l.toArray)[i]?).bind (·.dst) = some d := by rw [ho]; exact hod
            have h2 : ((l.toArray)[n]?).bind (·.dst) = some d := by rw [hoN']; exact hdN.trans hdd
            exact hd.apart i n hi1 hnN hin d h1 h2
          rw [hstF, hput _ (by rw [put_size]; exact hsz), Act.put_comm _ u (slotOf afin o.dst) hcomm]
    · -- the new variable
      have hi_n : i = n := by have := hd.le2; omega
      subst hi_n
      obtain ⟨oN, hoN, hdN, hg, hrun⟩ := hal hi1
      have : oN = o := Option.some.inj (hoN.symm.trans ho')
      subst this
      have hfn : listed.getD i false = false := getD_both hiu
      have hat' : a' = stF ((l.take i).map fun o => (o.dst, slotOf afin o.dst)) (fun j => listed.getD j false) 0 a := by
        rcases hat with ⟨_, h⟩ | ⟨hfn', _⟩
        · exact h
        · simp only at hfn'; rw [hfn] at hfn'; cases hfn'
      subst hat'
      obtain ⟨v, w'', hr, hbel, hfact⟩ := hrun (stF ((l.take i).map fun o => (o.dst, slotOf afin o.dst)) (fun j => listed.getD j false) 0 a) w'
      unfold wpOp
      simp only [ho]
      rw [if_pos (by simp [Region.wanted, hg])]
      left
      unfold Oper.wp
      rw [hr]
      show wpAny P md l.toArray Q _ _ _ _
      refine hnext _ _ ⟨hb.trans (hbel.mono hb.size), .inr ⟨hseti, v, hfact hb.size, ?_⟩⟩
      rw [hdN]
      congr 1
      have e : ∀ (l' : List (Option Tmp × Value)) (f g : Nat → Bool) (i' : Nat) (b : Act), (∀ j, j < i' + l'.length → f j = g j) → stF l' f i' b = stF l' g i' b := by
        intro l'
        induction l' with
        | nil => intros; rfl
        | cons x l' ih => intro f g i' b h; obtain ⟨d, v⟩ := x; simp only [stF]; rw [h i' (by simp), ih f g (i' + 1) _ (fun j hj => h j (by simp only [List.length_cons]; omega))]
      refine e _ _ _ _ _ fun j hj => ?_
      have : (l.take i).length ≤ i := by simp; omega
      simp only [List.length_map] at hj
      rw [getD_set_ne false (by omega)]
theorem cnt_start : ∀ (N1 m : Nat), N1 ≤ m → cnt N1 (Array.replicate m false) = N1 := by
  intro N1 m _
  unfold cnt
  have : (List.range N1).filter (fun i => !(Array.replicate m false).getD i false) = List.range N1 := by
    rw [List.filter_eq_self]
    intro i _
    rw [getD_replicate_false]; rfl
  rw [this, List.length_range]
theorem stF_none : ∀ (l : List (Option Tmp × Value)) (f : Nat → Bool) (i : Nat) (a : Act), (∀ j, f j = false) → stF l f i a = a
  | [], _, _, _, _ => rfl
  | (d, v) :: l, f, i, a, h => by
    simp only [stF, h i, Bool.false_eq_true, if_false]
    exact stF_none l f (i + 1) a h
/-- The same where the n-th operation makes a new variable, that no operation of the head looks at. -/
theorem wp_region_hda {id n : Nat} {Q : Exit → Act → World → Prop} {a : Act} {w : World} {l : List Oper} (o : Oper) (d : Tmp) (cs : Array Value) (T : TypeId) (hm : P.follows .mixedOrders = true) (hB : hdB .any l.toArray n (n + 1) = true)
    (ho : l[n]? = some o) (hod : o.dst = some d) (hg : o.guard = none)
    (hrun : ∀ (a' : Act) (w' : World), (execOp a'.eval o).run P w' = .ok (.value (.pointer (some ⟨w'.heap.size, 0, none⟩))) (w'.alloc (.cells cs T (0, 0))))
    (h : ∃ afin, (∀ w1, Below w.heap.size w w1 → wpQuiet P l.toArray (fun w' => ∃ x : Ext w1, w' = x.at_) (fun a' => a' = afin) (l.take n) a) ∧
      ∀ w1 b, Below w.heap.size w w1 → w.heap.size ≤ b → w1.heap[b]? = some (.cells cs T (0, 0)) → wpList P l.toArray Q (l.drop (n + 1)) (afin.put (some d) (.pointer (some ⟨b, 0, none⟩))) w1) :
    (Code.region id l.toArray true).wp P Q a w := by
  obtain ⟨afin, hlex, htail⟩ := h
  have hd := hd_of hB
  have hsz : n + 1 ≤ l.length := by simpa using hd.le3
  refine wp_region_any hm ?_
  have := wpAny_hd (Q := Q) (dN := some d) (Fact := fun v w' => ∃ b, v = .pointer (some ⟨b, 0, none⟩) ∧ w.heap.size ≤ b ∧ w'.heap[b]? = some (.cells cs T (0, 0))) (a := a) (afin := afin) (w := w) hd
    (fun v w' w'' h hb => by
      obtain ⟨b, h1, h2, h3⟩ := h
      exact ⟨b, h1, h2, by rw [hb.block b (Array.getElem?_eq_some_iff.1 h3).1]; exact h3⟩) hlex
    (fun _ => ⟨o, ho, hod, hg, fun a' w' => ⟨_, _, hrun a' w', (Below.refl _ _).alloc (Nat.le_refl _) _, fun hle => ⟨w'.heap.size, rfl, hle, by show (w'.heap.push _)[w'.heap.size]? = _; simp⟩⟩⟩)
    (fun w1 a1 hb h => by
      rcases h with ⟨h, _⟩ | ⟨_, v, ⟨b, rfl, h2, h3⟩, rfl⟩
      · omega
      · exact htail w1 b hb h2 h3) (n + 1) (Array.replicate l.length false) a w.drew (by simp) (fun t _ => getD_replicate_false _ _) (cnt_start (n + 1) _ hsz)
    ⟨(Below.refl _ _).drew, .inl ⟨getD_replicate_false _ _, (stF_none _ _ _ _ (fun j => getD_replicate_false _ _)).symm⟩⟩
  rw [show n + 1 + (l.length - (n + 1)) = l.toArray.size by simp; omega] at this
  simpa using this
end
end Go.Proofs.YtpinamdgbijjlaaGreatDoor
namespace Go.Proofs.YtpinamdgbijjlaaGreatDoor
set_option maxRecDepth 100000
open Go.ChangeShapes Go.WideShapes Go.ChangeAt Go.RowKit
theorem hid {p : Prop} (h : p) : Hid p := h
/-- Block b of the world holds these cells (not frozen). -/
def Blk (w : World) (b : Nat) (cs : Array Value) (T : TypeId) : Prop := w.heap[b]? = some (.cells cs T (0, 0))
theorem Blk.lt {w : World} {b : Nat} {cs : Array Value} {T : TypeId} (h : Blk w b cs T) : b < w.heap.size := by
  unfold Blk at h
  exact (Array.getElem?_eq_some_iff.1 h).1
theorem Blk.cell {w : World} {b : Nat} {cs : Array Value} {T : TypeId} (h : Blk w b cs T) : ∀ o, w.cell? ⟨b, o, none⟩ = cs[o]? := by
  intro o
  unfold Blk at h
  simp [World.cell?, h]
theorem Blk.free {w : World} {b : Nat} {cs : Array Value} {T : TypeId} (h : Blk w b cs T) : ∀ o, w.frozen? ⟨b, o, none⟩ = false := by
  intro o
  unfold Blk at h
  simp [World.frozen?, h]
theorem Blk.new {w : World} {n : Nat} (hn : w.heap.size = n) (cs : Array Value) (T : TypeId) : Blk (w.alloc (.cells cs T (0, 0))) n cs T := by
  subst hn
  show (w.heap.push _)[w.heap.size]? = _
  simp
theorem Blk.old {w : World} {b : Nat} {cs : Array Value} {T : TypeId} (h : Blk w b cs T) (o : Obj) : Blk (w.alloc o) b cs T := by
  have := h.lt
  unfold Blk at *
  rw [Below.heap_alloc _ _ _ this]; exact h
theorem Blk.below {w w' : World} {b : Nat} {cs : Array Value} {T : TypeId} (h : Blk w b cs T) (hb : Below w.heap.size w w') : Blk w' b cs T := by
  have := h.lt
  unfold Blk at *
  rw [hb.block _ this]; exact h
theorem Blk.belowB {w w' : World} {B b : Nat} {cs : Array Value} {T : TypeId} (h : Blk w b cs T) (hB : b < B) (hb : Below B w w') : Blk w' b cs T := by
  unfold Blk at *
  rw [hb.block _ hB]; exact h
theorem Blk.set {w : World} {b : Nat} {cs : Array Value} {T : TypeId} (h : Blk w b cs T) (o : Nat) (v : Value) : Blk (w.setCell ⟨b, o, none⟩ v) b (cs.setIfInBounds o v) T := by
  unfold Blk at *
  simp only [World.setCell, Array.getElem?_modify, if_true, h, Option.map_some, Option.isSome_none, Bool.false_eq_true, if_false]
theorem Blk.other {w : World} {b : Nat} {cs : Array Value} {T : TypeId} (h : Blk w b cs T) (p : Addr) (hp : p.block ≠ b) (v : Value) : Blk (w.setCell p v) b cs T := by
  unfold Blk at *
  rw [Below.heap_setCell _ _ _ _ (Ne.symm hp)]; exact h
theorem Blk.ext {w : World} {b : Nat} {cs : Array Value} {T : TypeId} (h : Blk w b cs T) : ∀ (x : Ext w) (o : Nat), x.at_.cell? ⟨b, o, none⟩ = cs[o]? :=
  fun x => (h.below x.same).cell
/-- A region that draws its order, whose operations only read, and whose callees leave what was there: ONE walk, in the order of the text. -/
theorem wp_region_ext {P : Program} {id : Nat} {Q : Exit → Act → World → Prop} {a : Act} {w : World} {l : List Oper} (hm : P.follows .mixedOrders = true) (hB : Region.lexB .any l.toArray = true)
    (h : wpQuiet P l.toArray (fun w' => ∃ x : Ext w, w' = x.at_) (fun a' => ∀ w', (∃ x : Ext w, w' = x.at_) → Q .normal a' w') l a) : (Code.region id l.toArray true).wp P Q a w :=
  wp_region_quiet (C := fun w' => ∃ x : Ext w, w' = x.at_) hm hB ⟨⟨w.drew, (Below.refl _ _).drew⟩, rfl⟩ (by simpa using h)
theorem Calls.ext {P : Program} {f : FuncId} {args : Array Value} {w : World} {x : Ext w} {v : Value}
    (h : Calls P f args x.at_ fun e w' => e = .returned v ∧ Below x.at_.heap.size x.at_ w') : Calls P f args x.at_ fun e w'' => e = .returned v ∧ ∃ y : Ext w, w'' = y.at_ :=
  h.mono fun _ w'' ⟨he, hm⟩ => ⟨he, ⟨w'', x.same.trans (hm.mono x.same.size)⟩, rfl⟩
/-- A contract on a written-out world, said of the world where it all began. -/
theorem Below.on {w W w1 : World} (h : Below w.heap.size w W) (hb : Below W.heap.size W w1) : Below w.heap.size w w1 := h.trans (hb.mono h.size)
/-- The stores of a whole value, cell by cell. -/
def setAll (w : World) (b : Nat) : Nat → List Value → World
  | _, [] => w
  | o, v :: vs => setAll (w.setCell ⟨b, o, none⟩ v) b (o + 1) vs
theorem Blk.setAll_at {b : Nat} {T : TypeId} : ∀ (vs : List Value) (o : Nat) (w : World) (cs : Array Value), Blk w b cs T → o + vs.length ≤ cs.size →
    ∃ cs' : Array Value, Blk (setAll w b o vs) b cs' T ∧ cs'.size = cs.size ∧ (∀ j, j < o → cs'[j]? = cs[j]?) ∧ (∀ j, o + vs.length ≤ j → cs'[j]? = cs[j]?) ∧ ∀ j, j < vs.length → cs'[o + j]? = vs[j]?
  | [], _, _, cs, h, _ => ⟨cs, h, rfl, fun _ _ => rfl, fun _ _ => rfl, fun j hj => by simp at hj⟩
  | v :: vs, o, w, cs, h, hl => by
    simp only [List.length_cons] at hl
    obtain ⟨cs', h1, h2, h3, h4, h5⟩ := Blk.setAll_at vs (o + 1) _ _ (h.set o v) (by simp; omega)
    refine ⟨cs', h1, by simpa using h2, fun j hj => ?_, fun j hj => ?_, fun j hj => ?_⟩
    · rw [h3 j (by omega), Array.getElem?_setIfInBounds_ne (by omega)]
    · simp only [List.length_cons] at hj
      rw [h4 j (by omega), Array.getElem?_setIfInBounds_ne (by omega)]
    · cases j with
      | zero =>
        rw [Nat.add_zero, h3 o (by omega)]
        have : o < cs.size := by omega
        simp [this]
      | succ j =>
        simp only [List.length_cons] at hj
        rw [show o + (j + 1) = o + 1 + j by omega, h5 j (by omega)]
        simp
theorem Blk.setAll_self {b : Nat} {T : TypeId} {w : World} {cs : Array Value} (h : Blk w b cs T) (vs : List Value) (hl : vs.length = cs.size) : Blk (setAll w b 0 vs) b vs.toArray T := by
  obtain ⟨cs', h1, h2, _, _, h5⟩ := Blk.setAll_at vs 0 w cs h (by omega)
  have : cs' = vs.toArray := by
    apply Array.ext_getElem?
    intro j
    rcases Nat.lt_or_ge j vs.length with hj | hj
    · have := h5 j hj
      rw [Nat.zero_add] at this
      rw [this]; simp
    · rw [Array.getElem?_eq_none (by omega), Array.getElem?_eq_none (by simp; omega)]
  rw [← this]; exact h1
/-- As w was, but for block b: what a method leaves that writes to its receiver's block. -/
structure But (b : Nat) (w w' : World) : Prop where
  os : w'.os = w.os
  tape : w'.tape = w.tape
  output : w'.output = w.output
  size : w.heap.size ≤ w'.heap.size
  block : ∀ k, k < w.heap.size → k ≠ b → w'.heap[k]? = w.heap[k]?
theorem But.of {b : Nat} {w w' : World} (h : Below w.heap.size w w') : But b w w' := ⟨h.os, h.tape, h.output, h.size, fun k hk _ => h.block k hk⟩
theorem But.ext {b : Nat} {w w' w'' : World} (h : But b w w') (hb : Below w'.heap.size w' w'') : But b w w'' :=
  ⟨hb.os.trans h.os, hb.tape.trans h.tape, hb.output.trans h.output, Nat.le_trans h.size hb.size, fun k hk hne => (hb.block k (Nat.lt_of_lt_of_le hk h.size)).trans (h.block k hk hne)⟩
theorem But.set {b : Nat} {w w' : World} (h : But b w w') {p : Addr} (hp : p.block = b ∨ w.heap.size ≤ p.block) (v : Value) : But b w (w'.setCell p v) :=
  ⟨h.os, h.tape, h.output, by simpa [World.setCell] using h.size, fun k hk hne => by rw [Below.heap_setCell _ _ _ _ (by rcases hp with h | h <;> omega)]; exact h.block k hk hne⟩
theorem But.blk {b b' : Nat} {w w' : World} {cs : Array Value} {T : TypeId} (h : But b w w') (k : Blk w b' cs T) (hne : b' ≠ b) : Blk w' b' cs T := by
  have := k.lt
  unfold Blk at *
  rw [h.block _ this hne]; exact k
/-- where the block is one of the call's own -/
theorem But.below {b B : Nat} {w0 w w' : World} (h : But b w w') (h0 : Below B w0 w) (hB : B ≤ w.heap.size) (hb : B ≤ b) : Below B w0 w' :=
  h0.trans ⟨h.os, h.tape, h.output, h.size, fun k hk => h.block k (by omega) (by omega)⟩
end Go.Proofs.YtpinamdgbijjlaaGreatDoor
namespace Go.Proofs.YtpinamdgbijjlaaGreatDoor
set_option maxRecDepth 100000
open Go.RowKit
/-- An array of integers, as a value. -/
def ints (k : IntKind) (xs : List Int) : Value := .agg (xs.map (Value.int k)).toArray
section
variable {P : Program} {t e : TypeId} {n : Nat} {k : IntKind} {i : TypeInfo}
theorem run_part_ints (he : P.underlying e = some (.int k)) (xs : List Int) (j : Nat) (hj : j < xs.length) (w : World) : (part e (xs.map (Value.int k)).toArray j).run P w = .ok (.int k xs[j]) w :=
  run_part_plain w (by simp [Program.plainKey, he]) (by simp [hj])
theorem run_eqItems_ints (d : Nat) (he : P.underlying e = some (.int k)) (hc : P.cellsOf e = 1) (xs ys : List Int) (hl : xs.length = ys.length) (w : World) : ∀ (is : List Nat), (∀ j ∈ is, j < xs.length) →
    (Op.eqItems (d + 1) e (P.cellsOf e) (xs.map (Value.int k)).toArray (ys.map (Value.int k)).toArray is).run P w = .ok (decide (∀ j ∈ is, xs[j]? = ys[j]?)) w
  | [], _ => by simp [Op.eqItems]
  | j :: is, h => by
    have hj := h j (by simp)
    have hj' : j < ys.length := by omega
    have ih := run_eqItems_ints d he hc xs ys hl w is (fun q hq => h q (by simp [hq]))
    rw [hc] at ih ⊢
    simp only [Op.eqItems, Nat.mul_one, Sem.run_bind, run_part_ints he xs j hj, run_part_ints he ys j hj', Result.andThen_ok, run_equalIn_int w d e k k _ _ he]
    by_cases hq : xs[j] = ys[j]
    · simp only [hq, beq_self_eq_true, Bool.not_true, Bool.false_eq_true, if_false, ih, Result.ok.injEq, and_true, decide_eq_decide]
      simp [hj, hj', hq]
    · have : (xs[j] == ys[j]) = false := by simpa using hq
      simp [this, hj, hj', hq]
/-- '==' of two arrays of integers. -/
theorem run_eql_ints (hu : P.underlying t = some (.array n e)) (he : P.underlying e = some (.int k)) (hi : P.info? e = some i) (hc : P.cellsOf e = 1) (xs ys : List Int) (hx : xs.length = n) (hy : ys.length = n) (w : World) :
    (binOp .eql t (ints k xs) (ints k ys)).run P w = .ok (.bool (decide (xs = ys))) w := by
  unfold ints
  rw [run_eql_struct, run_equalIn_array w 9999 _ _ hu hi, run_eqItems_ints 9998 he hc xs ys (by omega) w _ (by simp; omega)]
  simp only [Result.andThen_ok, Result.ok.injEq, Value.bool.injEq, and_true, decide_eq_decide, List.mem_range]
  constructor
  · intro h
    apply List.ext_getElem?
    intro j
    rcases Nat.lt_or_ge j n with hj | hj
    · exact h j hj
    · rw [List.getElem?_eq_none (by omega), List.getElem?_eq_none (by omega)]
  · rintro rfl _ _; rfl
end
end Go.Proofs.YtpinamdgbijjlaaGreatDoor
namespace Go.Proofs.YtpinamdgbijjlaaGreatDoor
set_option maxRecDepth 100000
open Go.RowKit
/-- n zeros, as cells -/
def zeros (k : IntKind) (n : Nat) : Array Value := (List.replicate n (Value.int k 0)).toArray
theorem ints_one (k : IntKind) (xs : List Int) : (xs.map (Value.int k)).toArray.all (·.oneCell') = true :=
  all_oneCell_toArray fun v hv => by simp only [List.mem_map] at hv; obtain ⟨x, _, rfl⟩ := hv; rfl
/-- An element of an array of integers. -/
theorem run_index_ints {P : Program} {t e : TypeId} {n : Nat} {k k' : IntKind} {i : TypeInfo} (hu : P.underlying t = some (.array n e)) (he : P.underlying e = some (.int k)) (hi : P.info? e = some i) (hs : i.size = 1) (xs : List Int) (hx : xs.length = n)
    (j : Nat) (hj : j < n) (w : World) : (Instr.index t (.agg (xs.map (Value.int k)).toArray) (.int k' j)).run P w = .ok (.int k (xs.getD j 0)) w := by
  have hp := run_part_ints (P := P) he xs j (by omega) w
  have hlt : (0 : Int) ≤ j ∧ (j : Int) < n := by omega
  have hjx : j < xs.length := by omega
  unfold Instr.index
  simp [asIntOf, Sem.run_bind, run_underlying hu, hlt, sizeOf, typeInfo, hi, hs, hp, hjx]
  intro h; omega
/-- The cells of a block that was just made, as the append's law asks for them. -/
theorem news_new (w : World) (cs : List Value) (T : TypeId) : ∀ (j : Nat) (u : Value), cs[j]? = some u → (w.alloc (.cells cs.toArray T (0, 0))).cell? ((⟨w.heap.size, 0, none⟩ : Addr).add j) = some u := by
  intro j u h
  rw [Addr.add_mid, Nat.zero_add, (Blk.new rfl cs.toArray T : Blk (w.alloc _) w.heap.size cs.toArray T).cell]
  simpa using h
/-- What the call owns it owns where all that was there stays. -/
theorem owns_below {w w' : World} {base : Nat} {e : TypeId} {size : Nat} {v : Value} {n : Nat} {xs : List Value} (h : w.ownsRow base e size v n xs) (hb : Below w.heap.size w w') : w'.ownsRow base e size v n xs := by
  refine h.kept (row := none) ⟨hb.os, hb.tape, hb.output, hb.size, fun k hk _ => hb.block k hk⟩ ?_
  cases hq : v.ownBlock
  · exact .inl rfl
  · exact .inr (by simp)
/-- The cells of a block, as the append's law asks for them. -/
theorem news_blk {w : World} {b : Nat} {cs : List Value} {T : TypeId} (h : Blk w b cs.toArray T) : ∀ (j : Nat) (u : Value), cs[j]? = some u → w.cell? ((⟨b, 0, none⟩ : Addr).add j) = some u := by
  intro j u hj
  rw [Addr.add_mid, Nat.zero_add, h.cell]
  simpa using hj
/-- A block below an append's own row is as it was. -/
theorem Blk.grown {w w' : World} {b : Nat} {cs : Array Value} {T : TypeId} {row : Option Nat} (h : Blk w b cs T) (hg : w.grownBy w' row) (hr : ∀ q, row = some q → b ≠ q) : Blk w' b cs T := by
  have := h.lt
  unfold Blk at *
  rw [hg.block _ this (fun e => hr _ e.symm rfl)]; exact h
section
variable {P : Program} {ops : Array Oper} {rest : List Oper} {op : Oper} {a : Act} {w : World} {Q : Exit → Act → World → Prop}
theorem Blk.rangeAt {b : Nat} {cs : Array Value} {T : TypeId} (h : Blk w b cs T) : w.rangeAt b 0 cs.toList := fun j v hv => by
  rw [Nat.zero_add, h.cell j]; simpa using hv
theorem Blk.there {b n : Nat} {cs : Array Value} {T : TypeId} (h : Blk w b cs T) (hn : n ≤ cs.size) : w.there b 0 n := fun j hj =>
  ⟨by rw [Nat.zero_add, h.cell j, Array.getElem?_eq_getElem (by omega)]; rfl, h.free _⟩
/-- A whole variable is read. -/
theorem wpList_load_blk (hgd : op.guard = none) (ty : TypeId) (x : Operand) (ho : op.op = .load ty x) (b : Nat) (hx : a.eval x = .pointer (some ⟨b, 0, none⟩)) (cs : Array Value) (T : TypeId) (hk : Blk w b cs T)
    (d : TypeDesc) (hu : P.underlying ty = some d) (hd : d.isRow = true) (n : Nat) (hi : (P.info? ty).map (·.size) = some n) (hs : cs.size = n)
    (h : wpList P ops Q rest (a.put op.dst (.agg cs)) w) : wpList P ops Q (op :: rest) a w :=
  wpList_load_mid hgd ty x ho b 0 hx cs.toList d hk.rangeAt hu hd (by rw [hi]; simp [hs]) (by simpa using h)
/-- .. behind a guard that holds -/
theorem wpList_load_blk_if (hw : Region.wanted op (yielded ops a.tmps) = true) (ty : TypeId) (x : Operand) (ho : op.op = .load ty x) (b : Nat) (hx : a.eval x = .pointer (some ⟨b, 0, none⟩)) (cs : Array Value) (T : TypeId) (hk : Blk w b cs T)
    (d : TypeDesc) (hu : P.underlying ty = some d) (hd : d.isRow = true) (n : Nat) (hi : (P.info? ty).map (·.size) = some n) (hs : cs.size = n)
    (h : wpList P ops Q rest (a.put op.dst (.agg cs)) w) : wpList P ops Q (op :: rest) a w := by
  unfold wpList
  rw [if_pos hw]
  exact .inl (wp_load_mid ty x ho b 0 hx cs.toList d hk.rangeAt hu hd (by rw [hi]; simp [hs]) (by simpa using h))
theorem But.setCells {b : Nat} {w0 : World} : ∀ (vs : List Value) (o : Nat) (w : World), But b w0 w → But b w0 (w.setCells b o vs)
  | [], _, _, h => h
  | v :: vs, o, w, h => by
    rw [World.setCells]
    exact But.setCells vs (o + 1) _ (h.set (p := ⟨b, o, none⟩) (.inl rfl) v)
theorem setCells_is : ∀ (vs : List Value) (b o : Nat) (w : World), w.setCells b o vs = setAll w b o vs
  | [], _, _, _ => rfl
  | v :: vs, b, o, w => by rw [World.setCells]; exact setCells_is vs b (o + 1) _
/-- A whole variable is written: all else stays. -/
theorem wpList_store_blk (hgd : op.guard = none) (ty : TypeId) (x y : Operand) (ho : op.op = .store ty x y) (b : Nat) (cells : Array Value) (hx : a.eval x = .pointer (some ⟨b, 0, none⟩)) (hy : a.eval y = .agg cells)
    (cs : Array Value) (T : TypeId) (hk : Blk w b cs T) (n : Nat) (hi : (P.info? ty).map (·.size) = some n) (hs : cs.size = n) (hn : cells.size = n) (h1 : cells.all (·.oneCell') = true)
    (h : ∀ w', But b w w' → Blk w' b cells T → wpList P ops Q rest (a.put op.dst undef) w') : wpList P ops Q (op :: rest) a w := by
  refine wpList_store_mid hgd ty x y ho b 0 cells hx hy (hk.there (by omega)) (by rw [hi, hn]) h1 (h _ (But.setCells _ _ _ (But.of (Below.refl _ _))) ?_)
  rw [setCells_is]
  have := hk.setAll_self cells.toList (by simp; omega)
  simpa using this
/-- .. in a region that draws its order -/
theorem quiet_load_blk {C : World → Prop} {K : Act → Prop} (ty : TypeId) (x : Operand) (ho : op.op = .load ty x) (b : Nat) (hx : a.eval x = .pointer (some ⟨b, 0, none⟩)) (cs : Array Value)
    (hk : ∀ w', C w' → ∃ T, Blk w' b cs T) (d : TypeDesc) (hu : P.underlying ty = some d) (hd : d.isRow = true) (n : Nat) (hi : (P.info? ty).map (·.size) = some n) (hs : cs.size = n)
    (h : K (a.put op.dst (.agg cs))) : op.quiet P a C K :=
  ⟨.agg cs, fun w' hw' => by
    obtain ⟨T, hb⟩ := hk w' hw'
    unfold Oper.quietAt execOp
    simp only [ho, hx, Instr.loadAt, Instr.sureAddr, Sem.run_bind, Sem.run_pure, Result.andThen_ok, run_loadVar_mid w' b 0 ty cs.toList d hb.rangeAt hu hd (by rw [hi]; simp [hs])]
    simp [Oper.quietUpon], h⟩
/-- What a function that answers an array hands back. -/
theorem results_blk {fn : Func} {p : Tmp} {ty : TypeId} (h : fn.results = #[.cell p ty]) (tmps : Array Value) (b : Nat) (hp : tmps.getD p undef = .pointer (some ⟨b, 0, none⟩)) (cs : Array Value) (T : TypeId) (hk : Blk w b cs T)
    (d : TypeDesc) (hu : P.underlying ty = some d) (hd : d.isRow = true) (n : Nat) (hi : (P.info? ty).map (·.size) = some n) (hs : cs.size = n) : (results fn tmps).run P w = .ok (.agg cs) w := by
  exact results_cell_row h tmps w b T cs (0, 0) d hp hk hu (by cases d <;> simp_all) (by rw [hi, hs])
/-- .. an array and one value more. -/
theorem results_blk_tmp {fn : Func} {p u : Tmp} {ty : TypeId} (h : fn.results = #[.cell p ty, .tmp u]) (tmps : Array Value) (b : Nat) (hp : tmps.getD p undef = .pointer (some ⟨b, 0, none⟩)) (v : Value) (hv : tmps.getD u undef = v) (cs : Array Value) (T : TypeId) (hk : Blk w b cs T)
    (d : TypeDesc) (hu : P.underlying ty = some d) (hd : d.isRow = true) (n : Nat) (hi : (P.info? ty).map (·.size) = some n) (hs : cs.size = n) : (results fn tmps).run P w = .ok (.tuple #[.agg cs, v]) w := by
  have hp' : tmps[p]?.getD undef = .pointer (some ⟨b, 0, none⟩) := by simpa using hp
  have hv' : tmps[u]?.getD undef = v := by simpa using hv
  have hl := run_loadVar_row (P := P) w b T ty cs (0, 0) d hk hu (by cases d <;> simp_all) (by rw [hi, hs])
  simp [results, h, hp', hv', asAddr, hl]
end
end Go.Proofs.YtpinamdgbijjlaaGreatDoor
namespace Go.Proofs.YtpinamdgbijjlaaGreatDoor
set_option maxRecDepth 100000
open Go.RowKit
/-- the k bytes of a number, the highest first -/
def be : Nat → Int → List Int
  | 0, _ => []
  | k + 1, n => be k (n / 256) ++ [n % 256]
theorem be_length : ∀ (k : Nat) (n : Int), (be k n).length = k
  | 0, _ => rfl
  | k + 1, n => by simp [be, be_length k]
theorem be_small : ∀ (k : Nat) (n : Int), ∀ x ∈ be k n, 0 ≤ x ∧ x < 256
  | 0, _ => by simp [be]
  | k + 1, n => by
    intro x hx
    simp only [be, List.mem_append, List.mem_cons, List.not_mem_nil, or_false] at hx
    rcases hx with h | rfl
    · exact be_small k _ x h
    · omega
/-- the next byte ahead of those that are there -/
theorem be_front : ∀ (j : Nat) (n : Int), be (j + 1) n = (n / (256 : Int) ^ j % 256) :: be j n
  | 0, n => by simp [be]
  | j + 1, n => by
    rw [be, be_front j (n / 256)]
    have : n / 256 / (256 : Int) ^ j = n / (256 : Int) ^ (j + 1) := by
      rw [Int.ediv_ediv_of_nonneg (by omega), Int.pow_succ, Int.mul_comm]
    rw [this]
    simp [be]
theorem replicate_set (m : Nat) (l : List Int) (x : Int) : (List.replicate (m + 1) 0 ++ l).set m x = List.replicate m 0 ++ (x :: l) := by
  rw [List.replicate_succ', List.append_assoc, List.set_append_right _ _ (by simp)]
  simp
/-- the number that bytes are -/
def numOf (bs : List Int) : Int := bs.foldl (fun n x => 256 * n + x) 0
theorem numOf_snoc (bs : List Int) (x : Int) : numOf (bs ++ [x]) = 256 * numOf bs + x := by simp [numOf]
/-- Block g begins with these bytes. -/
def Row8 (w : World) (g : Nat) (bs : List Int) : Prop := ∃ cs T, Blk w g cs T ∧ ∀ i, i < bs.length → cs[i]? = some (.int .u8 (bs.getD i 0))
theorem Row8.below {w w' : World} {g : Nat} {bs : List Int} (h : Row8 w g bs) (hb : Below w.heap.size w w') : Row8 w' g bs := by
  obtain ⟨cs, T, hk, hc⟩ := h
  exact ⟨cs, T, hk.below hb, hc⟩
theorem Row8.of_blk {w : World} {g : Nat} {bs : List Int} {T : TypeId} (h : Blk w g (bs.map (Value.int .u8)).toArray T) : Row8 w g bs :=
  ⟨_, T, h, fun i hi => by simp [hi]⟩
theorem Row8.of_owns {w : World} {base e g n cap : Nat} {bs : List Int} (h : w.ownsRow base e 1 (.slice (some ⟨g, 0, none⟩) n cap) n (bs.map (Value.int .u8))) : base ≤ g ∧ Row8 w g bs := by
  obtain ⟨hl, h | ⟨g', cap', cur, hv, hg, hh, _, _, hs, htk⟩⟩ := h
  · simp at h
  · simp only [Value.slice.injEq, Option.some.injEq, Addr.mk.injEq, true_and, and_true] at hv
    obtain ⟨rfl, rfl⟩ := hv
    refine ⟨hg, cur, e, hh, fun i hi => ?_⟩
    have h1 : (List.map (Value.int .u8) bs)[i]? = some (.int .u8 (bs.getD i 0)) := by simp [hi]
    simp only [List.length_map] at hl
    rw [← htk, List.getElem?_take, if_pos (by omega)] at h1
    simpa using h1
end Go.Proofs.YtpinamdgbijjlaaGreatDoor
namespace Go.Proofs.YtpinamdgbijjlaaGreatDoor
set_option maxRecDepth 100000
open Go.ChangeShapes Go.WideShapes Go.ChangeAt Go.RowKit
theorem wf_u8 {x : Int} (h : (Lit.int .u8 x).wf = true) : 0 ≤ x ∧ x < 256 := by
  simp [Lit.wf, IntKind.min, IntKind.max, IntKind.signed, IntKind.bits] at h; omega
end Go.Proofs.YtpinamdgbijjlaaGreatDoor
namespace Go.Proofs.YtpinamdgbijjlaaGreatDoor
set_option maxRecDepth 100000
open Go.ChangeShapes Go.WideShapes Go.ChangeAt Go.RowKit
end Go.Proofs.YtpinamdgbijjlaaGreatDoor
namespace Go.Proofs.YtpinamdgbijjlaaGreatDoor
set_option maxRecDepth 100000
open Go.RowKit
section
variable {P : Program} {ops : Array Oper} {md : Region.Mode}
theorem Same.trans {o : Oper} {a b c : Act} (h : Same ops o a b) (k : Same ops o b c) : Same ops o a c := ⟨fun d hd => (h.tmps d hd).trans (k.tmps d hd)⟩
/-- What callees may do to the world: 'R'; whatever makes new memory alone is let. -/
structure Rel (R : World → World → Prop) : Prop where
  of : ∀ {a b : World}, Below a.heap.size a b → R a b
  trans : ∀ {a b c : World}, R a b → R b c → R a c
theorem rel_below : Rel (fun a b => Below a.heap.size a b) := ⟨fun h => h, fun h k => h.trans (k.mono h.size)⟩
/-- In every world that is as w was and meets F the operation yields what stands in A's slot, from whatever frame it can't tell from A; and leaves what was there. -/
def Det (P : Program) (ops : Array Oper) (R : World → World → Prop) (w : World) (A : Act) (F : World → Prop) (o : Oper) : Prop :=
  ∀ w1, R w w1 → F w1 → ∀ a' : Act, a'.tmps.size = A.tmps.size → Same ops o a' A →
    ∃ v, YieldsIn P ops (fun w' => ∃ x : Ext w1, w' = x.at_) o v a' ∧ ∀ b : Act, b.tmps.size = A.tmps.size → b.put o.dst v = b.put o.dst (slotOf A o.dst)
theorem stF_defers : ∀ (l : List (Option Tmp × Value)) (f : Nat → Bool) (i : Nat) (a : Act), (stF l f i a).defers = a.defers
  | [], _, _, _ => rfl
  | (d, v) :: l, f, i, a => by
    simp only [stF]
    rw [stF_defers l]
    split
    · cases d <;> rfl
    · rfl
/-- What one level's walk gives. -/
theorem det_of_walk {R : World → World → Prop} {w : World} {F : World → Prop} {lo : List Oper} {S A : Act}
    (hsel : ∀ o ∈ lo, ∀ cs b, o.op ≠ .select cs b)
    (hdst : lo.Pairwise fun x y => ∀ e, x.dst = some e → y.dst ≠ some e)
    (hlook : ∀ (k k' : Nat) (x y : Oper) (d : Tmp), lo[k]? = some x → lo[k']? = some y → k ≤ k' → y.dst = some d → d ∉ x.looksAt ops)
    (h : ∀ w1, R w w1 → F w1 → wpQuiet P ops (fun w' => ∃ x : Ext w1, w' = x.at_) (fun a' => a' = A) lo S) :
    ∀ o ∈ lo, Det P ops R w A F o := by
  intro o ho w1 hb hF a' hs hsame
  obtain ⟨k, hk, rfl⟩ := List.getElem_of_mem ho
  obtain ⟨vs, hm, hq, hy⟩ := wpQuiet_vals lo S (h w1 hb hF)
  obtain ⟨v, hvk, hyk⟩ := hy k lo[k] (List.getElem?_eq_getElem hk)
  have hlen : vs.length = lo.length := by simpa using congrArg List.length hm
  have hp : vs.Pairwise fun x y => ∀ e, x.1 = some e → y.1 ≠ some e := by
    have := hdst
    rw [List.pairwise_iff_getElem] at this ⊢
    intro i j hi hj hij e he he'
    have e1 : (vs.map (·.1))[i]? = some (some e) := by simp [hi, he]
    have e2 : (vs.map (·.1))[j]? = some (some e) := by simp [hj, he']
    rw [hm] at e1 e2
    simp only [List.getElem?_map, Option.map_eq_some_iff] at e1 e2
    obtain ⟨o1, h1, hd1⟩ := e1
    obtain ⟨o2, h2, hd2⟩ := e2
    have q1 : lo[i]? = some lo[i] := List.getElem?_eq_getElem (by omega)
    have q2 : lo[j]? = some lo[j] := List.getElem?_eq_getElem (by omega)
    rw [q1] at h1; rw [q2] at h2
    obtain rfl := Option.some.inj h1
    obtain rfl := Option.some.inj h2
    exact this i j (by omega) (by omega) hij e hd1 hd2
  have hAsz : A.tmps.size = S.tmps.size := by rw [← hq]; exact stF_size _ _ _ _
  have hsL : Same ops lo[k] A (stF vs (fun j => decide (j < k)) 0 S) := by
    rw [← hq]
    refine stF_same vs _ _ 0 S S Same.refl rfl fun k' d v' hk' hne hmem => ?_
    have hkk : k ≤ k' := by
      rcases Nat.lt_or_ge k' k with h | h
      · simp [h] at hne
      · exact h
    have e1 : (vs.map (·.1))[k']? = some (some d) := by simp [hk']
    rw [hm] at e1
    simp only [List.getElem?_map, Option.map_eq_some_iff] at e1
    obtain ⟨y, hy1, hy2⟩ := e1
    exact hlook k k' lo[k] y d (List.getElem?_eq_getElem hk) hy1 hkk hy2 hmem
  refine ⟨v, (hsame.trans hsL).yields (fun cs b => hsel _ ho cs b) hyk, fun b hb' => ?_⟩
  have := vals_of_fin (a := S) (pre := lo) hm hp hq k (lo[k].dst, v) (lo[k].dst, slotOf A lo[k].dst) hvk (by simp [hk])
  exact this.2 b (by rw [hb', hAsz])
theorem Det.mono {R : World → World → Prop} {w : World} {A A2 : Act} {F F2 : World → Prop} {o : Oper} (h : Det P ops R w A F o) (hs : A2.tmps.size = A.tmps.size) (hF : ∀ w', F2 w' → F w') (hl : Same ops o A2 A) (hd : slotOf A2 o.dst = slotOf A o.dst) : Det P ops R w A2 F2 o := by
  intro w1 hb hF1 a' ha hsame
  obtain ⟨v, h1, h2⟩ := h w1 hb (hF w1 hF1) a' (ha.trans hs) (hsame.trans hl)
  exact ⟨v, h1, fun b hb' => by rw [hd]; exact h2 b (hb'.trans hs)⟩
/-- An operation that yields some value of which the fact is known, and leaves what was there. -/
def NdOK (P : Program) (ops : Array Oper) (R : World → World → Prop) (A : Act) (w1 : World) (Fact : Value → World → Prop) (o : Oper) : Prop :=
  Region.wanted o (yielded ops A.tmps) = true ∧
  ((∃ v w2, (execOp A.eval o).run P w1 = .ok (.value v) w2 ∧ R w1 w2 ∧ Fact v w2) ∨
   ∃ f args, (execOp A.eval o).run P w1 = .ok (.enter f args) w1 ∧ Calls P f args w1 fun e w2 => ∃ v, e = .returned v ∧ R w1 w2 ∧ Fact v w2)
/-- The walk, level by level. 'F': what the operations of the levels lean on, for good; 'G': what the next call leans on. -/
def LexP (P : Program) (ops : Array Oper) (R : World → World → Prop) (w : World) (Fin : Act → World → Prop) : List (Nat × List Nat) → Act → (World → Prop) → (World → Prop) → Prop
  | [], A, F, G => ∀ w1, R w w1 → F w1 → G w1 → Fin A w1
  | (nd, lv) :: ph, A, F, G => ∃ o, ops[nd]? = some o ∧ ∃ Fact Gact : Value → World → Prop, (∀ v w' w'', Fact v w' → Below w'.heap.size w' w'' → Fact v w'') ∧ (∀ v w' w'', Gact v w' → Below w'.heap.size w' w'' → Gact v w'') ∧ (∀ v w', Fact v w' → F w') ∧
      (∀ w1, R w w1 → F w1 → G w1 → NdOK P ops R A w1 (fun v w2 => Fact v w2 ∧ Gact v w2) o) ∧
      ∀ v w0, Fact v w0 → ∃ A', (∀ w1, R w w1 → Fact v w1 → wpQuiet P ops (fun w' => ∃ x : Ext w1, w' = x.at_) (fun a' => a' = A') (lv.filterMap (ops[·]?)) (A.put o.dst v)) ∧
        LexP P ops R w Fin ph A' (Fact v) (Gact v)
def flat : List (Nat × List Nat) → List Nat
  | [] => []
  | (nd, lv) :: ph => nd :: (lv ++ flat ph)
/-- what operation j looks at is made by these, for which it waits -/
def looksB (md : Region.Mode) (ops : Array Oper) (N1 : Nat) (from_ : List Nat) (j : Nat) : Bool :=
  match ops[j]? with
  | some o => (List.range N1).all fun k => match (ops[k]?).bind (·.dst) with
    | some d => !(o.looksAt ops).contains d || (from_.contains k && Region.waitsFor md ops j k)
    | none => true
  | none => true
/-- a level's operations, each behind those that it looks at -/
def levB (md : Region.Mode) (ops : Array Oper) (N1 : Nat) : List Nat → List Nat → Bool
  | _, [] => true
  | from_, j :: r => decide (j < N1) && !from_.contains j && looksB md ops N1 from_ j && levB md ops N1 (from_ ++ [j]) r
def phB (md : Region.Mode) (ops : Array Oper) (N1 : Nat) : List Nat → List (Nat × List Nat) → Bool
  | _, [] => true
  | from_, (nd, lv) :: ph => decide (nd < N1) && !from_.contains nd && looksB md ops N1 from_ nd && levB md ops N1 (from_ ++ [nd]) lv &&
      ((lv ++ flat ph).all fun j => (flat ((nd, lv) :: ph)).any fun i => Region.waitsFor md ops j i) && phB md ops N1 (from_ ++ [nd] ++ lv) ph
def phasesB (md : Region.Mode) (ops : Array Oper) (N1 : Nat) (lev : List Nat) (ph : List (Nat × List Nat)) : Bool :=
  Region.noSelect ops && decide (N1 ≤ ops.size) &&
  ((List.range N1).all fun i => (List.range N1).all fun j => decide (j ≤ i) || match (ops[i]?).bind (·.dst) with
    | some d => (ops[j]?).bind (·.dst) != some d
    | none => true) &&
  levB md ops N1 [] lev && phB md ops N1 lev ph && ((List.range N1).all fun i => (lev ++ flat ph).contains i) &&
  ((List.range ops.size).all fun t => decide (t < N1) || (List.range t).all fun i => Region.waitsFor md ops t i) &&
  ((List.range ops.size).all fun j => match ops[j]? with
    | some o => o.after.all fun e => !Region.binds md e || decide (e.on < j)
    | none => true) &&
  Region.seqB md ops (ops.size - N1) N1 (full ops.size N1)
theorem looks_spec {N1 j : Nat} {from_ : List Nat} {o : Oper} (h : looksB md ops N1 from_ j = true) (ho : ops[j]? = some o) : ∀ (k : Nat) (d : Tmp), k < N1 → (ops[k]?).bind (·.dst) = some d → d ∈ o.looksAt ops → k ∈ from_ ∧ Region.waitsFor md ops j k = true := by
  intro k d hk hd hm
  simp only [looksB, ho, List.all_eq_true, List.mem_range] at h
  have := h k hk
  simp only [hd, Bool.or_eq_true, Bool.and_eq_true, Bool.not_eq_true'] at this
  rcases this with h | h
  · exfalso
    have h2 : (o.looksAt ops).contains d = true := by simpa using hm
    rw [h] at h2; cases h2
  · exact ⟨by simpa using h.1, h.2⟩
theorem looksB_mono {N1 j : Nat} {from_ from2 : List Nat} (hs : ∀ k ∈ from_, k ∈ from2) (h : looksB md ops N1 from_ j = true) : looksB md ops N1 from2 j = true := by
  unfold looksB at *
  cases ho : ops[j]? with
  | none => rfl
  | some o =>
    simp only [ho, List.all_eq_true, List.mem_range] at h ⊢
    intro k hk
    have := h k hk
    cases hd : (ops[k]?).bind (·.dst) with
    | none => rfl
    | some d =>
      simp only [hd, Bool.or_eq_true, Bool.and_eq_true, Bool.not_eq_true'] at this ⊢
      rcases this with h | h
      · exact .inl h
      · exact .inr ⟨by simpa using hs k (by simpa using h.1), h.2⟩
theorem levB_at {N1 : Nat} : ∀ (lv from_ : List Nat), levB md ops N1 from_ lv = true → ∀ (k j : Nat), lv[k]? = some j → j < N1 ∧ j ∉ from_ ++ lv.take k ∧ looksB md ops N1 (from_ ++ lv.take k) j = true
  | [], _, _, k, j, hk => by simp at hk
  | x :: r, from_, h, k, j, hk => by
    simp only [levB, Bool.and_eq_true, decide_eq_true_eq, Bool.not_eq_true'] at h
    obtain ⟨⟨⟨h1, h2⟩, h3⟩, h4⟩ := h
    cases k with
    | zero =>
      simp at hk
      subst hk
      refine ⟨h1, ?_, ?_⟩
      · simpa using h2
      · simpa using h3
    | succ k =>
      have := levB_at r (from_ ++ [x]) h4 k j (by simpa using hk)
      simpa using this
theorem fm_get : ∀ (lv : List Nat), (∀ j ∈ lv, j < ops.size) → ∀ (k : Nat), (lv.filterMap (ops[·]?))[k]? = (lv[k]?).bind (ops[·]?)
  | [], _, k => by simp
  | j :: r, h, k => by
    have ho : ops[j]? = some (ops[j]'(h j (by simp))) := Array.getElem?_eq_getElem _
    rw [List.filterMap_cons]
    simp only [ho]
    cases k with
    | zero => simp [ho]
    | succ k => simpa using fm_get r (fun j hj => h j (by simp [hj])) k
structure Gl (md : Region.Mode) (ops : Array Oper) (N1 : Nat) : Prop where
  sel : ∀ (j : Nat) (o : Oper) cs b, ops[j]? = some o → o.op ≠ .select cs b
  le : N1 ≤ ops.size
  apart : ∀ i j, i < N1 → j < N1 → i ≠ j → ∀ d, (ops[i]?).bind (·.dst) = some d → (ops[j]?).bind (·.dst) ≠ some d
  tail : ∀ t i, t < ops.size → N1 ≤ t → i < t → Region.waitsFor md ops t i = true
  down : ∀ (j : Nat) (o : Oper) e, ops[j]? = some o → e ∈ o.after → Region.binds md e = true → e.on < j
  seq : Region.seqB md ops (ops.size - N1) N1 (full ops.size N1) = true
/-- a level's operations are apart from all others -/
theorem level_of {N1 : Nat} (hle : N1 ≤ ops.size) (hap : ∀ i j, i < N1 → j < N1 → i ≠ j → ∀ d, (ops[i]?).bind (·.dst) = some d → (ops[j]?).bind (·.dst) ≠ some d) {from_ lv : List Nat} (h : levB md ops N1 from_ lv = true) :
    (∀ o ∈ lv.filterMap (ops[·]?), ∃ j ∈ lv, ops[j]? = some o) ∧
    ((lv.filterMap (ops[·]?)).Pairwise fun x y => ∀ e, x.dst = some e → y.dst ≠ some e) ∧
    (∀ (k k' : Nat) (x y : Oper) (d : Tmp), (lv.filterMap (ops[·]?))[k]? = some x → (lv.filterMap (ops[·]?))[k']? = some y → k ≤ k' → y.dst = some d → d ∉ x.looksAt ops) := by
  have hlt : ∀ j ∈ lv, j < ops.size := fun j hj => by
    obtain ⟨i, hi, he⟩ := List.getElem_of_mem hj
    have := (levB_at lv _ h i j (by rw [List.getElem?_eq_getElem hi, he])).1
    omega
  refine ⟨fun o ho => ?_, ?_, ?_⟩
  · rw [List.mem_filterMap] at ho
    exact ho
  · rw [List.pairwise_iff_getElem]
    intro i j hi hj hij e he he'
    have q1 : (lv.filterMap (ops[·]?))[i]? = some (lv.filterMap (ops[·]?))[i] := List.getElem?_eq_getElem hi
    have q2 : (lv.filterMap (ops[·]?))[j]? = some (lv.filterMap (ops[·]?))[j] := List.getElem?_eq_getElem hj
    rw [fm_get lv hlt, Option.bind_eq_some_iff] at q1 q2
    obtain ⟨x, hx, hox⟩ := q1
    obtain ⟨y, hy, hoy⟩ := q2
    have h1 := levB_at lv _ h i x hx
    have h2 := levB_at lv _ h j y hy
    have hne : x ≠ y := by
      rintro rfl
      refine h2.2.1 (List.mem_append_right _ ?_)
      have : (lv.take j)[i]? = some x := by rw [List.getElem?_take, if_pos hij]; exact hx
      exact List.mem_of_getElem? this
    exact hap x y h1.1 h2.1 hne e (by rw [hox]; exact he) (by rw [hoy]; exact he')
  · intro k k' x y d hx hy hle hd hm
    rw [fm_get lv hlt, Option.bind_eq_some_iff] at hx hy
    obtain ⟨i, hi, hoi⟩ := hx
    obtain ⟨j, hj, hoj⟩ := hy
    have h1 := levB_at lv _ h k i hi
    have h2 := levB_at lv _ h k' j hj
    have := (looks_spec h1.2.2 hoi j d h2.1 (by rw [hoj]; exact hd) hm).1
    refine h2.2.1 ?_
    rw [List.mem_append] at this ⊢
    refine this.imp id fun h => ?_
    obtain ⟨p, hp, he⟩ := List.getElem_of_mem h
    have hp' : p < k := by rw [List.length_take] at hp; omega
    have : (lv.take k')[p]? = some j := by
      rw [List.getElem?_take, if_pos (by omega)]
      have e2 : (lv.take k)[p]? = some j := by rw [List.getElem?_eq_getElem hp, he]
      rw [List.getElem?_take, if_pos hp'] at e2
      exact e2
    exact List.mem_of_getElem? this
/-- What a walk leaves alone. -/
theorem walk_rest {C : World → Prop} {S A : Act} {lo : List Oper} (h : wpQuiet P ops C (fun a' => a' = A) lo S) :
    A.tmps.size = S.tmps.size ∧ A.defers = S.defers ∧ ∀ d, (∀ o ∈ lo, o.dst ≠ some d) → A.tmps[d]? = S.tmps[d]? := by
  obtain ⟨vs, hm, hq, _⟩ := wpQuiet_vals lo S h
  refine ⟨by rw [← hq]; exact stF_size _ _ _ _, by rw [← hq]; exact stF_defers _ _ _ _, fun d hd => ?_⟩
  rw [← hq]
  refine stF_slot vs 0 S d fun x hx he => ?_
  have : x.1 ∈ vs.map (·.1) := List.mem_map_of_mem hx
  rw [hm, List.mem_map] at this
  obtain ⟨o, ho, hod⟩ := this
  exact hd o ho (hod.trans he)
structure PInv (R : World → World → Prop) (P : Program) (md : Region.Mode) (ops : Array Oper) (N1 : Nat) (a0 : Act) (w : World) (from_ : List Nat) (A : Act) (F G : World → Prop) (listed : Array Bool) : Prop where
  sub : ∀ j, listed.getD j false = true → j ∈ from_
  lt : ∀ j ∈ from_, j < N1
  looks : ∀ j ∈ from_, looksB md ops N1 from_ j = true
  det : ∀ j ∈ from_, ∀ o, ops[j]? = some o → listed.getD j false = false → Det P ops R w A F o
  old : ∀ d, (∀ k ∈ from_, (ops[k]?).bind (·.dst) ≠ some d) → A.tmps[d]? = a0.tmps[d]?
  sz : A.tmps.size = a0.tmps.size
  df : A.defers = a0.defers
  stab : ∀ w' w'', F w' → Below w'.heap.size w' w'' → F w''
  gstab : ∀ w' w'', G w' → Below w'.heap.size w' w'' → G w''
structure PAt (R : World → World → Prop) (ops : Array Oper) (a0 : Act) (w : World) (A : Act) (F G : World → Prop) (listed : Array Bool) (a' : Act) (w' : World) : Prop where
  below : R w w'
  fact : F w'
  gact : G w'
  sz : a'.tmps.size = A.tmps.size
  df : a'.defers = A.defers
  on : ∀ j d, listed.getD j false = true → (ops[j]?).bind (·.dst) = some d → a'.tmps[d]? = A.tmps[d]?
  off : ∀ d, (∀ j, listed.getD j false = true → (ops[j]?).bind (·.dst) ≠ some d) → a'.tmps[d]? = a0.tmps[d]?
theorem ready_of (hdown : ∀ (j : Nat) (o : Oper) e, ops[j]? = some o → e ∈ o.after → Region.binds md e = true → e.on < j) {listed : Array Bool} (hs : listed.size = ops.size) : ∀ i, i < ops.size → listed.getD i false = false → ∃ j, j ∈ Region.ready md ops listed := by
  intro i
  induction i using Nat.strongRecOn with
  | _ i ih =>
    intro hi hu
    obtain ⟨o, ho⟩ : ∃ o, ops[i]? = some o := ⟨_, Array.getElem?_eq_getElem hi⟩
    by_cases hall : ∀ e ∈ o.after, Region.binds md e = true → listed.getD e.on false = true
    · exact ⟨i, mem_ready.2 ⟨getD_in (by omega) hu, o, ho, hall⟩⟩
    · have : ∃ e, e ∈ o.after ∧ Region.binds md e = true ∧ listed.getD e.on false = false := by
        apply Classical.byContradiction
        intro hn
        refine hall fun e he hb => ?_
        cases hl : listed.getD e.on false
        · exact absurd ⟨e, he, hb, hl⟩ hn
        · rfl
      obtain ⟨e, he, hb, hl⟩ := this
      have hlt := hdown i o e ho he hb
      exact ih e.on hlt (by omega) hl
theorem put_get_self (a b : Act) (d : Tmp) (hs : a.tmps.size = b.tmps.size) : (a.put (some d) (slotOf b (some d))).tmps[d]? = b.tmps[d]? := by
  simp only [Act.put, slotOf]
  by_cases h : (d : Nat) < b.tmps.size
  · simp [h, hs]
  · simp [h, hs]
theorem put_get_ne (a : Act) (dst : Option Tmp) (v : Value) (d : Tmp) (h : dst ≠ some d) : (a.put dst v).tmps[d]? = a.tmps[d]? := by
  cases dst with
  | none => rfl
  | some e =>
    have hne : e ≠ d := fun he => h (by rw [he])
    simp only [Act.put]
    rw [Array.getElem?_setIfInBounds_ne hne]
theorem put_defers (a : Act) (d : Option Tmp) (v : Value) : (a.put d v).defers = a.defers := by cases d <;> rfl
/-- the operations with these numbers -/
def pick (ops : Array Oper) : List Nat → List Oper
  | [] => []
  | j :: r => (ops[j]?).toList ++ pick ops r
theorem pick_eq : ∀ lv : List Nat, lv.filterMap (ops[·]?) = pick ops lv
  | [] => rfl
  | j :: r => by
    simp only [pick, ← pick_eq r, List.filterMap_cons]
    cases h : ops[j]? <;> simp
theorem But.trans {b : Nat} {w w' w'' : World} (h : But b w w') (h2 : But b w' w'') : But b w w'' :=
  ⟨h2.os.trans h.os, h2.tape.trans h.tape, h2.output.trans h.output, Nat.le_trans h.size h2.size, fun k hk hne => (h2.block k (Nat.lt_of_lt_of_le hk h.size) hne).trans (h.block k hk hne)⟩
end
end Go.Proofs.YtpinamdgbijjlaaGreatDoor
namespace Go.Proofs.YtpinamdgbijjlaaGreatDoor
set_option maxRecDepth 100000
open Go.RowKit
section
variable {P : Program} {ops : Array Oper} {md : Region.Mode}
/-- An operation waits for another one, by way of others too. -/
def waitB_ (md : Region.Mode) (ops : Array Oper) : Nat → Nat → Nat → Bool
  | 0, t, i => Region.waitsFor md ops t i
  | n + 1, t, i => Region.waitsFor md ops t i || (List.range t).any fun j => Region.waitsFor md ops t j && waitB_ md ops n j i
theorem waitB_listed {listed : Array Bool} (hstep : ∀ j j', listed.getD j false = true → Region.waitsFor md ops j j' = true → listed.getD j' false = true) : ∀ (n t i : Nat), (∀ j, Region.waitsFor md ops t j = true → listed.getD j false = true) → waitB_ md ops n t i = true → listed.getD i false = true
  | 0, _, i, h, hw => h i hw
  | n + 1, t, i, h, hw => by
    simp only [waitB_, Bool.or_eq_true, List.any_eq_true, Bool.and_eq_true] at hw
    rcases hw with hw | ⟨j, _, h1, h2⟩
    · exact h i hw
    · exact waitB_listed hstep n j i (fun j' hw' => hstep j j' (h j h1) hw') h2
/-- What the theorem asks of the region. -/
structure Fg (md : Region.Mode) (ops : Array Oper) (N1 : Nat) : Prop where
  sel : ∀ (j : Nat) (o : Oper) cs b, ops[j]? = some o → o.op ≠ .select cs b
  le : N1 ≤ ops.size
  apart : ∀ i j, i < N1 → j < N1 → i ≠ j → ∀ d, (ops[i]?).bind (·.dst) = some d → (ops[j]?).bind (·.dst) ≠ some d
  tail : ∀ t i, t < ops.size → N1 ≤ t → i < N1 → waitB_ md ops 5 t i = true
  down : ∀ (j : Nat) (o : Oper) e, ops[j]? = some o → e ∈ o.after → Region.binds md e = true → e.on < j
  seq : Region.seqB md ops (ops.size - N1) N1 (full ops.size N1) = true
theorem Fg.level {N1 : Nat} (g : Fg md ops N1) {from_ lv : List Nat} (h : levB md ops N1 from_ lv = true) :
    (∀ o ∈ lv.filterMap (ops[·]?), ∃ j ∈ lv, ops[j]? = some o) ∧
    ((lv.filterMap (ops[·]?)).Pairwise fun x y => ∀ e, x.dst = some e → y.dst ≠ some e) ∧
    (∀ (k k' : Nat) (x y : Oper) (d : Tmp), (lv.filterMap (ops[·]?))[k]? = some x → (lv.filterMap (ops[·]?))[k']? = some y → k ≤ k' → y.dst = some d → d ∉ x.looksAt ops) := level_of g.le g.apart h
/-- A step of the walk: a call in its turn; a block that is made, met where it is first wanted. -/
inductive Nd where
  | c (j : Nat)
  | b (j : Nat)
abbrev Pend := List (Nat × (Nat → Value) × Obj)
/-- The operation makes this block, and yields a value made of its number. -/
def AlOK (P : Program) (ops : Array Oper) (R : World → World → Prop) (w : World) (A : Act) (F : World → Prop) (mk : Nat → Value) (obj : Obj) (o : Oper) : Prop :=
  Region.wanted o (yielded ops A.tmps) = true ∧ ∀ w1, R w w1 → F w1 → (execOp A.eval o).run P w1 = .ok (.value (mk w1.heap.size)) (w1.alloc obj)
def AlChk (P : Program) (ops : Array Oper) (R : World → World → Prop) (w : World) (A : Act) (F : World → Prop) (K : Pend → Prop) : List Nat → Pend → Prop
  | [], pd => K pd
  | j :: al, pd => ∃ o, ops[j]? = some o ∧ ∃ mk obj, AlOK P ops R w A F mk obj o ∧ AlChk P ops R w A F K al ((j, mk, obj) :: pd)
def After (P : Program) (ops : Array Oper) (R : World → World → Prop) (w : World) (F : World → Prop) (K : Pend → Act → Prop) (lv al : List Nat) (pd : Pend) (A : Act) : Prop :=
  ∃ A', (∀ w1, R w w1 → F w1 → wpQuiet P ops (fun w' => ∃ x : Ext w1, w' = x.at_) (fun a' => a' = A') (pick ops lv) A) ∧ AlChk P ops R w A' F (fun pd' => K pd' A') al pd
def Walk (P : Program) (ops : Array Oper) (R : World → World → Prop) (w : World) (Fin : Act → World → Prop) : List (Nd × List Nat × List Nat) → Pend → Act → (World → Prop) → (World → Prop) → Prop
  | [], _, A, F, G => ∀ w1, R w w1 → F w1 → G w1 → Fin A w1
  | (.c j, lv, al) :: ph, pd, A, F, G => ∃ o, ops[j]? = some o ∧ ∃ Fact Gact : Value → World → Prop, (∀ v w' w'', R w w' → Fact v w' → R w' w'' → Fact v w'') ∧ (∀ v w' w'', Gact v w' → Below w'.heap.size w' w'' → Gact v w'') ∧
      (∀ w1, R w w1 → F w1 → G w1 → NdOK P ops R A w1 (fun v w2 => Fact v w2 ∧ Gact v w2) o) ∧
      ∀ v w0, R w w0 → F w0 → Fact v w0 → After P ops R w (fun w1 => F w1 ∧ Fact v w1) (fun pd' A' => Walk P ops R w Fin ph pd' A' (fun w1 => F w1 ∧ Fact v w1) (Gact v)) lv al pd (A.put o.dst v)
  | (.b j, lv, al) :: ph, pd, A, F, G => ∃ o, ops[j]? = some o ∧ ∃ mk obj, (j, mk, obj) ∈ pd ∧
      ∀ b w0, R w w0 → F w0 → w.heap.size ≤ b → w0.heap[b]? = some obj → After P ops R w (fun w1 => F w1 ∧ w1.heap[b]? = some obj) (fun pd' A' => Walk P ops R w Fin ph pd' A' (fun w1 => F w1 ∧ w1.heap[b]? = some obj) G) lv al pd (A.put o.dst (mk b))
/-- the operations that these steps bring in -/
def intro_ : List (Nd × List Nat × List Nat) → List Nat
  | [] => []
  | (.c j, lv, al) :: ph => j :: (lv ++ al ++ intro_ ph)
  | (.b _, lv, al) :: ph => lv ++ al ++ intro_ ph
def alB (md : Region.Mode) (ops : Array Oper) (N1 : Nat) (from_ pend : List Nat) (al : List Nat) : Bool :=
  al.all fun j => decide (j < N1) && !from_.contains j && !pend.contains j && looksB md ops N1 from_ j
def waitB (md : Region.Mode) (ops : Array Oper) (j : Nat) (later : List Nat) : Bool :=
  later.all fun i => (j :: later).any fun i' => Region.waitsFor md ops i i'
def fB (md : Region.Mode) (ops : Array Oper) (N1 : Nat) : List Nat → List Nat → List (Nd × List Nat × List Nat) → Bool
  | from_, pend, [] => pend.all fun j => from_.contains j
  | from_, pend, (.c j, lv, al) :: ph => decide (j < N1) && !from_.contains j && !pend.contains j && looksB md ops N1 from_ j && levB md ops N1 (from_ ++ [j]) lv && (lv.all fun k => !pend.contains k) && alB md ops N1 (from_ ++ [j] ++ lv) pend al &&
      waitB md ops j (lv ++ al ++ intro_ ph) && fB md ops N1 (from_ ++ [j] ++ lv) (pend ++ al) ph
  | from_, pend, (.b j, lv, al) :: ph => pend.contains j && !from_.contains j && levB md ops N1 (from_ ++ [j]) lv && (lv.all fun k => !pend.contains k) && alB md ops N1 (from_ ++ [j] ++ lv) pend al &&
      waitB md ops j (lv ++ al ++ intro_ ph) && fB md ops N1 (from_ ++ [j] ++ lv) (pend ++ al) ph
def flowB (md : Region.Mode) (ops : Array Oper) (N1 : Nat) (lev al : List Nat) (ph : List (Nd × List Nat × List Nat)) : Bool :=
  Region.noSelect ops && decide (N1 ≤ ops.size) &&
  ((List.range N1).all fun i => (List.range N1).all fun j => decide (j ≤ i) || match (ops[i]?).bind (·.dst) with
    | some d => (ops[j]?).bind (·.dst) != some d
    | none => true) &&
  levB md ops N1 [] lev && alB md ops N1 lev [] al && fB md ops N1 lev al ph && ((List.range N1).all fun i => (lev ++ al ++ intro_ ph).contains i) &&
  ((List.range ops.size).all fun t => decide (t < N1) || (List.range N1).all fun i => waitB_ md ops 5 t i) &&
  ((List.range ops.size).all fun j => match ops[j]? with
    | some o => o.after.all fun e => !Region.binds md e || decide (e.on < j)
    | none => true) &&
  Region.seqB md ops (ops.size - N1) N1 (full ops.size N1)
theorem alB_at {N1 : Nat} {from_ pend al : List Nat} (h : alB md ops N1 from_ pend al = true) : ∀ j ∈ al, j < N1 ∧ j ∉ from_ ∧ j ∉ pend ∧ looksB md ops N1 from_ j = true := by
  intro j hj
  simp only [alB, List.all_eq_true, Bool.and_eq_true, decide_eq_true_eq, Bool.not_eq_true'] at h
  obtain ⟨⟨⟨h1, h2⟩, h3⟩, h4⟩ := h j hj
  exact ⟨h1, by simpa using h2, by simpa using h3, h4⟩
theorem levB_mem {N1 : Nat} {lv from_ : List Nat} (h : levB md ops N1 from_ lv = true) : ∀ j ∈ lv, j < N1 ∧ j ∉ from_ ∧ looksB md ops N1 (from_ ++ lv) j = true := by
  intro j hj
  obtain ⟨p, hp, he⟩ := List.getElem_of_mem hj
  have := levB_at lv _ h p j (by rw [List.getElem?_eq_getElem hp, he])
  refine ⟨this.1, fun hm => this.2.1 (List.mem_append_left _ hm), looksB_mono (fun k hk => ?_) this.2.2⟩
  rw [List.mem_append] at hk ⊢
  exact hk.imp id List.mem_of_mem_take
theorem fB_off {N1 : Nat} : ∀ (ph : List (Nd × List Nat × List Nat)) (from_ pend : List Nat), fB md ops N1 from_ pend ph = true → ∀ k ∈ intro_ ph, k ∉ from_ ∧ k ∉ pend
  | [], _, _, _, k, hk => by simp [intro_] at hk
  | (.c j, lv, al) :: ph, from_, pend, h, k, hk => by
    simp only [fB, Bool.and_eq_true, decide_eq_true_eq, Bool.not_eq_true'] at h
    obtain ⟨⟨⟨⟨⟨⟨⟨⟨h1, h2⟩, h3⟩, h4⟩, h5⟩, h6⟩, h7⟩, h8⟩, h9⟩ := h
    simp only [intro_, List.mem_cons, List.mem_append] at hk
    rcases hk with rfl | (hk | hk) | hk
    · exact ⟨by simpa using h2, by simpa using h3⟩
    · have := levB_mem h5 k hk
      have h6 := List.all_eq_true.1 h6 k hk
      exact ⟨fun h => this.2.1 (by simp [h]), by simpa using h6⟩
    · have := alB_at h7 k hk
      exact ⟨fun h => this.2.1 (by simp [h]), this.2.2.1⟩
    · have := fB_off ph _ _ h9 k hk
      exact ⟨fun h => this.1 (by simp [h]), fun h => this.2 (by simp [h])⟩
  | (.b j, lv, al) :: ph, from_, pend, h, k, hk => by
    simp only [fB, Bool.and_eq_true, Bool.not_eq_true'] at h
    obtain ⟨⟨⟨⟨⟨⟨h3, h2⟩, h5⟩, h6⟩, h7⟩, h8⟩, h9⟩ := h
    simp only [intro_, List.mem_append] at hk
    rcases hk with (hk | hk) | hk
    · have := levB_mem h5 k hk
      have h6 := List.all_eq_true.1 h6 k hk
      exact ⟨fun h => this.2.1 (by simp [h]), by simpa using h6⟩
    · have := alB_at h7 k hk
      exact ⟨fun h => this.2.1 (by simp [h]), this.2.2.1⟩
    · have := fB_off ph _ _ h9 k hk
      exact ⟨fun h => this.1 (by simp [h]), fun h => this.2 (by simp [h])⟩
/-- What a slot reads as behind a write, in a frame of n slots. -/
def slotV (n d : Nat) (v : Value) : Option Value := if d < n then some v else none
theorem put_slotV (c : Act) (d : Tmp) (v : Value) : (c.put (some d) v).tmps[d]? = slotV c.tmps.size d v := by
  simp only [Act.put, slotV]
  rw [Array.getElem?_setIfInBounds]
  simp
structure FInv (R : World → World → Prop) (P : Program) (md : Region.Mode) (ops : Array Oper) (N1 : Nat) (a0 : Act) (w : World) (from_ : List Nat) (pd : Pend) (A : Act) (F G : World → Prop) (listed : Array Bool) : Prop where
  lt : ∀ j ∈ from_, j < N1
  looks : ∀ j ∈ from_, looksB md ops N1 from_ j = true
  det : ∀ j ∈ from_, ∀ o, ops[j]? = some o → listed.getD j false = false → Det P ops R w A F o
  plt : ∀ p ∈ pd, p.1 < N1
  plooks : ∀ p ∈ pd, looksB md ops N1 from_ p.1 = true
  pok : ∀ p ∈ pd, ∀ o, ops[p.1]? = some o → AlOK P ops R w A F p.2.1 p.2.2 o
  old : ∀ d, (∀ k ∈ from_, (ops[k]?).bind (·.dst) ≠ some d) → A.tmps[d]? = a0.tmps[d]?
  sz : A.tmps.size = a0.tmps.size
  df : A.defers = a0.defers
  stab : ∀ w' w'', R w w' → F w' → R w' w'' → F w''
  gstab : ∀ w' w'', G w' → Below w'.heap.size w' w'' → G w''
structure FAt (R : World → World → Prop) (ops : Array Oper) (a0 : Act) (w : World) (from_ : List Nat) (pd : Pend) (A : Act) (F G : World → Prop) (listed : Array Bool) (a' : Act) (w' : World) : Prop where
  rel : R w w'
  fact : F w'
  gact : G w'
  sz : a'.tmps.size = A.tmps.size
  df : a'.defers = A.defers
  sub : ∀ j, listed.getD j false = true → j ∈ from_ ∨ ∃ p ∈ pd, p.1 = j
  on : ∀ j d, j ∈ from_ → listed.getD j false = true → (ops[j]?).bind (·.dst) = some d → a'.tmps[d]? = A.tmps[d]?
  onp : ∀ p ∈ pd, p.1 ∉ from_ → listed.getD p.1 false = true → ∃ b, w.heap.size ≤ b ∧ w'.heap[b]? = some p.2.2 ∧ ∀ d, (ops[p.1]?).bind (·.dst) = some d → a'.tmps[d]? = slotV a'.tmps.size d (p.2.1 b)
  off : ∀ d, (∀ j, listed.getD j false = true → (ops[j]?).bind (·.dst) ≠ some d) → a'.tmps[d]? = a0.tmps[d]?
/-- What an operation looks at stands in the frame as in the walk's, once all that it waits for has come up. -/
theorem fsame_of {R : World → World → Prop} {N1 i : Nat} {a0 A a' : Act} {w w' : World} {from_ : List Nat} {pd : Pend} {F G : World → Prop} {listed : Array Bool} {o : Oper} (hI : FInv R P md ops N1 a0 w from_ pd A F G listed) (hA : FAt R ops a0 w from_ pd A F G listed a' w')
    (hl : looksB md ops N1 from_ i = true) (ho : ops[i]? = some o) (hdeps : ∀ e ∈ o.after, Region.binds md e = true → listed.getD e.on false = true) : Same ops o a' A := by
  refine ⟨fun d hd => ?_⟩
  by_cases h : ∃ k, k < N1 ∧ (ops[k]?).bind (·.dst) = some d
  · obtain ⟨k, hk, hkd⟩ := h
    obtain ⟨hkf, hwf⟩ := looks_spec hl ho k d hk hkd hd
    obtain ⟨oj, hoj, e, he, hb, hon⟩ := Region.waitsFor_spec hwf
    have : oj = o := Option.some.inj (hoj.symm.trans ho)
    subst this
    have := hdeps e he hb
    rw [hon] at this
    exact hA.on k d hkf this hkd
  · rw [hA.off d (fun j hj hjd => h ⟨j, (hA.sub j hj).elim (hI.lt j) (fun ⟨p, hp, hpj⟩ => hpj ▸ hI.plt p hp), hjd⟩), hI.old d (fun k hk hkd => h ⟨k, hI.lt k hk, hkd⟩)]
theorem AlOK.mono {R : World → World → Prop} {w : World} {A A2 : Act} {F F2 : World → Prop} {mk : Nat → Value} {obj : Obj} {o : Oper} (h : AlOK P ops R w A F mk obj o) (hs : ∀ cs b, o.op ≠ .select cs b) (hF : ∀ w', F2 w' → F w') (hl : Same ops o A2 A) : AlOK P ops R w A2 F2 mk obj o :=
  ⟨by rw [hl.wanted]; exact h.1, fun w1 hr hf => by rw [hl.exec hs]; exact h.2 w1 hr (hF w1 hf)⟩
/-- The walk goes on behind a step whose operation has come up. -/
theorem enter {R : World → World → Prop} {N1 j : Nat} {a0 A A' a' : Act} {w w' : World} {from_ lv al : List Nat} {pd pd' : Pend} {F F2 G G2 : World → Prop} {listed : Array Bool} {o : Oper} {v : Value} (g : Fg md ops N1)
    (hI : FInv R P md ops N1 a0 w from_ pd A F G listed) (hj1 : j < N1) (hjf : j ∉ from_) (hjl : looksB md ops N1 from_ j = true) (ho : ops[j]? = some o) (hlj : listed.getD j false = true)
    (hrel : R w w') (hF2 : F2 w') (hG2 : G2 w') (hmono : ∀ w1, F2 w1 → F w1) (hstab : ∀ w1 w2, R w w1 → F2 w1 → R w1 w2 → F2 w2) (hgstab : ∀ w1 w2, G2 w1 → Below w1.heap.size w1 w2 → G2 w2)
    (hsz : a'.tmps.size = A.tmps.size) (hdf : a'.defers = A.defers) (hsub : ∀ i, listed.getD i false = true → i = j ∨ i ∈ from_ ∨ ∃ p ∈ pd, p.1 = i)
    (hon : ∀ i d, i ∈ from_ → listed.getD i false = true → (ops[i]?).bind (·.dst) = some d → a'.tmps[d]? = A.tmps[d]?)
    (honj : ∀ d, o.dst = some d → a'.tmps[d]? = slotV a'.tmps.size d v)
    (honp : ∀ p ∈ pd, p.1 ≠ j → p.1 ∉ from_ → listed.getD p.1 false = true → ∃ b, w.heap.size ≤ b ∧ w'.heap[b]? = some p.2.2 ∧ ∀ d, (ops[p.1]?).bind (·.dst) = some d → a'.tmps[d]? = slotV a'.tmps.size d (p.2.1 b))
    (hoff : ∀ d, (∀ i, listed.getD i false = true → (ops[i]?).bind (·.dst) ≠ some d) → a'.tmps[d]? = a0.tmps[d]?)
    (hwalk : ∀ w1, R w w1 → F2 w1 → wpQuiet P ops (fun w' => ∃ x : Ext w1, w' = x.at_) (fun a' => a' = A') (pick ops lv) (A.put o.dst v))
    (hlev : levB md ops N1 (from_ ++ [j]) lv = true) (hlp : ∀ k ∈ lv, ∀ p ∈ pd, p.1 ≠ k) (hal : ∀ k ∈ al, k < N1 ∧ k ∉ from_ ++ [j] ++ lv ∧ (∀ p ∈ pd, p.1 ≠ k) ∧ looksB md ops N1 (from_ ++ [j] ++ lv) k = true)
    (hpd : ∀ p ∈ pd', p ∈ pd ∨ (p.1 ∈ al ∧ ∀ o, ops[p.1]? = some o → AlOK P ops R w A' F2 p.2.1 p.2.2 o)) (hpd2 : ∀ p ∈ pd, p ∈ pd') :
    FInv R P md ops N1 a0 w (from_ ++ [j] ++ lv) pd' A' F2 G2 listed ∧ FAt R ops a0 w (from_ ++ [j] ++ lv) pd' A' F2 G2 listed a' w' := by
  have hlvlt := levB_mem hlev
  have hlvl := g.level hlev
  rw [← pick_eq] at hwalk
  obtain ⟨r1, r2, r3⟩ := walk_rest (hwalk w' hrel hF2)
  have hsz' : A'.tmps.size = A.tmps.size := by rw [r1, put_size]
  -- slots of older operations stay
  have hkeep : ∀ d, (∀ i, i = j ∨ i ∈ lv → (ops[i]?).bind (·.dst) ≠ some d) → A'.tmps[d]? = A.tmps[d]? := fun d hd => by
    rw [r3 d fun oo hoo he => by
      obtain ⟨i, hi, hoi⟩ := hlvl.1 oo hoo
      exact hd i (.inr hi) (by rw [hoi]; exact he)]
    exact put_get_ne _ _ _ _ fun he => hd j (.inl rfl) (by rw [ho]; exact he)
  have hkeep2 : ∀ i d, i ∈ from_ → (ops[i]?).bind (·.dst) = some d → A'.tmps[d]? = A.tmps[d]? := fun i d hi hid =>
    hkeep d fun i' hi' hid' => by
      have hne : i ≠ i' := by
        rintro rfl
        rcases hi' with rfl | hi'
        · exact hjf hi
        · exact (hlvlt i hi').2.1 (List.mem_append_left _ hi)
      refine g.apart i i' (hI.lt i hi) ?_ hne d hid hid'
      rcases hi' with rfl | hi'
      · exact hj1
      · exact (hlvlt i' hi').1
  have hnew : ∀ i, i = j ∨ i ∈ lv → i < N1 := fun i hi => by
    rcases hi with rfl | hi
    · exact hj1
    · exact (hlvlt i hi).1
  have hsameA : ∀ (i : Nat) (oi : Oper), ops[i]? = some oi → looksB md ops N1 from_ i = true → Same ops oi A' A := fun i oi hoi hl => ⟨fun d hd => by
    by_cases h : ∃ kk, kk < N1 ∧ (ops[kk]?).bind (·.dst) = some d
    · obtain ⟨kk, hk, hkd⟩ := h
      exact hkeep2 kk d (looks_spec hl hoi kk d hk hkd hd).1 hkd
    · exact hkeep d fun j' hj' hjd' => h ⟨j', hnew j' hj', hjd'⟩⟩
  have hmem : ∀ {k : Nat}, k ∈ from_ ++ [j] ++ lv → k ∈ from_ ∨ k = j ∨ k ∈ lv := fun hk => by simpa [or_assoc] using hk
  have hin : ∀ {k : Nat}, k ∈ from_ → k ∈ from_ ++ [j] ++ lv := fun hk => by simp [hk]
  -- what the walk brings in has not come up
  have hlv0 : ∀ k ∈ lv, listed.getD k false = false := fun k hk => by
    cases h : listed.getD k false
    · rfl
    · exfalso
      rcases hsub k h with rfl | h | ⟨p, hp, hpk⟩
      · exact (hlvlt k hk).2.1 (by simp)
      · exact (hlvlt k hk).2.1 (by simp [h])
      · exact hlp k hk p hp hpk
  have hal0 : ∀ k ∈ al, listed.getD k false = false := fun k hk => by
    cases h : listed.getD k false
    · rfl
    · exfalso
      obtain ⟨_, q2, q3, _⟩ := hal k hk
      rcases hsub k h with rfl | h | ⟨p, hp, hpk⟩
      · exact q2 (by simp)
      · exact q2 (by simp [h])
      · exact q3 p hp hpk
  refine ⟨⟨fun i hi => ?_, fun i hi => ?_, fun i hi oi hoi hl => ?_, fun p hp => ?_, fun p hp => ?_, fun p hp oi hoi => ?_, fun d hd => ?_, hsz'.trans hI.sz, by rw [r2, put_defers]; exact hI.df, hstab, hgstab⟩,
    ⟨hrel, hF2, hG2, by rw [hsz, hsz'], by rw [hdf, r2, put_defers], fun i hi => ?_, fun i d hi hl hid => ?_, fun p hp hpf hl => ?_, hoff⟩⟩
  · rcases hmem hi with hi | rfl | hi
    · exact hI.lt i hi
    · exact hj1
    · exact (hlvlt i hi).1
  · rcases hmem hi with hi | rfl | hi
    · exact looksB_mono (fun k hk => hin hk) (hI.looks i hi)
    · exact looksB_mono (fun k hk => hin hk) hjl
    · exact (hlvlt i hi).2.2
  · rcases hmem hi with hi | rfl | hi
    · refine (hI.det i hi oi hoi hl).mono hsz' hmono (hsameA i oi hoi (hI.looks i hi)) ?_
      cases hod : oi.dst with
      | none => rfl
      | some d =>
        have := hkeep2 i d hi (by rw [hoi]; exact hod)
        simp only [slotOf, Array.getD_eq_getD_getElem?, this]
    · rw [hlj] at hl; cases hl
    · refine det_of_walk ?_ hlvl.2.1 hlvl.2.2 hwalk oi (List.mem_filterMap.2 ⟨i, hi, hoi⟩)
      intro oo hoo cs b
      obtain ⟨i', _, hoi'⟩ := hlvl.1 oo hoo
      exact g.sel i' oo cs b hoi'
  · rcases hpd p hp with h | h
    · exact hI.plt p h
    · exact (hal _ h.1).1
  · rcases hpd p hp with h | h
    · exact looksB_mono (fun k hk => hin hk) (hI.plooks p h)
    · exact (hal _ h.1).2.2.2
  · rcases hpd p hp with h | h
    · exact (hI.pok p h oi hoi).mono (fun cs b => g.sel p.1 oi cs b hoi) hmono (hsameA p.1 oi hoi (hI.plooks p h))
    · exact h.2 oi hoi
  · rw [hkeep d fun i hi => hd i (by rcases hi with rfl | hi <;> simp [*])]
    exact hI.old d fun k hk => hd k (hin hk)
  · rcases hsub i hi with rfl | h | ⟨p, hp, hpi⟩
    · left; simp
    · left; exact hin h
    · right; exact ⟨p, hpd2 p hp, hpi⟩
  · rcases hmem hi with hi | rfl | hi
    · rw [hkeep2 i d hi hid]
      exact hon i d hi hl hid
    · have hod : o.dst = some d := by rw [ho] at hid; exact hid
      have e1 : A'.tmps[d]? = (A.put o.dst v).tmps[d]? := r3 d fun oo hoo he => by
        obtain ⟨i', hi', hoi'⟩ := hlvl.1 oo hoo
        refine g.apart i i' hj1 (hlvlt i' hi').1 ?_ d hid (by rw [hoi']; exact he)
        rintro rfl
        exact (hlvlt i hi').2.1 (by simp)
      rw [e1, hod, put_slotV, honj d hod, hsz]
    · rw [hlv0 i hi] at hl; cases hl
  · rcases hpd p hp with h | h
    · exact honp p h (fun he => hpf (by simp [he])) (fun hf => hpf (hin hf)) hl
    · rw [hal0 _ h.1] at hl; cases hl
theorem waitB_at {j : Nat} {later : List Nat} (h : waitB md ops j later = true) : ∀ i ∈ later, ∃ k, (k = j ∨ k ∈ later) ∧ Region.waitsFor md ops i k = true := by
  intro i hi
  simp only [waitB, List.all_eq_true, List.any_eq_true] at h
  obtain ⟨k, hk, hw⟩ := h i hi
  exact ⟨k, by simpa using hk, hw⟩
theorem AlChk.out {R : World → World → Prop} {w : World} {A : Act} {F : World → Prop} {K : Pend → Prop} : ∀ (al : List Nat) (pd : Pend), AlChk P ops R w A F K al pd →
    ∃ pd', K pd' ∧ (∀ p ∈ pd', p ∈ pd ∨ (p.1 ∈ al ∧ ∀ o, ops[p.1]? = some o → AlOK P ops R w A F p.2.1 p.2.2 o)) ∧ (∀ p ∈ pd, p ∈ pd') ∧ (∀ j, (∃ p ∈ pd', p.1 = j) ↔ (∃ p ∈ pd, p.1 = j) ∨ j ∈ al)
  | [], pd, h => ⟨pd, h, fun p hp => .inl hp, fun p hp => hp, fun j => by simp⟩
  | j :: al, pd, ⟨o, ho, mk, obj, hok, h⟩ => by
    obtain ⟨pd', h1, h2, h3, h4⟩ := AlChk.out al _ h
    refine ⟨pd', h1, fun p hp => ?_, fun p hp => h3 p (by simp [hp]), fun i => ?_⟩
    · rcases h2 p hp with h | h
      · simp only [List.mem_cons] at h
        rcases h with rfl | h
        · right
          refine ⟨by simp, fun o' ho' => ?_⟩
          have : o = o' := Option.some.inj (ho.symm.trans ho')
          subst this
          exact hok
        · exact .inl h
      · right; exact ⟨by simp [h.1], h.2⟩
    · rw [h4 i]
      simp only [List.mem_cons]
      constructor
      · rintro (⟨p, rfl | hp, hpi⟩ | h)
        · right; left; exact hpi.symm
        · left; exact ⟨p, hp, hpi⟩
        · right; right; exact h
      · rintro (⟨p, hp, hpi⟩ | rfl | h)
        · left; exact ⟨p, .inr hp, hpi⟩
        · left; exact ⟨_, .inl rfl, rfl⟩
        · right; exact h
theorem advance_b {R : World → World → Prop} (_hR : Rel R) {N1 : Nat} {l : List Oper} {a0 a' A : Act} {w w' : World} {Fin : Act → World → Prop} (g : Fg md l.toArray N1)
    (hRb : ∀ w1 w2 b o, R w w1 → R w1 w2 → w.heap.size ≤ b → w1.heap[b]? = some o → w2.heap[b]? = some o) (_hRs : ∀ w1, R w w1 → w.heap.size ≤ w1.heap.size)
    {j : Nat} {lv al : List Nat} {ph : List (Nd × List Nat × List Nat)} {from_ pend : List Nat} {pd : Pend} {F G : World → Prop} {listed : Array Bool} {C : Prop}
    (hpe : ∀ j, (∃ p ∈ pd, p.1 = j) ↔ j ∈ pend) (hph : fB md l.toArray N1 from_ pend ((.b j, lv, al) :: ph) = true) (hcov : ∀ i, i < N1 → i ∈ from_ ∨ i ∈ pend ∨ i ∈ intro_ ((.b j, lv, al) :: ph))
    (hlex : Walk P l.toArray R w Fin ((.b j, lv, al) :: ph) pd A F G) (hI : FInv R P md l.toArray N1 a0 w from_ pd A F G listed) (hA : FAt R l.toArray a0 w from_ pd A F G listed a' w') (hlj : listed.getD j false = true)
    (next : ∀ (from2 pend2 : List Nat) (pd2 : Pend) (A2 : Act) (F2 G2 : World → Prop), fB md l.toArray N1 from2 pend2 ph = true → (∀ j, (∃ p ∈ pd2, p.1 = j) ↔ j ∈ pend2) → (∀ i, i < N1 → i ∈ from2 ∨ i ∈ pend2 ∨ i ∈ intro_ ph) →
      Walk P l.toArray R w Fin ph pd2 A2 F2 G2 → FInv R P md l.toArray N1 a0 w from2 pd2 A2 F2 G2 listed → FAt R l.toArray a0 w from2 pd2 A2 F2 G2 listed a' w' → C) : C := by
  simp only [fB, Bool.and_eq_true, Bool.not_eq_true'] at hph
  obtain ⟨⟨⟨⟨⟨⟨h3, h2⟩, h5⟩, h6⟩, h7⟩, h8⟩, h9⟩ := hph
  have hjf : j ∉ from_ := by simpa using h2
  obtain ⟨o, ho, mk, obj, hmem, hnext⟩ := hlex
  obtain ⟨b, hb, hheap, hslot⟩ := hA.onp _ hmem hjf hlj
  obtain ⟨A', hq, hal⟩ := hnext b w' hA.rel hA.fact hb hheap
  obtain ⟨pd', hK, hp1, hp2, hp3⟩ := hal.out
  have hE := enter (o := o) (v := mk b) (F2 := fun w1 => F w1 ∧ w1.heap[b]? = some obj) (G2 := G) (lv := lv) (al := al) (pd' := pd') g hI (hI.plt _ hmem) hjf (hI.plooks _ hmem) ho hlj hA.rel ⟨hA.fact, hheap⟩ hA.gact (fun _ h => h.1)
    (fun w1 w2 hr h hr2 => ⟨hI.stab _ _ hr h.1 hr2, hRb _ _ _ _ hr hr2 hb h.2⟩) hI.gstab hA.sz hA.df (fun i hi => .inr (hA.sub i hi)) hA.on (fun d hd => hslot d (by rw [ho]; exact hd)) (fun p hp _ => hA.onp p hp) hA.off hq h5
    (fun k hk p hp hpk => by
      have := List.all_eq_true.1 h6 k hk
      have h2 : k ∉ pend := by simpa using this
      exact h2 ((hpe k).1 ⟨p, hp, hpk⟩))
    (fun k hk => by
      obtain ⟨q1, q2, q3, q4⟩ := alB_at h7 k hk
      exact ⟨q1, q2, fun p hp hpk => q3 ((hpe k).1 ⟨p, hp, hpk⟩), q4⟩) hp1 hp2
  refine next _ _ pd' A' _ G h9 (fun i => ?_) (fun i hi => ?_) hK hE.1 hE.2
  · rw [hp3 i, hpe i, List.mem_append]
  · have := hcov i hi
    simp only [intro_, List.mem_append, List.mem_singleton] at this ⊢
    rcases this with h | h | (h | h) | h <;> simp [h]
theorem flow_step {R : World → World → Prop} (hR : Rel R) {N1 : Nat} {Q : Exit → Act → World → Prop} {l : List Oper} {a0 a' A : Act} {w w' : World} {Fin : Act → World → Prop} (g : Fg md l.toArray N1)
    (hRb : ∀ w1 w2 b o, R w w1 → R w1 w2 → w.heap.size ≤ b → w1.heap[b]? = some o → w2.heap[b]? = some o) (hRs : ∀ w1, R w w1 → w.heap.size ≤ w1.heap.size)
    {k : Nat} {ph : List (Nd × List Nat × List Nat)} {from_ pend : List Nat} {pd : Pend} {F G : World → Prop} {listed : Array Bool}
    (hs : listed.size = l.length) (ht : ∀ t, N1 ≤ t → listed.getD t false = false) (hcl : ∀ j o, l.toArray[j]? = some o → listed.getD j false = true → ∀ e ∈ o.after, Region.binds md e = true → listed.getD e.on false = true) (hc : cnt N1 listed = k + 1) (hph : fB md l.toArray N1 from_ pend ph = true) (hpe : ∀ j, (∃ p ∈ pd, p.1 = j) ↔ j ∈ pend) (hcov : ∀ i, i < N1 → i ∈ from_ ∨ i ∈ pend ∨ i ∈ intro_ ph)
    (hlex : Walk P l.toArray R w Fin ph pd A F G) (hI : FInv R P md l.toArray N1 a0 w from_ pd A F G listed) (hA : FAt R l.toArray a0 w from_ pd A F G listed a' w')
    (hb : ∀ j lv al ph', ph = (.b j, lv, al) :: ph' → listed.getD j false = false)
    (ih : ∀ (ph : List (Nd × List Nat × List Nat)) (listed : Array Bool) (a' : Act) (w' : World) (from_ pend : List Nat) (pd : Pend) (A : Act) (F G : World → Prop), listed.size = l.length → (∀ t, N1 ≤ t → listed.getD t false = false) → (∀ j o, l.toArray[j]? = some o → listed.getD j false = true → ∀ e ∈ o.after, Region.binds md e = true → listed.getD e.on false = true) → cnt N1 listed = k →
      fB md l.toArray N1 from_ pend ph = true → (∀ j, (∃ p ∈ pd, p.1 = j) ↔ j ∈ pend) → (∀ i, i < N1 → i ∈ from_ ∨ i ∈ pend ∨ i ∈ intro_ ph) → Walk P l.toArray R w Fin ph pd A F G →
      FInv R P md l.toArray N1 a0 w from_ pd A F G listed → FAt R l.toArray a0 w from_ pd A F G listed a' w' → wpAny P md l.toArray Q (k + (l.length - N1)) listed a' w') : wpAny P md l.toArray Q (k + 1 + (l.length - N1)) listed a' w' := by
  have hle3 : N1 ≤ l.length := by simpa using g.le
  obtain ⟨i0, hi0, hu0⟩ := cnt_succ hc
  rw [show k + 1 + (l.length - N1) = (k + (l.length - N1)) + 1 by omega]
  refine ⟨fun h0 => ?_, fun i hi => ?_⟩
  · obtain ⟨j, hj⟩ := ready_of g.down (listed := listed) (by simpa using hs) i0 (by simp; omega) hu0
    rw [h0] at hj; cases hj
  obtain ⟨hiu, o, ho, hdeps⟩ := mem_ready.1 hi
  have ho' : l[i]? = some o := by simpa using ho
  have hil : i < l.length := (List.getElem?_eq_some_iff.1 ho').1
  have hi1 : i < N1 := by
    rcases Nat.lt_or_ge i N1 with h | h
    · exact h
    · have hdir : ∀ j, Region.waitsFor md l.toArray i j = true → listed.getD j false = true := fun j hwf => by
        obtain ⟨oj, hoj, e, he, hb, hon⟩ := Region.waitsFor_spec hwf
        have : oj = o := Option.some.inj (hoj.symm.trans ho)
        subst this
        have := hdeps e he hb
        rwa [hon] at this
      have hstep : ∀ j j', listed.getD j false = true → Region.waitsFor md l.toArray j j' = true → listed.getD j' false = true := fun j j' hj hwf2 => by
        obtain ⟨oj, hoj, e, he, hb, hon⟩ := Region.waitsFor_spec hwf2
        have := hcl j oj hoj hj e he hb
        rwa [hon] at this
      have := waitB_listed hstep 5 i i0 hdir (g.tail i i0 (by simpa using hil) h hi0)
      rw [hu0] at this; cases this
  have hfn : listed.getD i false = false := getD_both hiu
  have hcnt := cnt_set hi1 (by omega) hfn
  have hseti : (listed.setIfInBounds i true).getD i false = true := by simp [hs, hil]
  have hset : ∀ j, (listed.setIfInBounds i true).getD j false = true → j = i ∨ listed.getD j false = true := fun j hj => by
    by_cases h : j = i
    · exact .inl h
    · right; rw [getD_set_ne false (Ne.symm h)] at hj; exact hj
  have hset2 : ∀ j, listed.getD j false = true → (listed.setIfInBounds i true).getD j false = true := fun j hj => by
    by_cases h : j = i
    · subst h; exact hseti
    · rw [getD_set_ne false (Ne.symm h)]; exact hj
  have hset3 : ∀ j, (listed.setIfInBounds i true).getD j false = false → listed.getD j false = false := fun j hj => by
    cases h : listed.getD j false
    · rfl
    · rw [hset2 j h] at hj; cases hj
  have htail' : ∀ t, N1 ≤ t → (listed.setIfInBounds i true).getD t false = false := fun t htt => by rw [getD_set_ne false (by omega)]; exact ht t htt
  have hcl' : ∀ j o', l.toArray[j]? = some o' → (listed.setIfInBounds i true).getD j false = true → ∀ e ∈ o'.after, Region.binds md e = true → (listed.setIfInBounds i true).getD e.on false = true := fun j o' hj hl e he hb => by
    rcases hset j hl with rfl | hl
    · have : o' = o := Option.some.inj (hj.symm.trans ho)
      subst this
      exact hset2 _ (hdeps e he hb)
    · exact hset2 _ (hcl j o' hj hl e he hb)
  have hdone : ∀ kk, Region.waitsFor md l.toArray i kk = true → listed.getD kk false = true := fun kk hwf => by
    obtain ⟨oj, hoj, e, he, hb, hon⟩ := Region.waitsFor_spec hwf
    have : oj = o := Option.some.inj (hoj.symm.trans ho)
    subst this
    have := hdeps e he hb
    rwa [hon] at this
  -- slots of the others stay
  have hput : ∀ (v : Value) (d : Tmp) (j : Nat), j < N1 → j ≠ i → (l.toArray[j]?).bind (·.dst) = some d → (a'.put o.dst v).tmps[d]? = a'.tmps[d]? := fun v d j hj hne hjd =>
    put_get_ne _ _ _ _ fun he => g.apart j i hj hi1 hne d hjd (by rw [ho]; exact he)
  by_cases hif : i ∈ from_
  · -- an operation whose value is known
    have hsame := fsame_of hI hA (hI.looks i hif) ho hdeps
    obtain ⟨v, hy, hputv⟩ := hI.det i hif o ho hfn w' hA.rel hA.fact a' hA.sz hsame
    refine wpOp_of_qOp (C := fun w'' => ∃ x : Ext w', w'' = x.at_) (K := fun a'' => a'' = a'.put o.dst v) ⟨⟨w', Below.refl _ _⟩, rfl⟩ ?_ (hy.qOp ho rfl)
    rintro a'' w'' ⟨x, rfl⟩ rfl
    have hrx := hR.of x.same
    rw [hputv a' hA.sz]
    refine ih ph _ _ _ from_ pend pd A F G (by simpa using hs) htail' hcl' (by omega) hph hpe hcov hlex ?_ ?_
    · exact ⟨hI.lt, hI.looks, fun j hj oj hoj hl => hI.det j hj oj hoj (hset3 j hl), hI.plt, hI.plooks, hI.pok, hI.old, hI.sz, hI.df, hI.stab, hI.gstab⟩
    · refine ⟨hR.trans hA.rel hrx, hI.stab _ _ hA.rel hA.fact hrx, hI.gstab _ _ hA.gact x.same, by rw [put_size]; exact hA.sz, by rw [put_defers]; exact hA.df, fun j hj => ?_, fun j d hjf hj hjd => ?_, fun p hp hpf hj => ?_, fun d hd => ?_⟩
      · rcases hset j hj with rfl | h
        · exact .inl hif
        · exact hA.sub j h
      · by_cases hod : o.dst = some d
        · rw [hod]; exact put_get_self a' A d hA.sz
        · rw [put_get_ne _ _ _ _ hod]
          rcases hset j hj with rfl | h
          · rw [ho] at hjd; exact absurd hjd hod
          · exact hA.on j d hjf h hjd
      · have hne : p.1 ≠ i := fun h => hpf (h ▸ hif)
        have hjl : listed.getD p.1 false = true := (hset _ hj).resolve_left hne
        obtain ⟨b, hb1, hb2, hb3⟩ := hA.onp p hp hpf hjl
        refine ⟨b, hb1, hRb _ _ _ _ hA.rel hrx hb1 hb2, fun d hd => ?_⟩
        rw [hput _ d p.1 (hI.plt p hp) hne hd, put_size]
        exact hb3 d hd
      · have hod : o.dst ≠ some d := fun he => hd i hseti (by rw [ho]; exact he)
        rw [put_get_ne _ _ _ _ hod]
        exact hA.off d fun j hj => hd j (hset2 j hj)
  · by_cases hip : ∃ p ∈ pd, p.1 = i
    · -- a block that is made
      obtain ⟨p, hp, rfl⟩ := hip
      have hsame := fsame_of hI hA (hI.plooks p hp) ho hdeps
      obtain ⟨hwant, hrun⟩ := hI.pok p hp o ho
      have hrun := hrun w' hA.rel hA.fact
      unfold wpOp
      simp only [ho]
      rw [if_pos (by rw [hsame.wanted]; exact hwant)]
      left
      unfold Oper.wp
      rw [hsame.exec (fun cs b => g.sel p.1 o cs b ho), hrun, Oper.upon_value]
      have hbel : Below w'.heap.size w' (w'.alloc p.2.2) := (Below.refl _ _).alloc (Nat.le_refl _) _
      have hrx := hR.of hbel
      have hnewb : (w'.alloc p.2.2).heap[w'.heap.size]? = some p.2.2 := by
        show (w'.heap.push _)[w'.heap.size]? = _
        simp
      refine ih ph _ _ _ from_ pend pd A F G (by simpa using hs) htail' hcl' (by omega) hph hpe hcov hlex ?_ ?_
      · exact ⟨hI.lt, hI.looks, fun j hj oj hoj hl => hI.det j hj oj hoj (hset3 j hl), hI.plt, hI.plooks, hI.pok, hI.old, hI.sz, hI.df, hI.stab, hI.gstab⟩
      · refine ⟨hR.trans hA.rel hrx, hI.stab _ _ hA.rel hA.fact hrx, hI.gstab _ _ hA.gact hbel, by rw [put_size]; exact hA.sz, by rw [put_defers]; exact hA.df, fun j hj => ?_, fun j d hjf hj hjd => ?_, fun q hq hqf hj => ?_, fun d hd => ?_⟩
        · rcases hset j hj with rfl | h
          · exact .inr ⟨p, hp, rfl⟩
          · exact hA.sub j h
        · have hne : j ≠ p.1 := fun h => hif (h ▸ hjf)
          rw [hput _ d j (hI.lt j hjf) hne hjd]
          exact hA.on j d hjf ((hset j hj).resolve_left hne) hjd
        · by_cases hqp : q.1 = p.1
          · obtain ⟨_, hrun2⟩ := hI.pok q hq o (by rw [hqp]; exact ho)
            have hrun2 := hrun2 w' hA.rel hA.fact
            rw [← hsame.exec (fun cs b => g.sel p.1 o cs b ho)] at hrun hrun2
            rw [hrun] at hrun2
            simp only [Result.ok.injEq, Next.value.injEq] at hrun2
            obtain ⟨e1, e2⟩ := hrun2
            have e3 : p.2.2 = q.2.2 := by
              have := congrArg (fun x : World => x.heap[w'.heap.size]?) e2
              rw [hnewb, show (w'.alloc q.2.2).heap[w'.heap.size]? = some q.2.2 by show (w'.heap.push _)[w'.heap.size]? = _; simp] at this
              exact Option.some.inj this
            refine ⟨w'.heap.size, hRs _ hA.rel, by rw [hnewb, e3], fun d hd => ?_⟩
            rw [hqp, ho] at hd
            have hd : o.dst = some d := hd
            rw [hd, put_slotV, put_size, e1]
          · have hjl : listed.getD q.1 false = true := (hset _ hj).resolve_left hqp
            obtain ⟨b, hb1, hb2, hb3⟩ := hA.onp q hq hqf hjl
            refine ⟨b, hb1, hRb _ _ _ _ hA.rel hrx hb1 hb2, fun d hd => ?_⟩
            rw [hput _ d q.1 (hI.plt q hq) hqp hd, put_size]
            exact hb3 d hd
        · have hod : o.dst ≠ some d := fun he => hd p.1 hseti (by rw [ho]; exact he)
          rw [put_get_ne _ _ _ _ hod]
          exact hA.off d fun j hj => hd j (hset2 j hj)
    · -- a call in its turn
      have hint : i ∈ intro_ ph := (hcov i hi1).resolve_left hif |>.resolve_left fun h => hip ((hpe i).2 h)
      have hoff := fB_off _ _ _ hph
      have hun : ∀ kk ∈ intro_ ph, listed.getD kk false = false := fun kk hk => by
        cases h : listed.getD kk false
        · rfl
        · exfalso
          rcases hA.sub kk h with h | h
          · exact (hoff kk hk).1 h
          · exact (hoff kk hk).2 ((hpe kk).1 h)
      cases ph with
      | nil => simp [intro_] at hint
      | cons x ph =>
      obtain ⟨nd, lv, al⟩ := x
      cases nd with
      | b j =>
        exfalso
        have huj := hb j lv al ph rfl
        simp only [fB, Bool.and_eq_true, Bool.not_eq_true'] at hph
        obtain ⟨⟨⟨⟨⟨⟨h3, h2⟩, h5⟩, h6⟩, h7⟩, h8⟩, h9⟩ := hph
        obtain ⟨kk, hk, hwf⟩ := waitB_at h8 i (by simpa [intro_] using hint)
        have := hdone kk hwf
        rcases hk with rfl | hk
        · rw [huj] at this; cases this
        · rw [hun kk (by simpa [intro_] using hk)] at this; cases this
      | c j =>
      have hph0 := hph
      simp only [fB, Bool.and_eq_true, decide_eq_true_eq, Bool.not_eq_true'] at hph0
      obtain ⟨⟨⟨⟨⟨⟨⟨⟨h1, h2⟩, h3⟩, h4⟩, h5⟩, h6⟩, h7⟩, h8⟩, h9⟩ := hph0
      have hij : i = j := by
        simp only [intro_, List.mem_cons] at hint
        rcases hint with h | h
        · exact h
        · exfalso
          obtain ⟨kk, hk, hwf⟩ := waitB_at h8 i h
          have := hdone kk hwf
          rw [hun kk (by simpa [intro_] using hk)] at this
          cases this
      subst hij
      obtain ⟨o2, ho2, Fact, Gact, hstab, hgstab, hnd, hnext⟩ := hlex
      have : o2 = o := Option.some.inj (ho2.symm.trans ho)
      subst this
      have hsame := fsame_of hI hA h4 ho hdeps
      have key : ∀ v w2, R w' w2 → (Fact v w2 ∧ Gact v w2) → wpAny P md l.toArray Q (k + (l.length - N1)) (listed.setIfInBounds i true) (a'.put o2.dst v) w2 := by
        intro v w2 hb2 hfg2
        obtain ⟨hf2, hg2⟩ := hfg2
        have hrel := hR.trans hA.rel hb2
        have hF' := hI.stab _ _ hA.rel hA.fact hb2
        obtain ⟨A', hq, hal⟩ := hnext v w2 hrel hF' hf2
        obtain ⟨pd', hK, hp1, hp2, hp3⟩ := hal.out
        have hI2 : FInv R P md l.toArray N1 a0 w from_ pd A F G (listed.setIfInBounds i true) := ⟨hI.lt, hI.looks, fun j hj oj hoj hl => hI.det j hj oj hoj (hset3 j hl), hI.plt, hI.plooks, hI.pok, hI.old, hI.sz, hI.df, hI.stab, hI.gstab⟩
        have hE := enter (o := o2) (v := v) (F2 := fun w1 => F w1 ∧ Fact v w1) (G2 := Gact v) (lv := lv) (al := al) (pd' := pd') (a' := a'.put o2.dst v) (w' := w2) g hI2 hi1 hif h4 ho hseti hrel ⟨hF', hf2⟩ hg2 (fun _ h => h.1)
          (fun w1 w2 hr h hr2 => ⟨hI.stab _ _ hr h.1 hr2, hstab _ _ _ hr h.2 hr2⟩) (fun w1 w2 => hgstab _ w1 w2) (by rw [put_size]; exact hA.sz) (by rw [put_defers]; exact hA.df)
          (fun kk hk => (hset kk hk).imp id (hA.sub kk))
          (fun kk d hkf hk hkd => by
            have hne : kk ≠ i := fun h => hif (h ▸ hkf)
            rw [hput _ d kk (hI.lt kk hkf) hne hkd]
            exact hA.on kk d hkf ((hset kk hk).resolve_left hne) hkd)
          (fun d hd => by rw [hd, put_slotV, put_size])
          (fun p hp hne hpf hl => by
            obtain ⟨b, hb1, hb2', hb3⟩ := hA.onp p hp hpf ((hset _ hl).resolve_left hne)
            refine ⟨b, hb1, hRb _ _ _ _ hA.rel hb2 hb1 hb2', fun d hd => ?_⟩
            rw [hput _ d p.1 (hI.plt p hp) hne hd, put_size]
            exact hb3 d hd)
          (fun d hd => by
            have hod : o2.dst ≠ some d := fun he => hd i hseti (by rw [ho]; exact he)
            rw [put_get_ne _ _ _ _ hod]
            exact hA.off d fun j hj => hd j (hset2 j hj))
          hq h5
          (fun kk hk p hp hpk => by
            have := List.all_eq_true.1 h6 kk hk
            have h2 : kk ∉ pend := by simpa using this
            exact h2 ((hpe kk).1 ⟨p, hp, hpk⟩))
          (fun kk hk => by
            obtain ⟨q1, q2, q3, q4⟩ := alB_at h7 kk hk
            exact ⟨q1, q2, fun p hp hpk => q3 ((hpe kk).1 ⟨p, hp, hpk⟩), q4⟩) hp1 hp2
        refine ih ph _ _ _ _ _ pd' A' _ _ (by simpa using hs) htail' hcl' (by omega) h9 (fun kk => ?_) (fun kk hk => ?_) hK hE.1 hE.2
        · rw [hp3 kk, hpe kk, List.mem_append]
        · have := hcov kk hk
          simp only [intro_, List.mem_append, List.mem_cons] at this ⊢
          rcases this with h | h | h | (h | h) | h <;> simp [h]
      obtain ⟨hwant, hrun⟩ := hnd w' hA.rel hA.fact hA.gact
      unfold wpOp
      simp only [ho]
      rw [if_pos (by rw [hsame.wanted]; exact hwant)]
      left
      unfold Oper.wp
      rw [hsame.exec (fun cs b => g.sel i o2 cs b ho)]
      rcases hrun with ⟨v, w2, hr, hb2, hf2⟩ | ⟨f, args, hr, hcall⟩
      · rw [hr, Oper.upon_value]
        exact key v w2 hb2 hf2
      · rw [hr, Oper.upon_enter]
        refine hcall.mono fun e w2 h => ?_
        obtain ⟨v, rfl, hb2, hf2⟩ := h
        exact key v w2 hb2 hf2
theorem wpAny_flow {R : World → World → Prop} (hR : Rel R) {N1 : Nat} {Q : Exit → Act → World → Prop} {l : List Oper} {a0 : Act} {w : World} (g : Fg md l.toArray N1)
    (hRb : ∀ w1 w2 b o, R w w1 → R w1 w2 → w.heap.size ≤ b → w1.heap[b]? = some o → w2.heap[b]? = some o) (hRs : ∀ w1, R w w1 → w.heap.size ≤ w1.heap.size) :
    ∀ (k : Nat) (ph : List (Nd × List Nat × List Nat)) (listed : Array Bool) (a' : Act) (w' : World) (from_ pend : List Nat) (pd : Pend) (A : Act) (F G : World → Prop), listed.size = l.length → (∀ t, N1 ≤ t → listed.getD t false = false) → (∀ j o, l.toArray[j]? = some o → listed.getD j false = true → ∀ e ∈ o.after, Region.binds md e = true → listed.getD e.on false = true) → cnt N1 listed = k →
      fB md l.toArray N1 from_ pend ph = true → (∀ j, (∃ p ∈ pd, p.1 = j) ↔ j ∈ pend) → (∀ i, i < N1 → i ∈ from_ ∨ i ∈ pend ∨ i ∈ intro_ ph) → Walk P l.toArray R w (fun A w1 => wpList P l.toArray Q (l.drop N1) A w1) ph pd A F G →
      FInv R P md l.toArray N1 a0 w from_ pd A F G listed → FAt R l.toArray a0 w from_ pd A F G listed a' w' → wpAny P md l.toArray Q (k + (l.length - N1)) listed a' w' := by
  have hle3 : N1 ≤ l.length := by simpa using g.le
  intro k
  induction k with
  | zero =>
    intro ph
    induction ph with
    | nil =>
      intro listed a' w' from_ pend pd A F G hs ht hcl hc hph hpe hcov hlex hI hA
      have hall := cnt_zero hc
      have hfull : listed = full l.length N1 := full_eq hs hall ht
      have hseq := g.seq
      have hdl : (l.drop N1).length = l.length - N1 := by simp
      have hbound : ∀ j ∈ pend, j ∈ from_ := fun j hj => by
        simp only [fB, List.all_eq_true] at hph
        simpa using hph j hj
      have haA : a' = A := by
        have e : a'.tmps = A.tmps := by
          apply Array.ext_getElem?
          intro d
          by_cases h : ∃ j, listed.getD j false = true ∧ ((l.toArray)[j]?).bind (·.dst) = some d
          · obtain ⟨j, h1, h2⟩ := h
            have hjf : j ∈ from_ := (hA.sub j h1).elim id fun ⟨p, hp, hpj⟩ => hbound j ((hpe j).1 ⟨p, hp, hpj⟩)
            exact hA.on j d hjf h1 h2
          · rw [hA.off d (fun j hj hjd => h ⟨j, hj, hjd⟩), hI.old d (fun k hk hkd => h ⟨k, hall k (hI.lt k hk), hkd⟩)]
        have e2 := hA.df
        cases a'; cases A
        simp only at e e2
        rw [e, e2]
      subst haA
      rw [Nat.zero_add, ← hdl]
      exact wpAny_of_seq (l.drop N1) N1 listed a' w' (fun j => by simp [List.getElem?_drop]) (by rw [hdl, hfull]; simpa using hseq) (hlex w' hA.rel hA.fact hA.gact)
    | cons x ph ihp =>
      intro listed a' w' from_ pend pd A F G hs ht hcl hc hph hpe hcov hlex hI hA
      have hall := cnt_zero hc
      obtain ⟨nd, lv, al⟩ := x
      cases nd with
      | c j =>
        exfalso
        simp only [fB, Bool.and_eq_true, decide_eq_true_eq, Bool.not_eq_true'] at hph
        obtain ⟨⟨⟨⟨⟨⟨⟨⟨h1, h2⟩, h3⟩, h4⟩, h5⟩, h6⟩, h7⟩, h8⟩, h9⟩ := hph
        rcases hA.sub j (hall j h1) with h | ⟨p, hp, hpj⟩
        · have : j ∉ from_ := by simpa using h2
          exact this h
        · have : j ∉ pend := by simpa using h3
          exact this ((hpe j).1 ⟨p, hp, hpj⟩)
      | b j => exact advance_b hR g hRb hRs hpe hph hcov hlex hI hA (by
          simp only [fB, Bool.and_eq_true, Bool.not_eq_true'] at hph
          have hj : j ∈ pend := by simpa using hph.1.1.1.1.1.1
          obtain ⟨p, hp, rfl⟩ := (hpe j).2 hj
          exact hall _ (hI.plt p hp)) fun from2 pend2 pd2 A2 F2 G2 q1 q2 q3 q4 q5 q6 => ihp listed a' w' from2 pend2 pd2 A2 F2 G2 hs ht hcl hc q1 q2 q3 q4 q5 q6
  | succ k ih =>
    intro ph
    induction ph with
    | nil =>
      intro listed a' w' from_ pend pd A F G hs ht hcl hc hph hpe hcov hlex hI hA
      exact flow_step hR g hRb hRs hs ht hcl hc hph hpe hcov hlex hI hA (fun j lv al ph' h => by cases h) fun ph2 listed2 a2 w2 from2 pend2 pd2 A2 F2 G2 => ih ph2 listed2 a2 w2 from2 pend2 pd2 A2 F2 G2
    | cons x ph ihp =>
      intro listed a' w' from_ pend pd A F G hs ht hcl hc hph hpe hcov hlex hI hA
      obtain ⟨nd, lv, al⟩ := x
      cases nd with
      | c j => exact flow_step hR g hRb hRs hs ht hcl hc hph hpe hcov hlex hI hA (fun j lv al ph' h => by cases h) fun ph2 listed2 a2 w2 from2 pend2 pd2 A2 F2 G2 => ih ph2 listed2 a2 w2 from2 pend2 pd2 A2 F2 G2
      | b j =>
        cases hlj : listed.getD j false with
        | true => exact advance_b hR g hRb hRs hpe hph hcov hlex hI hA hlj fun from2 pend2 pd2 A2 F2 G2 q1 q2 q3 q4 q5 q6 => ihp listed a' w' from2 pend2 pd2 A2 F2 G2 hs ht hcl hc q1 q2 q3 q4 q5 q6
        | false => exact flow_step hR g hRb hRs hs ht hcl hc hph hpe hcov hlex hI hA (fun j2 lv2 al2 ph' h => by cases h; exact hlj) fun ph2 listed2 a2 w2 from2 pend2 pd2 A2 F2 G2 => ih ph2 listed2 a2 w2 from2 pend2 pd2 A2 F2 G2
theorem fgl_of {N1 : Nat} {lev al : List Nat} {ph : List (Nd × List Nat × List Nat)} (h : flowB md ops N1 lev al ph = true) : Fg md ops N1 ∧ levB md ops N1 [] lev = true ∧ alB md ops N1 lev [] al = true ∧ fB md ops N1 lev al ph = true ∧ ∀ i, i < N1 → i ∈ lev ∨ i ∈ al ∨ i ∈ intro_ ph := by
  simp only [flowB, Bool.and_eq_true, decide_eq_true_eq, List.all_eq_true, List.mem_range] at h
  obtain ⟨⟨⟨⟨⟨⟨⟨⟨⟨h1, h2⟩, h3⟩, h4⟩, h5⟩, h5b⟩, h6⟩, h7⟩, h8⟩, h9⟩ := h
  refine ⟨⟨fun j o cs b => Region.noSelect_spec h1 j o cs b, h2, ?_, ?_, ?_, h9⟩, h4, h5, h5b, fun i hi => by simpa [or_assoc] using h6 i hi⟩
  · have key : ∀ i j, i < N1 → j < N1 → i < j → ∀ d, (ops[i]?).bind (·.dst) = some d → (ops[j]?).bind (·.dst) ≠ some d := by
      intro i j hi hj hij d hd he
      have := h3 i hi j hj
      simp only [hd, Bool.or_eq_true, decide_eq_true_eq] at this
      rcases this with h | h
      · omega
      · rw [he] at h; simp at h
    intro i j hi hj hne d hd he
    rcases Nat.lt_or_gt_of_ne hne with h | h
    · exact key i j hi hj h d hd he
    · exact key j i hj hi h d he hd
  · intro t i ht hN hi
    have := h7 t ht
    simp only [Bool.or_eq_true, decide_eq_true_eq, List.all_eq_true, List.mem_range] at this
    rcases this with h | h
    · omega
    · exact h i hi
  · intro j o e ho he hb
    have hlt : j < ops.size := (Array.getElem?_eq_some_iff.1 ho).1
    have := h8 j hlt
    simp only [ho, Array.all_eq_true_iff_forall_mem, Bool.or_eq_true, decide_eq_true_eq, Bool.not_eq_true'] at this
    rcases this e he with h | h
    · rw [hb] at h; cases h
    · exact h
/-- The whole region: what is quiet first; blocks and calls in their turn; then a tail in the order of the text. -/
theorem wp_region_flow_in {R : World → World → Prop} (hR : Rel R) (G : World → Prop) {id : Nat} (N1 : Nat) (lev al : List Nat) (ph : List (Nd × List Nat × List Nat)) {Q : Exit → Act → World → Prop} {a : Act} {w : World} {l : List Oper} (hm : P.follows .mixedOrders = true) (hB : flowB .any l.toArray N1 lev al ph = true)
    (hRb : ∀ w1 w2 b o, R w w1 → R w1 w2 → w.heap.size ≤ b → w1.heap[b]? = some o → w2.heap[b]? = some o) (hRs : ∀ w1, R w w1 → w.heap.size ≤ w1.heap.size) (hG : G w) (hGs : ∀ w' w'', G w' → Below w'.heap.size w' w'' → G w'')
    (h : After P l.toArray R w (fun _ => True) (fun pd' A' => Walk P l.toArray R w (fun A w1 => wpList P l.toArray Q (l.drop N1) A w1) ph pd' A' (fun _ => True) G) lev al [] a) : (Code.region id l.toArray true).wp P Q a w := by
  obtain ⟨A, hlev, hal⟩ := h
  obtain ⟨g, hlB, haB, hpB, hcov⟩ := fgl_of hB
  have hle : N1 ≤ l.length := by simpa using g.le
  have hlvl := g.level hlB
  have hrel : R w w.drew := hR.of (Below.refl _ _).drew
  rw [← pick_eq] at hlev
  obtain ⟨r1, r2, r3⟩ := walk_rest (hlev w.drew hrel trivial)
  obtain ⟨pd', hK, hp1, hp2, hp3⟩ := hal.out
  have hno : ∀ j, (Array.replicate l.length false).getD j false = false := fun j => getD_replicate_false _ _
  have hpa : ∀ p ∈ pd', p.1 ∈ al ∧ ∀ o, l.toArray[p.1]? = some o → AlOK P l.toArray R w A (fun _ => True) p.2.1 p.2.2 o := fun p hp => by
    rcases hp1 p hp with h | h
    · simp at h
    · exact h
  refine wp_region_any hm ?_
  have hI : FInv R P .any l.toArray N1 a w lev pd' A (fun _ => True) G (Array.replicate l.length false) := by
    refine ⟨fun j hj => (levB_mem hlB j hj).1, fun j hj => by simpa using (levB_mem hlB j hj).2.2, fun j hj o ho _ => ?_, fun p hp => (alB_at haB _ (hpa p hp).1).1, fun p hp => (alB_at haB _ (hpa p hp).1).2.2.2, fun p hp => (hpa p hp).2, fun d hd => ?_, r1, r2, fun _ _ _ _ _ => trivial, hGs⟩
    · refine det_of_walk (fun oo hoo cs b => ?_) hlvl.2.1 hlvl.2.2 hlev o (List.mem_filterMap.2 ⟨j, hj, ho⟩)
      obtain ⟨j', _, hoj'⟩ := hlvl.1 oo hoo
      exact g.sel j' oo cs b hoj'
    · refine r3 d fun oo hoo he => ?_
      obtain ⟨j, hj, hoj⟩ := hlvl.1 oo hoo
      exact hd j hj (by rw [hoj]; exact he)
  have hA : FAt R l.toArray a w lev pd' A (fun _ => True) G (Array.replicate l.length false) a w.drew := by
    refine ⟨hrel, trivial, hGs _ _ hG (Below.refl _ _).drew, r1.symm, r2.symm, fun j hj => ?_, fun j d _ hj => ?_, fun p _ _ hj => ?_, fun d _ => rfl⟩
    all_goals (rw [hno] at hj; cases hj)
  have := wpAny_flow hR (Q := Q) (a0 := a) g hRb hRs N1 ph (Array.replicate l.length false) a w.drew lev al pd' A (fun _ => True) G (by simp) (fun t _ => hno _) (fun j o _ hj => by rw [hno] at hj; cases hj) (cnt_start N1 _ hle) hpB (fun j => by rw [hp3 j]; simp) hcov hK hI hA
  rw [show N1 + (l.length - N1) = l.toArray.size by simp; omega] at this
  simpa using this
theorem wp_region_flow {id : Nat} (N1 : Nat) (lev al : List Nat) (ph : List (Nd × List Nat × List Nat)) {Q : Exit → Act → World → Prop} {a : Act} {w : World} {l : List Oper} (hm : P.follows .mixedOrders = true) (hB : flowB .any l.toArray N1 lev al ph = true)
    (h : After P l.toArray (fun a b => Below a.heap.size a b) w (fun _ => True) (fun pd' A' => Walk P l.toArray (fun a b => Below a.heap.size a b) w (fun A w1 => wpList P l.toArray Q (l.drop N1) A w1) ph pd' A' (fun _ => True) (fun _ => True)) lev al [] a) : (Code.region id l.toArray true).wp P Q a w :=
  wp_region_flow_in rel_below (fun _ => True) N1 lev al ph hm hB (fun w1 w2 b o _ h2 _ ho => by
    have hlt : b < w1.heap.size := (Array.getElem?_eq_some_iff.1 ho).1
    rw [h2.block b hlt]; exact ho) (fun _ h => h.size) trivial (fun _ _ _ _ => trivial) h
/-- A call in its turn: where callees only make memory. -/
theorem Walk.call {w : World} {Fin : Act → World → Prop} {j : Nat} {lv al : List Nat} {ph : List (Nd × List Nat × List Nat)} {pd : Pend} {A : Act} {F G : World → Prop} {l : List Oper} {o : Oper} (ho : l[j]? = some o) (f : FuncId) (args : Array Value) (Fact : Value → World → Prop)
    (hstab : ∀ v w' w'', Fact v w' → Below w'.heap.size w' w'' → Fact v w'') (hw : Region.wanted o (yielded l.toArray A.tmps) = true)
    (hnd : ∀ w1, Below w.heap.size w w1 → F w1 → (execOp A.eval o).run P w1 = .ok (.enter f args) w1 ∧ Calls P f args w1 fun e w2 => ∃ v, e = .returned v ∧ Below w1.heap.size w1 w2 ∧ Fact v w2)
    (hnext : ∀ v w0, Below w.heap.size w w0 → F w0 → Fact v w0 → After P l.toArray (fun a b => Below a.heap.size a b) w (fun w1 => F w1 ∧ Fact v w1) (fun pd' A' => Walk P l.toArray (fun a b => Below a.heap.size a b) w Fin ph pd' A' (fun w1 => F w1 ∧ Fact v w1) (fun _ => True)) lv al pd (A.put o.dst v)) :
    Walk P l.toArray (fun a b => Below a.heap.size a b) w Fin ((.c j, lv, al) :: ph) pd A F G :=
  ⟨o, by simpa using ho, Fact, fun _ _ => True, fun v w' w'' _ h k => hstab v w' w'' h k, fun _ _ _ _ _ => trivial, fun w1 hb hF _ => ⟨hw, .inr ⟨f, args, (hnd w1 hb hF).1, (hnd w1 hb hF).2.mono fun _ _ ⟨v, h1, h2, h3⟩ => ⟨v, h1, h2, h3, trivial⟩⟩⟩, hnext⟩
/-- A builtin in its turn. -/
theorem Walk.does {w : World} {Fin : Act → World → Prop} {j : Nat} {lv al : List Nat} {ph : List (Nd × List Nat × List Nat)} {pd : Pend} {A : Act} {F G : World → Prop} {l : List Oper} {o : Oper} (ho : l[j]? = some o) (Fact : Value → World → Prop)
    (hstab : ∀ v w' w'', Fact v w' → Below w'.heap.size w' w'' → Fact v w'') (hw : Region.wanted o (yielded l.toArray A.tmps) = true)
    (hnd : ∀ w1, Below w.heap.size w w1 → F w1 → ∃ v w2, (execOp A.eval o).run P w1 = .ok (.value v) w2 ∧ Below w1.heap.size w1 w2 ∧ Fact v w2)
    (hnext : ∀ v w0, Below w.heap.size w w0 → F w0 → Fact v w0 → After P l.toArray (fun a b => Below a.heap.size a b) w (fun w1 => F w1 ∧ Fact v w1) (fun pd' A' => Walk P l.toArray (fun a b => Below a.heap.size a b) w Fin ph pd' A' (fun w1 => F w1 ∧ Fact v w1) (fun _ => True)) lv al pd (A.put o.dst v)) :
    Walk P l.toArray (fun a b => Below a.heap.size a b) w Fin ((.c j, lv, al) :: ph) pd A F G :=
  ⟨o, by simpa using ho, Fact, fun _ _ => True, fun v w' w'' _ h k => hstab v w' w'' h k, fun _ _ _ _ _ => trivial, fun w1 hb hF _ => ⟨hw, .inl (by
    obtain ⟨v, w2, h1, h2, h3⟩ := hnd w1 hb hF
    exact ⟨v, w2, h1, h2, h3, trivial⟩)⟩, hnext⟩
/-- A block, met where it is first wanted. -/
theorem Walk.blk {R : World → World → Prop} {w : World} {Fin : Act → World → Prop} {j : Nat} {lv al : List Nat} {ph : List (Nd × List Nat × List Nat)} {pd : Pend} {A : Act} {F G : World → Prop} {l : List Oper} {o : Oper} (ho : l[j]? = some o) (mk : Nat → Value) (obj : Obj) (hmem : (j, mk, obj) ∈ pd)
    (hnext : ∀ b w0, R w w0 → F w0 → w.heap.size ≤ b → w0.heap[b]? = some obj → After P l.toArray R w (fun w1 => F w1 ∧ w1.heap[b]? = some obj) (fun pd' A' => Walk P l.toArray R w Fin ph pd' A' (fun w1 => F w1 ∧ w1.heap[b]? = some obj) G) lv al pd (A.put o.dst (mk b))) :
    Walk P l.toArray R w Fin ((.b j, lv, al) :: ph) pd A F G := ⟨o, by simpa using ho, mk, obj, hmem, hnext⟩
theorem Walk.fin {l : List Oper} {R : World → World → Prop} {w : World} {Fin : Act → World → Prop} {pd : Pend} {A : Act} {F G : World → Prop} (h : ∀ w1, R w w1 → F w1 → G w1 → Fin A w1) : Walk P l.toArray R w Fin [] pd A F G := h
theorem AlChk.one {R : World → World → Prop} {w : World} {A : Act} {F : World → Prop} {K : Pend → Prop} {j : Nat} {al : List Nat} {pd : Pend} {l : List Oper} {o : Oper} (ho : l[j]? = some o) (mk : Nat → Value) (obj : Obj) (hw : Region.wanted o (yielded l.toArray A.tmps) = true)
    (hrun : ∀ w1, R w w1 → F w1 → (execOp A.eval o).run P w1 = .ok (.value (mk w1.heap.size)) (w1.alloc obj)) (h : AlChk P l.toArray R w A F K al ((j, mk, obj) :: pd)) : AlChk P l.toArray R w A F K (j :: al) pd := ⟨o, by simpa using ho, mk, obj, ⟨hw, hrun⟩, h⟩
theorem AlChk.nil {l : List Oper} {R : World → World → Prop} {w : World} {A : Act} {F : World → Prop} {K : Pend → Prop} {pd : Pend} (h : K pd) : AlChk P l.toArray R w A F K [] pd := h
end
end Go.Proofs.YtpinamdgbijjlaaGreatDoor
namespace Go.Proofs.YtpinamdgbijjlaaGreatDoor
set_option maxRecDepth 100000
namespace FlowB
open Go.RowKit
/-- A block of this kind stays, once it is made. -/
def St (R : World → World → Prop) (w : World) (obj : Obj) : Prop := ∀ w1 w2 b, R w w1 → R w1 w2 → w.heap.size ≤ b → w1.heap[b]? = some obj → w2.heap[b]? = some obj
section
variable {P : Program} {ops : Array Oper} {md : Region.Mode}
/-- An operation waits for another one, by way of others too. -/
def waitB_ (md : Region.Mode) (ops : Array Oper) : Nat → Nat → Nat → Bool
  | 0, t, i => Region.waitsFor md ops t i
  | n + 1, t, i => Region.waitsFor md ops t i || (List.range t).any fun j => Region.waitsFor md ops t j && waitB_ md ops n j i
theorem waitB_listed {listed : Array Bool} (hstep : ∀ j j', listed.getD j false = true → Region.waitsFor md ops j j' = true → listed.getD j' false = true) : ∀ (n t i : Nat), (∀ j, Region.waitsFor md ops t j = true → listed.getD j false = true) → waitB_ md ops n t i = true → listed.getD i false = true
  | 0, _, i, h, hw => h i hw
  | n + 1, t, i, h, hw => by
    simp only [waitB_, Bool.or_eq_true, List.any_eq_true, Bool.and_eq_true] at hw
    rcases hw with hw | ⟨j, _, h1, h2⟩
    · exact h i hw
    · exact waitB_listed hstep n j i (fun j' hw' => hstep j j' (h j h1) hw') h2
/-- What the theorem asks of the region. -/
structure Fg (md : Region.Mode) (ops : Array Oper) (N1 : Nat) : Prop where
  sel : ∀ (j : Nat) (o : Oper) cs b, ops[j]? = some o → o.op ≠ .select cs b
  le : N1 ≤ ops.size
  apart : ∀ i j, i < N1 → j < N1 → i ≠ j → ∀ d, (ops[i]?).bind (·.dst) = some d → (ops[j]?).bind (·.dst) ≠ some d
  tail : ∀ t i, t < ops.size → N1 ≤ t → i < N1 → waitB_ md ops 5 t i = true
  down : ∀ (j : Nat) (o : Oper) e, ops[j]? = some o → e ∈ o.after → Region.binds md e = true → e.on < j
  seq : Region.seqB md ops (ops.size - N1) N1 (full ops.size N1) = true
theorem Fg.level {N1 : Nat} (g : Fg md ops N1) {from_ lv : List Nat} (h : levB md ops N1 from_ lv = true) :
    (∀ o ∈ lv.filterMap (ops[·]?), ∃ j ∈ lv, ops[j]? = some o) ∧
    ((lv.filterMap (ops[·]?)).Pairwise fun x y => ∀ e, x.dst = some e → y.dst ≠ some e) ∧
    (∀ (k k' : Nat) (x y : Oper) (d : Tmp), (lv.filterMap (ops[·]?))[k]? = some x → (lv.filterMap (ops[·]?))[k']? = some y → k ≤ k' → y.dst = some d → d ∉ x.looksAt ops) := level_of g.le g.apart h
/-- A step of the walk: a call in its turn; a block that is made, met where it is first wanted. -/
inductive Nd where
  | c (j : Nat)
  | b (j : Nat)
abbrev Pend := List (Nat × (Nat → Value) × Obj)
/-- The operation makes this block, and yields a value made of its number. -/
def AlOK (P : Program) (ops : Array Oper) (R : World → World → Prop) (w : World) (A : Act) (F : World → Prop) (mk : Nat → Value) (obj : Obj) (o : Oper) : Prop :=
  (Region.wanted o (yielded ops A.tmps) = true ∧ ∀ w1, R w w1 → F w1 → (execOp A.eval o).run P w1 = .ok (.value (mk w1.heap.size)) (w1.alloc obj)) ∧ St R w obj
def AlChk (P : Program) (ops : Array Oper) (R : World → World → Prop) (w : World) (A : Act) (F : World → Prop) (K : Pend → Prop) : List Nat → Pend → Prop
  | [], pd => K pd
  | j :: al, pd => ∃ o, ops[j]? = some o ∧ ∃ mk obj, AlOK P ops R w A F mk obj o ∧ AlChk P ops R w A F K al ((j, mk, obj) :: pd)
def After (P : Program) (ops : Array Oper) (R : World → World → Prop) (w : World) (F : World → Prop) (K : Pend → Act → Prop) (lv al : List Nat) (pd : Pend) (A : Act) : Prop :=
  ∃ A', (∀ w1, R w w1 → F w1 → wpQuiet P ops (fun w' => ∃ x : Ext w1, w' = x.at_) (fun a' => a' = A') (pick ops lv) A) ∧ AlChk P ops R w A' F (fun pd' => K pd' A') al pd
/-- A call, or a builtin, or a store. -/
def NdB (P : Program) (ops : Array Oper) (R : World → World → Prop) (A : Act) (w1 : World) (Fact : Value → World → Prop) (o : Oper) : Prop :=
  Region.wanted o (yielded ops A.tmps) = true ∧
  ((∃ v w2, (execOp A.eval o).run P w1 = .ok (.value v) w2 ∧ R w1 w2 ∧ Fact v w2) ∨
   (∃ f args, (execOp A.eval o).run P w1 = .ok (.enter f args) w1 ∧ Calls P f args w1 fun e w2 => ∃ v, e = .returned v ∧ R w1 w2 ∧ Fact v w2) ∨
   ∃ w2, (execOp A.eval o).run P w1 = .ok .skip w2 ∧ R w1 w2 ∧ Fact undef w2)
def Walk (P : Program) (ops : Array Oper) (R : World → World → Prop) (w : World) (Fin : Act → World → Prop) : List (Nd × List Nat × List Nat) → Pend → Act → (World → Prop) → (World → Prop) → Prop
  | [], _, A, F, G => ∀ w1, R w w1 → F w1 → G w1 → Fin A w1
  | (.c j, lv, al) :: ph, pd, A, F, G => ∃ o, ops[j]? = some o ∧ ∃ Fact Gact : Value → World → Prop, (∀ v w' w'', R w w' → Fact v w' → R w' w'' → Fact v w'') ∧ (∀ v w' w'', Gact v w' → Below w'.heap.size w' w'' → Gact v w'') ∧
      (∀ w1, R w w1 → F w1 → G w1 → NdB P ops R A w1 (fun v w2 => Fact v w2 ∧ Gact v w2) o) ∧
      ∀ v w0, R w w0 → F w0 → Fact v w0 → After P ops R w (fun w1 => F w1 ∧ Fact v w1) (fun pd' A' => Walk P ops R w Fin ph pd' A' (fun w1 => F w1 ∧ Fact v w1) (Gact v)) lv al pd (A.put o.dst v)
  | (.b j, lv, al) :: ph, pd, A, F, G => ∃ o, ops[j]? = some o ∧ ∃ mk obj, (j, mk, obj) ∈ pd ∧
      ∀ b w0, R w w0 → F w0 → w.heap.size ≤ b → w0.heap[b]? = some obj → After P ops R w (fun w1 => F w1 ∧ w1.heap[b]? = some obj) (fun pd' A' => Walk P ops R w Fin ph pd' A' (fun w1 => F w1 ∧ w1.heap[b]? = some obj) G) lv al pd (A.put o.dst (mk b))
/-- the operations that these steps bring in -/
def intro_ : List (Nd × List Nat × List Nat) → List Nat
  | [] => []
  | (.c j, lv, al) :: ph => j :: (lv ++ al ++ intro_ ph)
  | (.b _, lv, al) :: ph => lv ++ al ++ intro_ ph
def alB (md : Region.Mode) (ops : Array Oper) (N1 : Nat) (from_ pend : List Nat) (al : List Nat) : Bool :=
  al.all fun j => decide (j < N1) && !from_.contains j && !pend.contains j && looksB md ops N1 from_ j
def waitB (md : Region.Mode) (ops : Array Oper) (j : Nat) (later : List Nat) : Bool :=
  later.all fun i => (j :: later).any fun i' => Region.waitsFor md ops i i'
def fB (md : Region.Mode) (ops : Array Oper) (N1 : Nat) : List Nat → List Nat → List (Nd × List Nat × List Nat) → Bool
  | from_, pend, [] => pend.all fun j => from_.contains j
  | from_, pend, (.c j, lv, al) :: ph => decide (j < N1) && !from_.contains j && !pend.contains j && looksB md ops N1 from_ j && levB md ops N1 (from_ ++ [j]) lv && (lv.all fun k => !pend.contains k) && alB md ops N1 (from_ ++ [j] ++ lv) pend al &&
      waitB md ops j (lv ++ al ++ intro_ ph) && fB md ops N1 (from_ ++ [j] ++ lv) (pend ++ al) ph
  | from_, pend, (.b j, lv, al) :: ph => pend.contains j && !from_.contains j && levB md ops N1 (from_ ++ [j]) lv && (lv.all fun k => !pend.contains k) && alB md ops N1 (from_ ++ [j] ++ lv) pend al &&
      waitB md ops j (lv ++ al ++ intro_ ph) && fB md ops N1 (from_ ++ [j] ++ lv) (pend ++ al) ph
def flowB (md : Region.Mode) (ops : Array Oper) (N1 : Nat) (lev al : List Nat) (ph : List (Nd × List Nat × List Nat)) : Bool :=
  Region.noSelect ops && decide (N1 ≤ ops.size) &&
  ((List.range N1).all fun i => (List.range N1).all fun j => decide (j ≤ i) || match (ops[i]?).bind (·.dst) with
    | some d => (ops[j]?).bind (·.dst) != some d
    | none => true) &&
  levB md ops N1 [] lev && alB md ops N1 lev [] al && fB md ops N1 lev al ph && ((List.range N1).all fun i => (lev ++ al ++ intro_ ph).contains i) &&
  ((List.range ops.size).all fun t => decide (t < N1) || (List.range N1).all fun i => waitB_ md ops 5 t i) &&
  ((List.range ops.size).all fun j => match ops[j]? with
    | some o => o.after.all fun e => !Region.binds md e || decide (e.on < j)
    | none => true) &&
  Region.seqB md ops (ops.size - N1) N1 (full ops.size N1)
theorem alB_at {N1 : Nat} {from_ pend al : List Nat} (h : alB md ops N1 from_ pend al = true) : ∀ j ∈ al, j < N1 ∧ j ∉ from_ ∧ j ∉ pend ∧ looksB md ops N1 from_ j = true := by
  intro j hj
  simp only [alB, List.all_eq_true, Bool.and_eq_true, decide_eq_true_eq, Bool.not_eq_true'] at h
  obtain ⟨⟨⟨h1, h2⟩, h3⟩, h4⟩ := h j hj
  exact ⟨h1, by simpa using h2, by simpa using h3, h4⟩
theorem levB_mem {N1 : Nat} {lv from_ : List Nat} (h : levB md ops N1 from_ lv = true) : ∀ j ∈ lv, j < N1 ∧ j ∉ from_ ∧ looksB md ops N1 (from_ ++ lv) j = true := by
  intro j hj
  obtain ⟨p, hp, he⟩ := List.getElem_of_mem hj
  have := levB_at lv _ h p j (by rw [List.getElem?_eq_getElem hp, he])
  refine ⟨this.1, fun hm => this.2.1 (List.mem_append_left _ hm), looksB_mono (fun k hk => ?_) this.2.2⟩
  rw [List.mem_append] at hk ⊢
  exact hk.imp id List.mem_of_mem_take
theorem fB_off {N1 : Nat} : ∀ (ph : List (Nd × List Nat × List Nat)) (from_ pend : List Nat), fB md ops N1 from_ pend ph = true → ∀ k ∈ intro_ ph, k ∉ from_ ∧ k ∉ pend
  | [], _, _, _, k, hk => by simp [intro_] at hk
  | (.c j, lv, al) :: ph, from_, pend, h, k, hk => by
    simp only [fB, Bool.and_eq_true, decide_eq_true_eq, Bool.not_eq_true'] at h
    obtain ⟨⟨⟨⟨⟨⟨⟨⟨h1, h2⟩, h3⟩, h4⟩, h5⟩, h6⟩, h7⟩, h8⟩, h9⟩ := h
    simp only [intro_, List.mem_cons, List.mem_append] at hk
    rcases hk with rfl | (hk | hk) | hk
    · exact ⟨by simpa using h2, by simpa using h3⟩
    · have := levB_mem h5 k hk
      have h6 := List.all_eq_true.1 h6 k hk
      exact ⟨fun h => this.2.1 (by simp [h]), by simpa using h6⟩
    · have := alB_at h7 k hk
      exact ⟨fun h => this.2.1 (by simp [h]), this.2.2.1⟩
    · have := fB_off ph _ _ h9 k hk
      exact ⟨fun h => this.1 (by simp [h]), fun h => this.2 (by simp [h])⟩
  | (.b j, lv, al) :: ph, from_, pend, h, k, hk => by
    simp only [fB, Bool.and_eq_true, Bool.not_eq_true'] at h
    obtain ⟨⟨⟨⟨⟨⟨h3, h2⟩, h5⟩, h6⟩, h7⟩, h8⟩, h9⟩ := h
    simp only [intro_, List.mem_append] at hk
    rcases hk with (hk | hk) | hk
    · have := levB_mem h5 k hk
      have h6 := List.all_eq_true.1 h6 k hk
      exact ⟨fun h => this.2.1 (by simp [h]), by simpa using h6⟩
    · have := alB_at h7 k hk
      exact ⟨fun h => this.2.1 (by simp [h]), this.2.2.1⟩
    · have := fB_off ph _ _ h9 k hk
      exact ⟨fun h => this.1 (by simp [h]), fun h => this.2 (by simp [h])⟩
/-- What a slot reads as behind a write, in a frame of n slots. -/
def slotV (n d : Nat) (v : Value) : Option Value := if d < n then some v else none
theorem put_slotV (c : Act) (d : Tmp) (v : Value) : (c.put (some d) v).tmps[d]? = slotV c.tmps.size d v := by
  simp only [Act.put, slotV]
  rw [Array.getElem?_setIfInBounds]
  simp
structure FInv (R : World → World → Prop) (P : Program) (md : Region.Mode) (ops : Array Oper) (N1 : Nat) (a0 : Act) (w : World) (from_ : List Nat) (pd : Pend) (A : Act) (F G : World → Prop) (listed : Array Bool) : Prop where
  lt : ∀ j ∈ from_, j < N1
  looks : ∀ j ∈ from_, looksB md ops N1 from_ j = true
  det : ∀ j ∈ from_, ∀ o, ops[j]? = some o → listed.getD j false = false → Det P ops R w A F o
  plt : ∀ p ∈ pd, p.1 < N1
  plooks : ∀ p ∈ pd, looksB md ops N1 from_ p.1 = true
  pok : ∀ p ∈ pd, ∀ o, ops[p.1]? = some o → AlOK P ops R w A F p.2.1 p.2.2 o
  old : ∀ d, (∀ k ∈ from_, (ops[k]?).bind (·.dst) ≠ some d) → A.tmps[d]? = a0.tmps[d]?
  sz : A.tmps.size = a0.tmps.size
  df : A.defers = a0.defers
  stab : ∀ w' w'', R w w' → F w' → R w' w'' → F w''
  gstab : ∀ w' w'', G w' → Below w'.heap.size w' w'' → G w''
structure FAt (R : World → World → Prop) (ops : Array Oper) (a0 : Act) (w : World) (from_ : List Nat) (pd : Pend) (A : Act) (F G : World → Prop) (listed : Array Bool) (a' : Act) (w' : World) : Prop where
  rel : R w w'
  fact : F w'
  gact : G w'
  sz : a'.tmps.size = A.tmps.size
  df : a'.defers = A.defers
  sub : ∀ j, listed.getD j false = true → j ∈ from_ ∨ ∃ p ∈ pd, p.1 = j
  on : ∀ j d, j ∈ from_ → listed.getD j false = true → (ops[j]?).bind (·.dst) = some d → a'.tmps[d]? = A.tmps[d]?
  onp : ∀ p ∈ pd, p.1 ∉ from_ → listed.getD p.1 false = true → ∃ b, w.heap.size ≤ b ∧ w'.heap[b]? = some p.2.2 ∧ ∀ d, (ops[p.1]?).bind (·.dst) = some d → a'.tmps[d]? = slotV a'.tmps.size d (p.2.1 b)
  off : ∀ d, (∀ j, listed.getD j false = true → (ops[j]?).bind (·.dst) ≠ some d) → a'.tmps[d]? = a0.tmps[d]?
/-- What an operation looks at stands in the frame as in the walk's, once all that it waits for has come up. -/
theorem fsame_of {R : World → World → Prop} {N1 i : Nat} {a0 A a' : Act} {w w' : World} {from_ : List Nat} {pd : Pend} {F G : World → Prop} {listed : Array Bool} {o : Oper} (hI : FInv R P md ops N1 a0 w from_ pd A F G listed) (hA : FAt R ops a0 w from_ pd A F G listed a' w')
    (hl : looksB md ops N1 from_ i = true) (ho : ops[i]? = some o) (hdeps : ∀ e ∈ o.after, Region.binds md e = true → listed.getD e.on false = true) : Same ops o a' A := by
  refine ⟨fun d hd => ?_⟩
  by_cases h : ∃ k, k < N1 ∧ (ops[k]?).bind (·.dst) = some d
  · obtain ⟨k, hk, hkd⟩ := h
    obtain ⟨hkf, hwf⟩ := looks_spec hl ho k d hk hkd hd
    obtain ⟨oj, hoj, e, he, hb, hon⟩ := Region.waitsFor_spec hwf
    have : oj = o := Option.some.inj (hoj.symm.trans ho)
    subst this
    have := hdeps e he hb
    rw [hon] at this
    exact hA.on k d hkf this hkd
  · rw [hA.off d (fun j hj hjd => h ⟨j, (hA.sub j hj).elim (hI.lt j) (fun ⟨p, hp, hpj⟩ => hpj ▸ hI.plt p hp), hjd⟩), hI.old d (fun k hk hkd => h ⟨k, hI.lt k hk, hkd⟩)]
theorem AlOK.mono {R : World → World → Prop} {w : World} {A A2 : Act} {F F2 : World → Prop} {mk : Nat → Value} {obj : Obj} {o : Oper} (h : AlOK P ops R w A F mk obj o) (hs : ∀ cs b, o.op ≠ .select cs b) (hF : ∀ w', F2 w' → F w') (hl : Same ops o A2 A) : AlOK P ops R w A2 F2 mk obj o :=
  ⟨⟨by rw [hl.wanted]; exact h.1.1, fun w1 hr hf => by rw [hl.exec hs]; exact h.1.2 w1 hr (hF w1 hf)⟩, h.2⟩
/-- The walk goes on behind a step whose operation has come up. -/
theorem enter {R : World → World → Prop} {N1 j : Nat} {a0 A A' a' : Act} {w w' : World} {from_ lv al : List Nat} {pd pd' : Pend} {F F2 G G2 : World → Prop} {listed : Array Bool} {o : Oper} {v : Value} (g : Fg md ops N1)
    (hI : FInv R P md ops N1 a0 w from_ pd A F G listed) (hj1 : j < N1) (hjf : j ∉ from_) (hjl : looksB md ops N1 from_ j = true) (ho : ops[j]? = some o) (hlj : listed.getD j false = true)
    (hrel : R w w') (hF2 : F2 w') (hG2 : G2 w') (hmono : ∀ w1, F2 w1 → F w1) (hstab : ∀ w1 w2, R w w1 → F2 w1 → R w1 w2 → F2 w2) (hgstab : ∀ w1 w2, G2 w1 → Below w1.heap.size w1 w2 → G2 w2)
    (hsz : a'.tmps.size = A.tmps.size) (hdf : a'.defers = A.defers) (hsub : ∀ i, listed.getD i false = true → i = j ∨ i ∈ from_ ∨ ∃ p ∈ pd, p.1 = i)
    (hon : ∀ i d, i ∈ from_ → listed.getD i false = true → (ops[i]?).bind (·.dst) = some d → a'.tmps[d]? = A.tmps[d]?)
    (honj : ∀ d, o.dst = some d → a'.tmps[d]? = slotV a'.tmps.size d v)
    (honp : ∀ p ∈ pd, p.1 ≠ j → p.1 ∉ from_ → listed.getD p.1 false = true → ∃ b, w.heap.size ≤ b ∧ w'.heap[b]? = some p.2.2 ∧ ∀ d, (ops[p.1]?).bind (·.dst) = some d → a'.tmps[d]? = slotV a'.tmps.size d (p.2.1 b))
    (hoff : ∀ d, (∀ i, listed.getD i false = true → (ops[i]?).bind (·.dst) ≠ some d) → a'.tmps[d]? = a0.tmps[d]?)
    (hwalk : ∀ w1, R w w1 → F2 w1 → wpQuiet P ops (fun w' => ∃ x : Ext w1, w' = x.at_) (fun a' => a' = A') (pick ops lv) (A.put o.dst v))
    (hlev : levB md ops N1 (from_ ++ [j]) lv = true) (hlp : ∀ k ∈ lv, ∀ p ∈ pd, p.1 ≠ k) (hal : ∀ k ∈ al, k < N1 ∧ k ∉ from_ ++ [j] ++ lv ∧ (∀ p ∈ pd, p.1 ≠ k) ∧ looksB md ops N1 (from_ ++ [j] ++ lv) k = true)
    (hpd : ∀ p ∈ pd', p ∈ pd ∨ (p.1 ∈ al ∧ ∀ o, ops[p.1]? = some o → AlOK P ops R w A' F2 p.2.1 p.2.2 o)) (hpd2 : ∀ p ∈ pd, p ∈ pd') :
    FInv R P md ops N1 a0 w (from_ ++ [j] ++ lv) pd' A' F2 G2 listed ∧ FAt R ops a0 w (from_ ++ [j] ++ lv) pd' A' F2 G2 listed a' w' := by
  have hlvlt := levB_mem hlev
  have hlvl := g.level hlev
  rw [← pick_eq] at hwalk
  obtain ⟨r1, r2, r3⟩ := walk_rest (hwalk w' hrel hF2)
  have hsz' : A'.tmps.size = A.tmps.size := by rw [r1, put_size]
  -- slots of older operations stay
  have hkeep : ∀ d, (∀ i, i = j ∨ i ∈ lv → (ops[i]?).bind (·.dst) ≠ some d) → A'.tmps[d]? = A.tmps[d]? := fun d hd => by
    rw [r3 d fun oo hoo he => by
      obtain ⟨i, hi, hoi⟩ := hlvl.1 oo hoo
      exact hd i (.inr hi) (by rw [hoi]; exact he)]
    exact put_get_ne _ _ _ _ fun he => hd j (.inl rfl) (by rw [ho]; exact he)
  have hkeep2 : ∀ i d, i ∈ from_ → (ops[i]?).bind (·.dst) = some d → A'.tmps[d]? = A.tmps[d]? := fun i d hi hid =>
    hkeep d fun i' hi' hid' => by
      have hne : i ≠ i' := by
        rintro rfl
        rcases hi' with rfl | hi'
        · exact hjf hi
        · exact (hlvlt i hi').2.1 (List.mem_append_left _ hi)
      refine g.apart i i' (hI.lt i hi) ?_ hne d hid hid'
      rcases hi' with rfl | hi'
      · exact hj1
      · exact (hlvlt i' hi').1
  have hnew : ∀ i, i = j ∨ i ∈ lv → i < N1 := fun i hi => by
    rcases hi with rfl | hi
    · exact hj1
    · exact (hlvlt i hi).1
  have hsameA : ∀ (i : Nat) (oi : Oper), ops[i]? = some oi → looksB md ops N1 from_ i = true → Same ops oi A' A := fun i oi hoi hl => ⟨fun d hd => by
    by_cases h : ∃ kk, kk < N1 ∧ (ops[kk]?).bind (·.dst) = some d
    · obtain ⟨kk, hk, hkd⟩ := h
      exact hkeep2 kk d (looks_spec hl hoi kk d hk hkd hd).1 hkd
    · exact hkeep d fun j' hj' hjd' => h ⟨j', hnew j' hj', hjd'⟩⟩
  have hmem : ∀ {k : Nat}, k ∈ from_ ++ [j] ++ lv → k ∈ from_ ∨ k = j ∨ k ∈ lv := fun hk => by simpa [or_assoc] using hk
  have hin : ∀ {k : Nat}, k ∈ from_ → k ∈ from_ ++ [j] ++ lv := fun hk => by simp [hk]
  -- what the walk brings in has not come up
  have hlv0 : ∀ k ∈ lv, listed.getD k false = false := fun k hk => by
    cases h : listed.getD k false
    · rfl
    · exfalso
      rcases hsub k h with rfl | h | ⟨p, hp, hpk⟩
      · exact (hlvlt k hk).2.1 (by simp)
      · exact (hlvlt k hk).2.1 (by simp [h])
      · exact hlp k hk p hp hpk
  have hal0 : ∀ k ∈ al, listed.getD k false = false := fun k hk => by
    cases h : listed.getD k false
    · rfl
    · exfalso
      obtain ⟨_, q2, q3, _⟩ := hal k hk
      rcases hsub k h with rfl | h | ⟨p, hp, hpk⟩
      · exact q2 (by simp)
      · exact q2 (by simp [h])
      · exact q3 p hp hpk
  refine ⟨⟨fun i hi => ?_, fun i hi => ?_, fun i hi oi hoi hl => ?_, fun p hp => ?_, fun p hp => ?_, fun p hp oi hoi => ?_, fun d hd => ?_, hsz'.trans hI.sz, by rw [r2, put_defers]; exact hI.df, hstab, hgstab⟩,
    ⟨hrel, hF2, hG2, by rw [hsz, hsz'], by rw [hdf, r2, put_defers], fun i hi => ?_, fun i d hi hl hid => ?_, fun p hp hpf hl => ?_, hoff⟩⟩
  · rcases hmem hi with hi | rfl | hi
    · exact hI.lt i hi
    · exact hj1
    · exact (hlvlt i hi).1
  · rcases hmem hi with hi | rfl | hi
    · exact looksB_mono (fun k hk => hin hk) (hI.looks i hi)
    · exact looksB_mono (fun k hk => hin hk) hjl
    · exact (hlvlt i hi).2.2
  · rcases hmem hi with hi | rfl | hi
    · refine (hI.det i hi oi hoi hl).mono hsz' hmono (hsameA i oi hoi (hI.looks i hi)) ?_
      cases hod : oi.dst with
      | none => rfl
      | some d =>
        have := hkeep2 i d hi (by rw [hoi]; exact hod)
        simp only [slotOf, Array.getD_eq_getD_getElem?, this]
    · rw [hlj] at hl; cases hl
    · refine det_of_walk ?_ hlvl.2.1 hlvl.2.2 hwalk oi (List.mem_filterMap.2 ⟨i, hi, hoi⟩)
      intro oo hoo cs b
      obtain ⟨i', _, hoi'⟩ := hlvl.1 oo hoo
      exact g.sel i' oo cs b hoi'
  · rcases hpd p hp with h | h
    · exact hI.plt p h
    · exact (hal _ h.1).1
  · rcases hpd p hp with h | h
    · exact looksB_mono (fun k hk => hin hk) (hI.plooks p h)
    · exact (hal _ h.1).2.2.2
  · rcases hpd p hp with h | h
    · exact (hI.pok p h oi hoi).mono (fun cs b => g.sel p.1 oi cs b hoi) hmono (hsameA p.1 oi hoi (hI.plooks p h))
    · exact h.2 oi hoi
  · rw [hkeep d fun i hi => hd i (by rcases hi with rfl | hi <;> simp [*])]
    exact hI.old d fun k hk => hd k (hin hk)
  · rcases hsub i hi with rfl | h | ⟨p, hp, hpi⟩
    · left; simp
    · left; exact hin h
    · right; exact ⟨p, hpd2 p hp, hpi⟩
  · rcases hmem hi with hi | rfl | hi
    · rw [hkeep2 i d hi hid]
      exact hon i d hi hl hid
    · have hod : o.dst = some d := by rw [ho] at hid; exact hid
      have e1 : A'.tmps[d]? = (A.put o.dst v).tmps[d]? := r3 d fun oo hoo he => by
        obtain ⟨i', hi', hoi'⟩ := hlvl.1 oo hoo
        refine g.apart i i' hj1 (hlvlt i' hi').1 ?_ d hid (by rw [hoi']; exact he)
        rintro rfl
        exact (hlvlt i hi').2.1 (by simp)
      rw [e1, hod, put_slotV, honj d hod, hsz]
    · rw [hlv0 i hi] at hl; cases hl
  · rcases hpd p hp with h | h
    · exact honp p h (fun he => hpf (by simp [he])) (fun hf => hpf (hin hf)) hl
    · rw [hal0 _ h.1] at hl; cases hl
theorem waitB_at {j : Nat} {later : List Nat} (h : waitB md ops j later = true) : ∀ i ∈ later, ∃ k, (k = j ∨ k ∈ later) ∧ Region.waitsFor md ops i k = true := by
  intro i hi
  simp only [waitB, List.all_eq_true, List.any_eq_true] at h
  obtain ⟨k, hk, hw⟩ := h i hi
  exact ⟨k, by simpa using hk, hw⟩
theorem AlChk.out {R : World → World → Prop} {w : World} {A : Act} {F : World → Prop} {K : Pend → Prop} : ∀ (al : List Nat) (pd : Pend), AlChk P ops R w A F K al pd →
    ∃ pd', K pd' ∧ (∀ p ∈ pd', p ∈ pd ∨ (p.1 ∈ al ∧ ∀ o, ops[p.1]? = some o → AlOK P ops R w A F p.2.1 p.2.2 o)) ∧ (∀ p ∈ pd, p ∈ pd') ∧ (∀ j, (∃ p ∈ pd', p.1 = j) ↔ (∃ p ∈ pd, p.1 = j) ∨ j ∈ al)
  | [], pd, h => ⟨pd, h, fun p hp => .inl hp, fun p hp => hp, fun j => by simp⟩
  | j :: al, pd, ⟨o, ho, mk, obj, hok, h⟩ => by
    obtain ⟨pd', h1, h2, h3, h4⟩ := AlChk.out al _ h
    refine ⟨pd', h1, fun p hp => ?_, fun p hp => h3 p (by simp [hp]), fun i => ?_⟩
    · rcases h2 p hp with h | h
      · simp only [List.mem_cons] at h
        rcases h with rfl | h
        · right
          refine ⟨by simp, fun o' ho' => ?_⟩
          have : o = o' := Option.some.inj (ho.symm.trans ho')
          subst this
          exact hok
        · exact .inl h
      · right; exact ⟨by simp [h.1], h.2⟩
    · rw [h4 i]
      simp only [List.mem_cons]
      constructor
      · rintro (⟨p, rfl | hp, hpi⟩ | h)
        · right; left; exact hpi.symm
        · left; exact ⟨p, hp, hpi⟩
        · right; right; exact h
      · rintro (⟨p, hp, hpi⟩ | rfl | h)
        · left; exact ⟨p, .inr hp, hpi⟩
        · left; exact ⟨_, .inl rfl, rfl⟩
        · right; exact h
theorem FInv.st {R : World → World → Prop} {N1 : Nat} {l : List Oper} {a0 A : Act} {w : World} {from_ : List Nat} {pd : Pend} {F G : World → Prop} {listed : Array Bool} (h : FInv R P md l.toArray N1 a0 w from_ pd A F G listed) (g : Fg md l.toArray N1) : ∀ p ∈ pd, St R w p.2.2 := fun p hp => by
  have h1 := h.plt p hp
  have h2 : N1 ≤ l.length := by simpa using g.le
  exact (h.pok p hp l[p.1] (by simp [show p.1 < l.length by omega])).2
theorem advance_b {R : World → World → Prop} (_hR : Rel R) {N1 : Nat} {l : List Oper} {a0 a' A : Act} {w w' : World} {Fin : Act → World → Prop} (g : Fg md l.toArray N1)
    (_hRs : ∀ w1, R w w1 → w.heap.size ≤ w1.heap.size)
    {j : Nat} {lv al : List Nat} {ph : List (Nd × List Nat × List Nat)} {from_ pend : List Nat} {pd : Pend} {F G : World → Prop} {listed : Array Bool} {C : Prop}
    (hpe : ∀ j, (∃ p ∈ pd, p.1 = j) ↔ j ∈ pend) (hph : fB md l.toArray N1 from_ pend ((.b j, lv, al) :: ph) = true) (hcov : ∀ i, i < N1 → i ∈ from_ ∨ i ∈ pend ∨ i ∈ intro_ ((.b j, lv, al) :: ph))
    (hlex : Walk P l.toArray R w Fin ((.b j, lv, al) :: ph) pd A F G) (hI : FInv R P md l.toArray N1 a0 w from_ pd A F G listed) (hA : FAt R l.toArray a0 w from_ pd A F G listed a' w') (hlj : listed.getD j false = true)
    (next : ∀ (from2 pend2 : List Nat) (pd2 : Pend) (A2 : Act) (F2 G2 : World → Prop), fB md l.toArray N1 from2 pend2 ph = true → (∀ j, (∃ p ∈ pd2, p.1 = j) ↔ j ∈ pend2) → (∀ i, i < N1 → i ∈ from2 ∨ i ∈ pend2 ∨ i ∈ intro_ ph) →
      Walk P l.toArray R w Fin ph pd2 A2 F2 G2 → FInv R P md l.toArray N1 a0 w from2 pd2 A2 F2 G2 listed → FAt R l.toArray a0 w from2 pd2 A2 F2 G2 listed a' w' → C) : C := by
  simp only [fB, Bool.and_eq_true, Bool.not_eq_true'] at hph
  obtain ⟨⟨⟨⟨⟨⟨h3, h2⟩, h5⟩, h6⟩, h7⟩, h8⟩, h9⟩ := hph
  have hjf : j ∉ from_ := by simpa using h2
  obtain ⟨o, ho, mk, obj, hmem, hnext⟩ := hlex
  obtain ⟨b, hb, hheap, hslot⟩ := hA.onp _ hmem hjf hlj
  obtain ⟨A', hq, hal⟩ := hnext b w' hA.rel hA.fact hb hheap
  obtain ⟨pd', hK, hp1, hp2, hp3⟩ := hal.out
  have hE := enter (o := o) (v := mk b) (F2 := fun w1 => F w1 ∧ w1.heap[b]? = some obj) (G2 := G) (lv := lv) (al := al) (pd' := pd') g hI (hI.plt _ hmem) hjf (hI.plooks _ hmem) ho hlj hA.rel ⟨hA.fact, hheap⟩ hA.gact (fun _ h => h.1)
    (fun w1 w2 hr h hr2 => ⟨hI.stab _ _ hr h.1 hr2, hI.st g _ hmem _ _ _ hr hr2 hb h.2⟩) hI.gstab hA.sz hA.df (fun i hi => .inr (hA.sub i hi)) hA.on (fun d hd => hslot d (by rw [ho]; exact hd)) (fun p hp _ => hA.onp p hp) hA.off hq h5
    (fun k hk p hp hpk => by
      have := List.all_eq_true.1 h6 k hk
      have h2 : k ∉ pend := by simpa using this
      exact h2 ((hpe k).1 ⟨p, hp, hpk⟩))
    (fun k hk => by
      obtain ⟨q1, q2, q3, q4⟩ := alB_at h7 k hk
      exact ⟨q1, q2, fun p hp hpk => q3 ((hpe k).1 ⟨p, hp, hpk⟩), q4⟩) hp1 hp2
  refine next _ _ pd' A' _ G h9 (fun i => ?_) (fun i hi => ?_) hK hE.1 hE.2
  · rw [hp3 i, hpe i, List.mem_append]
  · have := hcov i hi
    simp only [intro_, List.mem_append, List.mem_singleton] at this ⊢
    rcases this with h | h | (h | h) | h <;> simp [h]
theorem flow_step {R : World → World → Prop} (hR : Rel R) {N1 : Nat} {Q : Exit → Act → World → Prop} {l : List Oper} {a0 a' A : Act} {w w' : World} {Fin : Act → World → Prop} (g : Fg md l.toArray N1)
    (hRs : ∀ w1, R w w1 → w.heap.size ≤ w1.heap.size)
    {k : Nat} {ph : List (Nd × List Nat × List Nat)} {from_ pend : List Nat} {pd : Pend} {F G : World → Prop} {listed : Array Bool}
    (hs : listed.size = l.length) (ht : ∀ t, N1 ≤ t → listed.getD t false = false) (hcl : ∀ j o, l.toArray[j]? = some o → listed.getD j false = true → ∀ e ∈ o.after, Region.binds md e = true → listed.getD e.on false = true) (hc : cnt N1 listed = k + 1) (hph : fB md l.toArray N1 from_ pend ph = true) (hpe : ∀ j, (∃ p ∈ pd, p.1 = j) ↔ j ∈ pend) (hcov : ∀ i, i < N1 → i ∈ from_ ∨ i ∈ pend ∨ i ∈ intro_ ph)
    (hlex : Walk P l.toArray R w Fin ph pd A F G) (hI : FInv R P md l.toArray N1 a0 w from_ pd A F G listed) (hA : FAt R l.toArray a0 w from_ pd A F G listed a' w')
    (hb : ∀ j lv al ph', ph = (.b j, lv, al) :: ph' → listed.getD j false = false)
    (ih : ∀ (ph : List (Nd × List Nat × List Nat)) (listed : Array Bool) (a' : Act) (w' : World) (from_ pend : List Nat) (pd : Pend) (A : Act) (F G : World → Prop), listed.size = l.length → (∀ t, N1 ≤ t → listed.getD t false = false) → (∀ j o, l.toArray[j]? = some o → listed.getD j false = true → ∀ e ∈ o.after, Region.binds md e = true → listed.getD e.on false = true) → cnt N1 listed = k →
      fB md l.toArray N1 from_ pend ph = true → (∀ j, (∃ p ∈ pd, p.1 = j) ↔ j ∈ pend) → (∀ i, i < N1 → i ∈ from_ ∨ i ∈ pend ∨ i ∈ intro_ ph) → Walk P l.toArray R w Fin ph pd A F G →
      FInv R P md l.toArray N1 a0 w from_ pd A F G listed → FAt R l.toArray a0 w from_ pd A F G listed a' w' → wpAny P md l.toArray Q (k + (l.length - N1)) listed a' w') : wpAny P md l.toArray Q (k + 1 + (l.length - N1)) listed a' w' := by
  have hle3 : N1 ≤ l.length := by simpa using g.le
  obtain ⟨i0, hi0, hu0⟩ := cnt_succ hc
  rw [show k + 1 + (l.length - N1) = (k + (l.length - N1)) + 1 by omega]
  refine ⟨fun h0 => ?_, fun i hi => ?_⟩
  · obtain ⟨j, hj⟩ := ready_of g.down (listed := listed) (by simpa using hs) i0 (by simp; omega) hu0
    rw [h0] at hj; cases hj
  obtain ⟨hiu, o, ho, hdeps⟩ := mem_ready.1 hi
  have ho' : l[i]? = some o := by simpa using ho
  have hil : i < l.length := (List.getElem?_eq_some_iff.1 ho').1
  have hi1 : i < N1 := by
    rcases Nat.lt_or_ge i N1 with h | h
    · exact h
    · have hdir : ∀ j, Region.waitsFor md l.toArray i j = true → listed.getD j false = true := fun j hwf => by
        obtain ⟨oj, hoj, e, he, hb, hon⟩ := Region.waitsFor_spec hwf
        have : oj = o := Option.some.inj (hoj.symm.trans ho)
        subst this
        have := hdeps e he hb
        rwa [hon] at this
      have hstep : ∀ j j', listed.getD j false = true → Region.waitsFor md l.toArray j j' = true → listed.getD j' false = true := fun j j' hj hwf2 => by
        obtain ⟨oj, hoj, e, he, hb, hon⟩ := Region.waitsFor_spec hwf2
        have := hcl j oj hoj hj e he hb
        rwa [hon] at this
      have := waitB_listed hstep 5 i i0 hdir (g.tail i i0 (by simpa using hil) h hi0)
      rw [hu0] at this; cases this
  have hfn : listed.getD i false = false := getD_both hiu
  have hcnt := cnt_set hi1 (by omega) hfn
  have hseti : (listed.setIfInBounds i true).getD i false = true := by simp [hs, hil]
  have hset : ∀ j, (listed.setIfInBounds i true).getD j false = true → j = i ∨ listed.getD j false = true := fun j hj => by
    by_cases h : j = i
    · exact .inl h
    · right; rw [getD_set_ne false (Ne.symm h)] at hj; exact hj
  have hset2 : ∀ j, listed.getD j false = true → (listed.setIfInBounds i true).getD j false = true := fun j hj => by
    by_cases h : j = i
    · subst h; exact hseti
    · rw [getD_set_ne false (Ne.symm h)]; exact hj
  have hset3 : ∀ j, (listed.setIfInBounds i true).getD j false = false → listed.getD j false = false := fun j hj => by
    cases h : listed.getD j false
    · rfl
    · rw [hset2 j h] at hj; cases hj
  have htail' : ∀ t, N1 ≤ t → (listed.setIfInBounds i true).getD t false = false := fun t htt => by rw [getD_set_ne false (by omega)]; exact ht t htt
  have hcl' : ∀ j o', l.toArray[j]? = some o' → (listed.setIfInBounds i true).getD j false = true → ∀ e ∈ o'.after, Region.binds md e = true → (listed.setIfInBounds i true).getD e.on false = true := fun j o' hj hl e he hb => by
    rcases hset j hl with rfl | hl
    · have : o' = o := Option.some.inj (hj.symm.trans ho)
      subst this
      exact hset2 _ (hdeps e he hb)
    · exact hset2 _ (hcl j o' hj hl e he hb)
  have hdone : ∀ kk, Region.waitsFor md l.toArray i kk = true → listed.getD kk false = true := fun kk hwf => by
    obtain ⟨oj, hoj, e, he, hb, hon⟩ := Region.waitsFor_spec hwf
    have : oj = o := Option.some.inj (hoj.symm.trans ho)
    subst this
    have := hdeps e he hb
    rwa [hon] at this
  -- slots of the others stay
  have hput : ∀ (v : Value) (d : Tmp) (j : Nat), j < N1 → j ≠ i → (l.toArray[j]?).bind (·.dst) = some d → (a'.put o.dst v).tmps[d]? = a'.tmps[d]? := fun v d j hj hne hjd =>
    put_get_ne _ _ _ _ fun he => g.apart j i hj hi1 hne d hjd (by rw [ho]; exact he)
  by_cases hif : i ∈ from_
  · -- an operation whose value is known
    have hsame := fsame_of hI hA (hI.looks i hif) ho hdeps
    obtain ⟨v, hy, hputv⟩ := hI.det i hif o ho hfn w' hA.rel hA.fact a' hA.sz hsame
    refine wpOp_of_qOp (C := fun w'' => ∃ x : Ext w', w'' = x.at_) (K := fun a'' => a'' = a'.put o.dst v) ⟨⟨w', Below.refl _ _⟩, rfl⟩ ?_ (hy.qOp ho rfl)
    rintro a'' w'' ⟨x, rfl⟩ rfl
    have hrx := hR.of x.same
    rw [hputv a' hA.sz]
    refine ih ph _ _ _ from_ pend pd A F G (by simpa using hs) htail' hcl' (by omega) hph hpe hcov hlex ?_ ?_
    · exact ⟨hI.lt, hI.looks, fun j hj oj hoj hl => hI.det j hj oj hoj (hset3 j hl), hI.plt, hI.plooks, hI.pok, hI.old, hI.sz, hI.df, hI.stab, hI.gstab⟩
    · refine ⟨hR.trans hA.rel hrx, hI.stab _ _ hA.rel hA.fact hrx, hI.gstab _ _ hA.gact x.same, by rw [put_size]; exact hA.sz, by rw [put_defers]; exact hA.df, fun j hj => ?_, fun j d hjf hj hjd => ?_, fun p hp hpf hj => ?_, fun d hd => ?_⟩
      · rcases hset j hj with rfl | h
        · exact .inl hif
        · exact hA.sub j h
      · by_cases hod : o.dst = some d
        · rw [hod]; exact put_get_self a' A d hA.sz
        · rw [put_get_ne _ _ _ _ hod]
          rcases hset j hj with rfl | h
          · rw [ho] at hjd; exact absurd hjd hod
          · exact hA.on j d hjf h hjd
      · have hne : p.1 ≠ i := fun h => hpf (h ▸ hif)
        have hjl : listed.getD p.1 false = true := (hset _ hj).resolve_left hne
        obtain ⟨b, hb1, hb2, hb3⟩ := hA.onp p hp hpf hjl
        refine ⟨b, hb1, hI.st g _ hp _ _ _ hA.rel hrx hb1 hb2, fun d hd => ?_⟩
        rw [hput _ d p.1 (hI.plt p hp) hne hd, put_size]
        exact hb3 d hd
      · have hod : o.dst ≠ some d := fun he => hd i hseti (by rw [ho]; exact he)
        rw [put_get_ne _ _ _ _ hod]
        exact hA.off d fun j hj => hd j (hset2 j hj)
  · by_cases hip : ∃ p ∈ pd, p.1 = i
    · -- a block that is made
      obtain ⟨p, hp, rfl⟩ := hip
      have hsame := fsame_of hI hA (hI.plooks p hp) ho hdeps
      obtain ⟨⟨hwant, hrun⟩, _⟩ := hI.pok p hp o ho
      have hrun := hrun w' hA.rel hA.fact
      unfold wpOp
      simp only [ho]
      rw [if_pos (by rw [hsame.wanted]; exact hwant)]
      left
      unfold Oper.wp
      rw [hsame.exec (fun cs b => g.sel p.1 o cs b ho), hrun, Oper.upon_value]
      have hbel : Below w'.heap.size w' (w'.alloc p.2.2) := (Below.refl _ _).alloc (Nat.le_refl _) _
      have hrx := hR.of hbel
      have hnewb : (w'.alloc p.2.2).heap[w'.heap.size]? = some p.2.2 := by
        show (w'.heap.push _)[w'.heap.size]? = _
        simp
      refine ih ph _ _ _ from_ pend pd A F G (by simpa using hs) htail' hcl' (by omega) hph hpe hcov hlex ?_ ?_
      · exact ⟨hI.lt, hI.looks, fun j hj oj hoj hl => hI.det j hj oj hoj (hset3 j hl), hI.plt, hI.plooks, hI.pok, hI.old, hI.sz, hI.df, hI.stab, hI.gstab⟩
      · refine ⟨hR.trans hA.rel hrx, hI.stab _ _ hA.rel hA.fact hrx, hI.gstab _ _ hA.gact hbel, by rw [put_size]; exact hA.sz, by rw [put_defers]; exact hA.df, fun j hj => ?_, fun j d hjf hj hjd => ?_, fun q hq hqf hj => ?_, fun d hd => ?_⟩
        · rcases hset j hj with rfl | h
          · exact .inr ⟨p, hp, rfl⟩
          · exact hA.sub j h
        · have hne : j ≠ p.1 := fun h => hif (h ▸ hjf)
          rw [hput _ d j (hI.lt j hjf) hne hjd]
          exact hA.on j d hjf ((hset j hj).resolve_left hne) hjd
        · by_cases hqp : q.1 = p.1
          · obtain ⟨⟨_, hrun2⟩, _⟩ := hI.pok q hq o (by rw [hqp]; exact ho)
            have hrun2 := hrun2 w' hA.rel hA.fact
            rw [← hsame.exec (fun cs b => g.sel p.1 o cs b ho)] at hrun hrun2
            rw [hrun] at hrun2
            simp only [Result.ok.injEq, Next.value.injEq] at hrun2
            obtain ⟨e1, e2⟩ := hrun2
            have e3 : p.2.2 = q.2.2 := by
              have := congrArg (fun x : World => x.heap[w'.heap.size]?) e2
              rw [hnewb, show (w'.alloc q.2.2).heap[w'.heap.size]? = some q.2.2 by show (w'.heap.push _)[w'.heap.size]? = _; simp] at this
              exact Option.some.inj this
            refine ⟨w'.heap.size, hRs _ hA.rel, by rw [hnewb, e3], fun d hd => ?_⟩
            rw [hqp, ho] at hd
            have hd : o.dst = some d := hd
            rw [hd, put_slotV, put_size, e1]
          · have hjl : listed.getD q.1 false = true := (hset _ hj).resolve_left hqp
            obtain ⟨b, hb1, hb2, hb3⟩ := hA.onp q hq hqf hjl
            refine ⟨b, hb1, hI.st g _ hq _ _ _ hA.rel hrx hb1 hb2, fun d hd => ?_⟩
            rw [hput _ d q.1 (hI.plt q hq) hqp hd, put_size]
            exact hb3 d hd
        · have hod : o.dst ≠ some d := fun he => hd p.1 hseti (by rw [ho]; exact he)
          rw [put_get_ne _ _ _ _ hod]
          exact hA.off d fun j hj => hd j (hset2 j hj)
    · -- a call in its turn
      have hint : i ∈ intro_ ph := (hcov i hi1).resolve_left hif |>.resolve_left fun h => hip ((hpe i).2 h)
      have hoff := fB_off _ _ _ hph
      have hun : ∀ kk ∈ intro_ ph, listed.getD kk false = false := fun kk hk => by
        cases h : listed.getD kk false
        · rfl
        · exfalso
          rcases hA.sub kk h with h | h
          · exact (hoff kk hk).1 h
          · exact (hoff kk hk).2 ((hpe kk).1 h)
      cases ph with
      | nil => simp [intro_] at hint
      | cons x ph =>
      obtain ⟨nd, lv, al⟩ := x
      cases nd with
      | b j =>
        exfalso
        have huj := hb j lv al ph rfl
        simp only [fB, Bool.and_eq_true, Bool.not_eq_true'] at hph
        obtain ⟨⟨⟨⟨⟨⟨h3, h2⟩, h5⟩, h6⟩, h7⟩, h8⟩, h9⟩ := hph
        obtain ⟨kk, hk, hwf⟩ := waitB_at h8 i (by simpa [intro_] using hint)
        have := hdone kk hwf
        rcases hk with rfl | hk
        · rw [huj] at this; cases this
        · rw [hun kk (by simpa [intro_] using hk)] at this; cases this
      | c j =>
      have hph0 := hph
      simp only [fB, Bool.and_eq_true, decide_eq_true_eq, Bool.not_eq_true'] at hph0
      obtain ⟨⟨⟨⟨⟨⟨⟨⟨h1, h2⟩, h3⟩, h4⟩, h5⟩, h6⟩, h7⟩, h8⟩, h9⟩ := hph0
      have hij : i = j := by
        simp only [intro_, List.mem_cons] at hint
        rcases hint with h | h
        · exact h
        · exfalso
          obtain ⟨kk, hk, hwf⟩ := waitB_at h8 i h
          have := hdone kk hwf
          rw [hun kk (by simpa [intro_] using hk)] at this
          cases this
      subst hij
      obtain ⟨o2, ho2, Fact, Gact, hstab, hgstab, hnd, hnext⟩ := hlex
      have : o2 = o := Option.some.inj (ho2.symm.trans ho)
      subst this
      have hsame := fsame_of hI hA h4 ho hdeps
      have key : ∀ v w2, R w' w2 → (Fact v w2 ∧ Gact v w2) → wpAny P md l.toArray Q (k + (l.length - N1)) (listed.setIfInBounds i true) (a'.put o2.dst v) w2 := by
        intro v w2 hb2 hfg2
        obtain ⟨hf2, hg2⟩ := hfg2
        have hrel := hR.trans hA.rel hb2
        have hF' := hI.stab _ _ hA.rel hA.fact hb2
        obtain ⟨A', hq, hal⟩ := hnext v w2 hrel hF' hf2
        obtain ⟨pd', hK, hp1, hp2, hp3⟩ := hal.out
        have hI2 : FInv R P md l.toArray N1 a0 w from_ pd A F G (listed.setIfInBounds i true) := ⟨hI.lt, hI.looks, fun j hj oj hoj hl => hI.det j hj oj hoj (hset3 j hl), hI.plt, hI.plooks, hI.pok, hI.old, hI.sz, hI.df, hI.stab, hI.gstab⟩
        have hE := enter (o := o2) (v := v) (F2 := fun w1 => F w1 ∧ Fact v w1) (G2 := Gact v) (lv := lv) (al := al) (pd' := pd') (a' := a'.put o2.dst v) (w' := w2) g hI2 hi1 hif h4 ho hseti hrel ⟨hF', hf2⟩ hg2 (fun _ h => h.1)
          (fun w1 w2 hr h hr2 => ⟨hI.stab _ _ hr h.1 hr2, hstab _ _ _ hr h.2 hr2⟩) (fun w1 w2 => hgstab _ w1 w2) (by rw [put_size]; exact hA.sz) (by rw [put_defers]; exact hA.df)
          (fun kk hk => (hset kk hk).imp id (hA.sub kk))
          (fun kk d hkf hk hkd => by
            have hne : kk ≠ i := fun h => hif (h ▸ hkf)
            rw [hput _ d kk (hI.lt kk hkf) hne hkd]
            exact hA.on kk d hkf ((hset kk hk).resolve_left hne) hkd)
          (fun d hd => by rw [hd, put_slotV, put_size])
          (fun p hp hne hpf hl => by
            obtain ⟨b, hb1, hb2', hb3⟩ := hA.onp p hp hpf ((hset _ hl).resolve_left hne)
            refine ⟨b, hb1, hI.st g _ hp _ _ _ hA.rel hb2 hb1 hb2', fun d hd => ?_⟩
            rw [hput _ d p.1 (hI.plt p hp) hne hd, put_size]
            exact hb3 d hd)
          (fun d hd => by
            have hod : o2.dst ≠ some d := fun he => hd i hseti (by rw [ho]; exact he)
            rw [put_get_ne _ _ _ _ hod]
            exact hA.off d fun j hj => hd j (hset2 j hj))
          hq h5
          (fun kk hk p hp hpk => by
            have := List.all_eq_true.1 h6 kk hk
            have h2 : kk ∉ pend := by simpa using this
            exact h2 ((hpe kk).1 ⟨p, hp, hpk⟩))
          (fun kk hk => by
            obtain ⟨q1, q2, q3, q4⟩ := alB_at h7 kk hk
            exact ⟨q1, q2, fun p hp hpk => q3 ((hpe kk).1 ⟨p, hp, hpk⟩), q4⟩) hp1 hp2
        refine ih ph _ _ _ _ _ pd' A' _ _ (by simpa using hs) htail' hcl' (by omega) h9 (fun kk => ?_) (fun kk hk => ?_) hK hE.1 hE.2
        · rw [hp3 kk, hpe kk, List.mem_append]
        · have := hcov kk hk
          simp only [intro_, List.mem_append, List.mem_cons] at this ⊢
          rcases this with h | h | h | (h | h) | h <;> simp [h]
      obtain ⟨hwant, hrun⟩ := hnd w' hA.rel hA.fact hA.gact
      unfold wpOp
      simp only [ho]
      rw [if_pos (by rw [hsame.wanted]; exact hwant)]
      left
      unfold Oper.wp
      rw [hsame.exec (fun cs b => g.sel i o2 cs b ho)]
      rcases hrun with ⟨v, w2, hr, hb2, hf2⟩ | ⟨f, args, hr, hcall⟩ | ⟨w2, hr, hb2, hf2⟩
      · rw [hr, Oper.upon_value]
        exact key v w2 hb2 hf2
      · rw [hr, Oper.upon_enter]
        refine hcall.mono fun e w2 h => ?_
        obtain ⟨v, rfl, hb2, hf2⟩ := h
        exact key v w2 hb2 hf2
      · rw [hr]
        exact key undef w2 hb2 hf2
theorem wpAny_flow {R : World → World → Prop} (hR : Rel R) {N1 : Nat} {Q : Exit → Act → World → Prop} {l : List Oper} {a0 : Act} {w : World} (g : Fg md l.toArray N1)
    (hRs : ∀ w1, R w w1 → w.heap.size ≤ w1.heap.size) :
    ∀ (k : Nat) (ph : List (Nd × List Nat × List Nat)) (listed : Array Bool) (a' : Act) (w' : World) (from_ pend : List Nat) (pd : Pend) (A : Act) (F G : World → Prop), listed.size = l.length → (∀ t, N1 ≤ t → listed.getD t false = false) → (∀ j o, l.toArray[j]? = some o → listed.getD j false = true → ∀ e ∈ o.after, Region.binds md e = true → listed.getD e.on false = true) → cnt N1 listed = k →
      fB md l.toArray N1 from_ pend ph = true → (∀ j, (∃ p ∈ pd, p.1 = j) ↔ j ∈ pend) → (∀ i, i < N1 → i ∈ from_ ∨ i ∈ pend ∨ i ∈ intro_ ph) → Walk P l.toArray R w (fun A w1 => wpList P l.toArray Q (l.drop N1) A w1) ph pd A F G →
      FInv R P md l.toArray N1 a0 w from_ pd A F G listed → FAt R l.toArray a0 w from_ pd A F G listed a' w' → wpAny P md l.toArray Q (k + (l.length - N1)) listed a' w' := by
  have hle3 : N1 ≤ l.length := by simpa using g.le
  intro k
  induction k with
  | zero =>
    intro ph
    induction ph with
    | nil =>
      intro listed a' w' from_ pend pd A F G hs ht hcl hc hph hpe hcov hlex hI hA
      have hall := cnt_zero hc
      have hfull : listed = full l.length N1 := full_eq hs hall ht
      have hseq := g.seq
      have hdl : (l.drop N1).length = l.length - N1 := by simp
      have hbound : ∀ j ∈ pend, j ∈ from_ := fun j hj => by
        simp only [fB, List.all_eq_true] at hph
        simpa using hph j hj
      have haA : a' = A := by
        have e : a'.tmps = A.tmps := by
          apply Array.ext_getElem?
          intro d
          by_cases h : ∃ j, listed.getD j false = true ∧ ((l.toArray)[j]?).bind (·.dst) = some d
          · obtain ⟨j, h1, h2⟩ := h
            have hjf : j ∈ from_ := (hA.sub j h1).elim id fun ⟨p, hp, hpj⟩ => hbound j ((hpe j).1 ⟨p, hp, hpj⟩)
            exact hA.on j d hjf h1 h2
          · rw [hA.off d (fun j hj hjd => h ⟨j, hj, hjd⟩), hI.old d (fun k hk hkd => h ⟨k, hall k (hI.lt k hk), hkd⟩)]
        have e2 := hA.df
        cases a'; cases A
        simp only at e e2
        rw [e, e2]
      subst haA
      rw [Nat.zero_add, ← hdl]
      exact wpAny_of_seq (l.drop N1) N1 listed a' w' (fun j => by simp [List.getElem?_drop]) (by rw [hdl, hfull]; simpa using hseq) (hlex w' hA.rel hA.fact hA.gact)
    | cons x ph ihp =>
      intro listed a' w' from_ pend pd A F G hs ht hcl hc hph hpe hcov hlex hI hA
      have hall := cnt_zero hc
      obtain ⟨nd, lv, al⟩ := x
      cases nd with
      | c j =>
        exfalso
        simp only [fB, Bool.and_eq_true, decide_eq_true_eq, Bool.not_eq_true'] at hph
        obtain ⟨⟨⟨⟨⟨⟨⟨⟨h1, h2⟩, h3⟩, h4⟩, h5⟩, h6⟩, h7⟩, h8⟩, h9⟩ := hph
        rcases hA.sub j (hall j h1) with h | ⟨p, hp, hpj⟩
        · have : j ∉ from_ := by simpa using h2
          exact this h
        · have : j ∉ pend := by simpa using h3
          exact this ((hpe j).1 ⟨p, hp, hpj⟩)
      | b j => exact advance_b hR g hRs hpe hph hcov hlex hI hA (by
          simp only [fB, Bool.and_eq_true, Bool.not_eq_true'] at hph
          have hj : j ∈ pend := by simpa using hph.1.1.1.1.1.1
          obtain ⟨p, hp, rfl⟩ := (hpe j).2 hj
          exact hall _ (hI.plt p hp)) fun from2 pend2 pd2 A2 F2 G2 q1 q2 q3 q4 q5 q6 => ihp listed a' w' from2 pend2 pd2 A2 F2 G2 hs ht hcl hc q1 q2 q3 q4 q5 q6
  | succ k ih =>
    intro ph
    induction ph with
    | nil =>
      intro listed a' w' from_ pend pd A F G hs ht hcl hc hph hpe hcov hlex hI hA
      exact flow_step hR g hRs hs ht hcl hc hph hpe hcov hlex hI hA (fun j lv al ph' h => by cases h) fun ph2 listed2 a2 w2 from2 pend2 pd2 A2 F2 G2 => ih ph2 listed2 a2 w2 from2 pend2 pd2 A2 F2 G2
    | cons x ph ihp =>
      intro listed a' w' from_ pend pd A F G hs ht hcl hc hph hpe hcov hlex hI hA
      obtain ⟨nd, lv, al⟩ := x
      cases nd with
      | c j => exact flow_step hR g hRs hs ht hcl hc hph hpe hcov hlex hI hA (fun j lv al ph' h => by cases h) fun ph2 listed2 a2 w2 from2 pend2 pd2 A2 F2 G2 => ih ph2 listed2 a2 w2 from2 pend2 pd2 A2 F2 G2
      | b j =>
        cases hlj : listed.getD j false with
        | true => exact advance_b hR g hRs hpe hph hcov hlex hI hA hlj fun from2 pend2 pd2 A2 F2 G2 q1 q2 q3 q4 q5 q6 => ihp listed a' w' from2 pend2 pd2 A2 F2 G2 hs ht hcl hc q1 q2 q3 q4 q5 q6
        | false => exact flow_step hR g hRs hs ht hcl hc hph hpe hcov hlex hI hA (fun j2 lv2 al2 ph' h => by cases h; exact hlj) fun ph2 listed2 a2 w2 from2 pend2 pd2 A2 F2 G2 => ih ph2 listed2 a2 w2 from2 pend2 pd2 A2 F2 G2
theorem fgl_of {N1 : Nat} {lev al : List Nat} {ph : List (Nd × List Nat × List Nat)} (h : flowB md ops N1 lev al ph = true) : Fg md ops N1 ∧ levB md ops N1 [] lev = true ∧ alB md ops N1 lev [] al = true ∧ fB md ops N1 lev al ph = true ∧ ∀ i, i < N1 → i ∈ lev ∨ i ∈ al ∨ i ∈ intro_ ph := by
  simp only [flowB, Bool.and_eq_true, decide_eq_true_eq, List.all_eq_true, List.mem_range] at h
  obtain ⟨⟨⟨⟨⟨⟨⟨⟨⟨h1, h2⟩, h3⟩, h4⟩, h5⟩, h5b⟩, h6⟩, h7⟩, h8⟩, h9⟩ := h
  refine ⟨⟨fun j o cs b => Region.noSelect_spec h1 j o cs b, h2, ?_, ?_, ?_, h9⟩, h4, h5, h5b, fun i hi => by simpa [or_assoc] using h6 i hi⟩
  · have key : ∀ i j, i < N1 → j < N1 → i < j → ∀ d, (ops[i]?).bind (·.dst) = some d → (ops[j]?).bind (·.dst) ≠ some d := by
      intro i j hi hj hij d hd he
      have := h3 i hi j hj
      simp only [hd, Bool.or_eq_true, decide_eq_true_eq] at this
      rcases this with h | h
      · omega
      · rw [he] at h; simp at h
    intro i j hi hj hne d hd he
    rcases Nat.lt_or_gt_of_ne hne with h | h
    · exact key i j hi hj h d hd he
    · exact key j i hj hi h d he hd
  · intro t i ht hN hi
    have := h7 t ht
    simp only [Bool.or_eq_true, decide_eq_true_eq, List.all_eq_true, List.mem_range] at this
    rcases this with h | h
    · omega
    · exact h i hi
  · intro j o e ho he hb
    have hlt : j < ops.size := (Array.getElem?_eq_some_iff.1 ho).1
    have := h8 j hlt
    simp only [ho, Array.all_eq_true_iff_forall_mem, Bool.or_eq_true, decide_eq_true_eq, Bool.not_eq_true'] at this
    rcases this e he with h | h
    · rw [hb] at h; cases h
    · exact h
/-- The whole region: what is quiet first; blocks and calls in their turn; then a tail in the order of the text. -/
theorem wp_region_flow_in {R : World → World → Prop} (hR : Rel R) (G : World → Prop) {id : Nat} (N1 : Nat) (lev al : List Nat) (ph : List (Nd × List Nat × List Nat)) {Q : Exit → Act → World → Prop} {a : Act} {w : World} {l : List Oper} (hm : P.follows .mixedOrders = true) (hB : flowB .any l.toArray N1 lev al ph = true)
    (hRs : ∀ w1, R w w1 → w.heap.size ≤ w1.heap.size) (hG : G w) (hGs : ∀ w' w'', G w' → Below w'.heap.size w' w'' → G w'')
    (h : After P l.toArray R w (fun _ => True) (fun pd' A' => Walk P l.toArray R w (fun A w1 => wpList P l.toArray Q (l.drop N1) A w1) ph pd' A' (fun _ => True) G) lev al [] a) : (Code.region id l.toArray true).wp P Q a w := by
  obtain ⟨A, hlev, hal⟩ := h
  obtain ⟨g, hlB, haB, hpB, hcov⟩ := fgl_of hB
  have hle : N1 ≤ l.length := by simpa using g.le
  have hlvl := g.level hlB
  have hrel : R w w.drew := hR.of (Below.refl _ _).drew
  rw [← pick_eq] at hlev
  obtain ⟨r1, r2, r3⟩ := walk_rest (hlev w.drew hrel trivial)
  obtain ⟨pd', hK, hp1, hp2, hp3⟩ := hal.out
  have hno : ∀ j, (Array.replicate l.length false).getD j false = false := fun j => getD_replicate_false _ _
  have hpa : ∀ p ∈ pd', p.1 ∈ al ∧ ∀ o, l.toArray[p.1]? = some o → AlOK P l.toArray R w A (fun _ => True) p.2.1 p.2.2 o := fun p hp => by
    rcases hp1 p hp with h | h
    · simp at h
    · exact h
  refine wp_region_any hm ?_
  have hI : FInv R P .any l.toArray N1 a w lev pd' A (fun _ => True) G (Array.replicate l.length false) := by
    refine ⟨fun j hj => (levB_mem hlB j hj).1, fun j hj => by simpa using (levB_mem hlB j hj).2.2, fun j hj o ho _ => ?_, fun p hp => (alB_at haB _ (hpa p hp).1).1, fun p hp => (alB_at haB _ (hpa p hp).1).2.2.2, fun p hp => (hpa p hp).2, fun d hd => ?_, r1, r2, fun _ _ _ _ _ => trivial, hGs⟩
    · refine det_of_walk (fun oo hoo cs b => ?_) hlvl.2.1 hlvl.2.2 hlev o (List.mem_filterMap.2 ⟨j, hj, ho⟩)
      obtain ⟨j', _, hoj'⟩ := hlvl.1 oo hoo
      exact g.sel j' oo cs b hoj'
    · refine r3 d fun oo hoo he => ?_
      obtain ⟨j, hj, hoj⟩ := hlvl.1 oo hoo
      exact hd j hj (by rw [hoj]; exact he)
  have hA : FAt R l.toArray a w lev pd' A (fun _ => True) G (Array.replicate l.length false) a w.drew := by
    refine ⟨hrel, trivial, hGs _ _ hG (Below.refl _ _).drew, r1.symm, r2.symm, fun j hj => ?_, fun j d _ hj => ?_, fun p _ _ hj => ?_, fun d _ => rfl⟩
    all_goals (rw [hno] at hj; cases hj)
  have := wpAny_flow hR (Q := Q) (a0 := a) g hRs N1 ph (Array.replicate l.length false) a w.drew lev al pd' A (fun _ => True) G (by simp) (fun t _ => hno _) (fun j o _ hj => by rw [hno] at hj; cases hj) (cnt_start N1 _ hle) hpB (fun j => by rw [hp3 j]; simp) hcov hK hI hA
  rw [show N1 + (l.length - N1) = l.toArray.size by simp; omega] at this
  simpa using this
/-- A call in its turn, in a region whose callees may do R; what it leaves for good (Fact), and what holds till the next one (Gact). -/
theorem Walk.call {R : World → World → Prop} {w : World} {Fin : Act → World → Prop} {j : Nat} {lv al : List Nat} {ph : List (Nd × List Nat × List Nat)} {pd : Pend} {A : Act} {F G : World → Prop} {l : List Oper} {o : Oper} (ho : l[j]? = some o) (f : FuncId) (args : Array Value) (Fact Gact : Value → World → Prop)
    (hstab : ∀ v w' w'', R w w' → Fact v w' → R w' w'' → Fact v w'') (hgst : ∀ v w' w'', Gact v w' → Below w'.heap.size w' w'' → Gact v w'') (hw : Region.wanted o (yielded l.toArray A.tmps) = true)
    (hnd : ∀ w1, R w w1 → F w1 → G w1 → (execOp A.eval o).run P w1 = .ok (.enter f args) w1 ∧ Calls P f args w1 fun e w2 => ∃ v, e = .returned v ∧ R w1 w2 ∧ Fact v w2 ∧ Gact v w2)
    (hnext : ∀ v w0, R w w0 → F w0 → Fact v w0 → After P l.toArray R w (fun w1 => F w1 ∧ Fact v w1) (fun pd' A' => Walk P l.toArray R w Fin ph pd' A' (fun w1 => F w1 ∧ Fact v w1) (Gact v)) lv al pd (A.put o.dst v)) :
    Walk P l.toArray R w Fin ((.c j, lv, al) :: ph) pd A F G :=
  ⟨o, by simpa using ho, Fact, Gact, hstab, hgst, fun w1 hb hF hG => ⟨hw, .inr (.inl ⟨f, args, (hnd w1 hb hF hG).1, (hnd w1 hb hF hG).2.mono fun _ _ ⟨v, h1, h2, h3⟩ => ⟨v, h1, h2, h3⟩⟩)⟩, hnext⟩
/-- A builtin in its turn. -/
theorem Walk.does {R : World → World → Prop} {w : World} {Fin : Act → World → Prop} {j : Nat} {lv al : List Nat} {ph : List (Nd × List Nat × List Nat)} {pd : Pend} {A : Act} {F G : World → Prop} {l : List Oper} {o : Oper} (ho : l[j]? = some o) (Fact Gact : Value → World → Prop)
    (hstab : ∀ v w' w'', R w w' → Fact v w' → R w' w'' → Fact v w'') (hgst : ∀ v w' w'', Gact v w' → Below w'.heap.size w' w'' → Gact v w'') (hw : Region.wanted o (yielded l.toArray A.tmps) = true)
    (hnd : ∀ w1, R w w1 → F w1 → G w1 → ∃ v w2, (execOp A.eval o).run P w1 = .ok (.value v) w2 ∧ R w1 w2 ∧ Fact v w2 ∧ Gact v w2)
    (hnext : ∀ v w0, R w w0 → F w0 → Fact v w0 → After P l.toArray R w (fun w1 => F w1 ∧ Fact v w1) (fun pd' A' => Walk P l.toArray R w Fin ph pd' A' (fun w1 => F w1 ∧ Fact v w1) (Gact v)) lv al pd (A.put o.dst v)) :
    Walk P l.toArray R w Fin ((.c j, lv, al) :: ph) pd A F G :=
  ⟨o, by simpa using ho, Fact, Gact, hstab, hgst, fun w1 hb hF hG => ⟨hw, .inl (by
    obtain ⟨v, w2, h1, h2, h3⟩ := hnd w1 hb hF hG
    exact ⟨v, w2, h1, h2, h3⟩)⟩, hnext⟩
/-- A store in its turn. -/
theorem Walk.skips {R : World → World → Prop} {w : World} {Fin : Act → World → Prop} {j : Nat} {lv al : List Nat} {ph : List (Nd × List Nat × List Nat)} {pd : Pend} {A : Act} {F G : World → Prop} {l : List Oper} {o : Oper} (ho : l[j]? = some o) (Gact : World → Prop)
    (hgst : ∀ w' w'', Gact w' → Below w'.heap.size w' w'' → Gact w'') (hw : Region.wanted o (yielded l.toArray A.tmps) = true)
    (hnd : ∀ w1, R w w1 → F w1 → G w1 → ∃ w2, (execOp A.eval o).run P w1 = .ok .skip w2 ∧ R w1 w2 ∧ Gact w2)
    (hnext : ∀ w0, R w w0 → F w0 → After P l.toArray R w (fun w1 => F w1 ∧ True) (fun pd' A' => Walk P l.toArray R w Fin ph pd' A' (fun w1 => F w1 ∧ True) Gact) lv al pd (A.put o.dst undef)) :
    Walk P l.toArray R w Fin ((.c j, lv, al) :: ph) pd A F G :=
  ⟨o, by simpa using ho, fun v _ => v = undef, fun _ => Gact, fun _ _ _ _ h _ => h, fun _ => hgst, fun w1 hb hF hG => ⟨hw, .inr (.inr (by
    obtain ⟨w2, h1, h2, h3⟩ := hnd w1 hb hF hG
    exact ⟨w2, h1, h2, rfl, h3⟩))⟩, fun v w0 hb hF hv => by
      subst hv
      have e : (fun w1 => F w1 ∧ (undef : Value) = undef) = fun w1 => F w1 ∧ True := by simp
      rw [e]
      exact hnext w0 hb hF⟩
/-- A block, met where it is first wanted. -/
theorem Walk.blk {R : World → World → Prop} {w : World} {Fin : Act → World → Prop} {j : Nat} {lv al : List Nat} {ph : List (Nd × List Nat × List Nat)} {pd : Pend} {A : Act} {F G : World → Prop} {l : List Oper} {o : Oper} (ho : l[j]? = some o) (mk : Nat → Value) (obj : Obj) (hmem : (j, mk, obj) ∈ pd)
    (hnext : ∀ b w0, R w w0 → F w0 → w.heap.size ≤ b → w0.heap[b]? = some obj → After P l.toArray R w (fun w1 => F w1 ∧ w1.heap[b]? = some obj) (fun pd' A' => Walk P l.toArray R w Fin ph pd' A' (fun w1 => F w1 ∧ w1.heap[b]? = some obj) G) lv al pd (A.put o.dst (mk b))) :
    Walk P l.toArray R w Fin ((.b j, lv, al) :: ph) pd A F G := ⟨o, by simpa using ho, mk, obj, hmem, hnext⟩
theorem Walk.fin {l : List Oper} {R : World → World → Prop} {w : World} {Fin : Act → World → Prop} {pd : Pend} {A : Act} {F G : World → Prop} (h : ∀ w1, R w w1 → F w1 → G w1 → Fin A w1) : Walk P l.toArray R w Fin [] pd A F G := h
theorem AlChk.one {R : World → World → Prop} {w : World} {A : Act} {F : World → Prop} {K : Pend → Prop} {j : Nat} {al : List Nat} {pd : Pend} {l : List Oper} {o : Oper} (ho : l[j]? = some o) (mk : Nat → Value) (obj : Obj) (hw : Region.wanted o (yielded l.toArray A.tmps) = true)
    (hst : St R w obj) (hrun : ∀ w1, R w w1 → F w1 → (execOp A.eval o).run P w1 = .ok (.value (mk w1.heap.size)) (w1.alloc obj)) (h : AlChk P l.toArray R w A F K al ((j, mk, obj) :: pd)) : AlChk P l.toArray R w A F K (j :: al) pd := ⟨o, by simpa using ho, mk, obj, ⟨⟨hw, hrun⟩, hst⟩, h⟩
theorem AlChk.nil {l : List Oper} {R : World → World → Prop} {w : World} {A : Act} {F : World → Prop} {K : Pend → Prop} {pd : Pend} (h : K pd) : AlChk P l.toArray R w A F K [] pd := h
end
/-- Blocks below B stay, and those of another type than T. -/
structure Typed (B : Nat) (T : TypeId) (a b : World) : Prop where
  os : b.os = a.os
  tape : b.tape = a.tape
  output : b.output = a.output
  size : a.heap.size ≤ b.heap.size
  block : ∀ k, k < a.heap.size → (k < B ∨ ∀ cs fr, a.heap[k]? ≠ some (.cells cs T fr)) → b.heap[k]? = a.heap[k]?
theorem rel_typed (B : Nat) (T : TypeId) : Rel (Typed B T) :=
  ⟨fun h => ⟨h.os, h.tape, h.output, h.size, fun k hk _ => h.block k hk⟩,
   fun h k => ⟨k.os.trans h.os, k.tape.trans h.tape, k.output.trans h.output, Nat.le_trans h.size k.size, fun j hj hc => by
     have e1 := h.block j hj hc
     rw [k.block j (Nat.lt_of_lt_of_le hj h.size) (hc.imp id fun hn cs fr => by rw [e1]; exact hn cs fr), e1]⟩⟩
theorem Typed.below {B : Nat} {T : TypeId} {a b : World} (h : Typed B T a b) (hB : B ≤ a.heap.size) : Below B a b := ⟨h.os, h.tape, h.output, h.size, fun k hk => h.block k (by omega) (.inl hk)⟩
theorem Typed.of_grown {B : Nat} {T : TypeId} {a b : World} {row : Option Nat} (h : a.grownBy b row) (hr : ∀ k, row = some k → B ≤ k ∧ ∃ cs fr, a.heap[k]? = some (.cells cs T fr)) : Typed B T a b :=
  ⟨h.os, h.tape, h.output, h.size, fun k hk hc => h.block k hk (fun e => by
    obtain ⟨h1, cs, fr, h2⟩ := hr k e.symm
    rcases hc with hc | hc
    · omega
    · exact hc cs fr h2)⟩
/-- A region whose builtins may write to blocks of type T from B on. -/
theorem wp_region_typed {P : Program} (B : Nat) (T : TypeId) {id : Nat} (N1 : Nat) (lev al : List Nat) (ph : List (Nd × List Nat × List Nat)) {Q : Exit → Act → World → Prop} {a : Act} {w : World} {l : List Oper} (hm : P.follows .mixedOrders = true) (hB : flowB .any l.toArray N1 lev al ph = true)
    (h : After P l.toArray (Typed B T) w (fun _ => True) (fun pd' A' => Walk P l.toArray (Typed B T) w (fun A w1 => wpList P l.toArray Q (l.drop N1) A w1) ph pd' A' (fun _ => True) (fun _ => True)) lev al [] a) : (Code.region id l.toArray true).wp P Q a w :=
  wp_region_flow_in (rel_typed B T) (fun _ => True) N1 lev al ph hm hB (fun _ h => h.size) trivial (fun _ _ _ _ => trivial) h
/-- All blocks stay but those of a list. -/
structure ButIn (S : List Nat) (a b : World) : Prop where
  os : b.os = a.os
  tape : b.tape = a.tape
  output : b.output = a.output
  size : a.heap.size ≤ b.heap.size
  block : ∀ k, k < a.heap.size → k ∉ S → b.heap[k]? = a.heap[k]?
theorem rel_butIn (S : List Nat) : Rel (ButIn S) :=
  ⟨fun h => ⟨h.os, h.tape, h.output, h.size, fun k hk _ => h.block k hk⟩,
   fun h k => ⟨k.os.trans h.os, k.tape.trans h.tape, k.output.trans h.output, Nat.le_trans h.size k.size, fun j hj hc => by
     rw [k.block j (Nat.lt_of_lt_of_le hj h.size) hc, h.block j hj hc]⟩⟩
theorem ButIn.blk {S : List Nat} {w w' : World} {b : Nat} {cs : Array Value} {T : TypeId} (h : ButIn S w w') (k : Blk w b cs T) (hb : b ∉ S) : Blk w' b cs T := by
  have := k.lt
  unfold Blk at *
  rw [h.block _ this hb]; exact k
theorem ButIn.of_but {S : List Nat} {w w' : World} {b : Nat} (h : But b w w') (hb : b ∈ S) : ButIn S w w' :=
  ⟨h.os, h.tape, h.output, h.size, fun k hk hc => h.block k hk (fun e => hc (e ▸ hb))⟩
theorem ButIn.below {S : List Nat} {B : Nat} {w0 w w' : World} (h : ButIn S w w') (h0 : Below B w0 w) (hB : B ≤ w.heap.size) (hS : ∀ b ∈ S, B ≤ b) : Below B w0 w' :=
  h0.trans ⟨h.os, h.tape, h.output, h.size, fun k hk => h.block k (by omega) (fun e => by have := hS k e; omega)⟩
/-- A region that stores to the cells of a list, and to no others. -/
theorem wp_region_butIn {P : Program} (S : List Nat) (G : World → Prop) {id : Nat} (N1 : Nat) (lev al : List Nat) (ph : List (Nd × List Nat × List Nat)) {Q : Exit → Act → World → Prop} {a : Act} {w : World} {l : List Oper} (hm : P.follows .mixedOrders = true) (hB : flowB .any l.toArray N1 lev al ph = true) (hG : G w) (hGs : ∀ w' w'', G w' → Below w'.heap.size w' w'' → G w'')
    (h : After P l.toArray (ButIn S) w (fun _ => True) (fun pd' A' => Walk P l.toArray (ButIn S) w (fun A w1 => wpList P l.toArray Q (l.drop N1) A w1) ph pd' A' (fun _ => True) G) lev al [] a) : (Code.region id l.toArray true).wp P Q a w :=
  wp_region_flow_in (rel_butIn S) G N1 lev al ph hm hB (fun _ h => h.size) hG hGs h
/-- A whole variable is written, in its turn. -/
theorem exec_store_blk {P : Program} {o : Oper} {A : Act} {w : World} (ty : TypeId) (x y : Operand) (ho : o.op = .store ty x y) (b : Nat) (cells : Array Value) (hx : A.eval x = .pointer (some ⟨b, 0, none⟩)) (hy : A.eval y = .agg cells)
    (cs : Array Value) (T : TypeId) (hk : Blk w b cs T) (n : Nat) (hi : (P.info? ty).map (·.size) = some n) (hs : cs.size = n) (hn : cells.size = n) (h1 : cells.all (·.oneCell') = true) :
    ∃ w', (execOp A.eval o).run P w = .ok .skip w' ∧ But b w w' ∧ Blk w' b cells T := by
  refine ⟨w.setCells b 0 cells.toList, ?_, But.setCells _ _ _ (But.of (Below.refl _ _)), ?_⟩
  · unfold execOp
    simp only [ho, hx, hy, Instr.storeAt, Instr.sureAddr, Sem.run_bind, Sem.run_pure, Result.andThen_ok, run_storeVar_mid w b 0 ty cells (hk.there (by omega)) (by rw [hi, hn]) h1]
  · rw [setCells_is]
    have := hk.setAll_self cells.toList (by simp; omega)
    simpa using this
theorem exec_append {P : Program} {o : Oper} {A : Act} {w w' : World} {s x : Operand} {t t2 : TypeId} {vs vx v' : Value} (ho : o.op = .call { callee := .builtin .append, args := #[s, x], argTypes := #[t, t2] }) (hs : A.eval s = vs) (hx : A.eval x = vx)
    (hr : (Builtin.append_ #[t, t2] o.type #[vs, vx]).run P w = .ok v' w') : (execOp A.eval o).run P w = .ok (.value v') w' := by
  unfold execOp
  simp only [ho, resolve, invoke, builtin, Sem.run_bind, Sem.run_pure, Result.andThen_ok, List.map_toArray, List.map_cons, List.map_nil, hs, hx, hr]
end FlowB
end Go.Proofs.YtpinamdgbijjlaaGreatDoor
namespace Go.Proofs.YtpinamdgbijjlaaGreatDoor
set_option maxRecDepth 100000
open Go.RowKit
/-- The operation at t waits for the one at j, too. -/
def late : Nat → Nat → List Oper → List Oper
  | _, _, [] => []
  | 0, j, o :: l => { o with after := o.after.push { on := j, ground := .data } } :: l
  | t + 1, j, o :: l => o :: late t j l
def lateAt (j : Nat) (o : Oper) : Oper := { o with after := o.after.push { on := j, ground := .data } }
theorem late_get : ∀ (t j : Nat) (l : List Oper) (i : Nat), (late t j l)[i]? = (l[i]?).map fun o => if i = t then lateAt j o else o
  | _, _, [], i => by simp [late]
  | 0, j, o :: l, 0 => by simp [late, lateAt]
  | 0, j, o :: l, i + 1 => by simp [late]
  | t + 1, j, o :: l, 0 => by simp [late]
  | t + 1, j, o :: l, i + 1 => by simp [late, late_get t j l i]
theorem late_length : ∀ (t j : Nat) (l : List Oper), (late t j l).length = l.length
  | _, _, [] => by simp [late]
  | 0, _, _ :: _ => by simp [late]
  | t + 1, j, _ :: l => by simp [late, late_length t j l]
theorem late_dst (t j : Nat) (l : List Oper) (i : Nat) : ((late t j l).toArray[i]?).bind (·.dst) = (l.toArray[i]?).bind (·.dst) := by
  simp only [List.getElem?_toArray, late_get]
  cases l[i]? with
  | none => rfl
  | some o => by_cases h : i = t <;> simp [h, lateAt]
theorem late_yielded (t j : Nat) (l : List Oper) (x : Array Value) : yielded (late t j l).toArray x = yielded l.toArray x := by
  funext g
  unfold yielded
  rw [late_dst]
section
variable {P : Program} {Q : Exit → Act → World → Prop}
theorem wpOp_late {t j : Nat} {l : List Oper} {i : Nat} {K : Act → World → Prop} {a : Act} {w : World} (h : wpOp P (late t j l).toArray Q i K a w) : wpOp P l.toArray Q i K a w := by
  unfold wpOp at *
  rw [List.getElem?_toArray, late_get] at h
  rw [List.getElem?_toArray]
  cases hl : l[i]? with
  | none => rw [hl] at h; exact h
  | some o =>
    rw [hl] at h
    simp only [Option.map_some, late_yielded] at h ⊢
    by_cases hit : i = t
    · simp only [hit, if_true] at h
      exact h
    · simp only [hit, if_false] at h
      exact h
theorem late_ready {t j : Nat} {l : List Oper} {listed : Array Bool} {i : Nat} : i ∈ Region.ready .any (late t j l).toArray listed ↔ i ∈ Region.ready .any l.toArray listed ∧ (i = t → listed.getD j false = true) := by
  rw [mem_ready, mem_ready]
  simp only [List.getElem?_toArray, late_get]
  constructor
  · rintro ⟨h0, o', ho', hall⟩
    cases hl : l[i]? with
    | none => rw [hl] at ho'; cases ho'
    | some o =>
      rw [hl, Option.map_some, Option.some.injEq] at ho'
      subst ho'
      by_cases hit : i = t
      · rw [if_pos hit] at hall
        refine ⟨⟨h0, o, rfl, fun e he hb => hall e (by simp [lateAt, he]) hb⟩, fun _ => ?_⟩
        exact hall { on := j, ground := .data } (by simp [lateAt]) rfl
      · rw [if_neg hit] at hall
        exact ⟨⟨h0, o, rfl, hall⟩, fun h => absurd h hit⟩
  · rintro ⟨⟨h0, o, ho, hall⟩, hj⟩
    refine ⟨h0, _, by rw [ho]; rfl, fun e he hb => ?_⟩
    by_cases hit : i = t
    · simp only [if_pos hit] at he
      simp only [lateAt, Array.mem_push] at he
      rcases he with he | rfl
      · exact hall e he hb
      · exact hj hit
    · simp only [if_neg hit] at he
      exact hall e he hb
/-- What a component's taking out comes to hangs on no world. -/
theorem extract_yields {ops : Array Oper} {o : Oper} {i : Nat} {x : Operand} {n : Nat} (hi : ops[i]? = some o) (ho : o.op = .extract x n) (hg : o.guard = none) {K : Act → World → Prop} {a : Act} {w : World} (h : wpOp P ops Q i K a w) :
    ∃ v, Yields P ops o v a ∧ K (a.put o.dst v) w := by
  unfold wpOp at h
  simp only [hi] at h
  have hw : Region.wanted o (yielded ops a.tmps) = true := by unfold Region.wanted; rw [hg]
  rw [if_pos hw] at h
  cases hx : a.eval x with
  | tuple vs =>
    cases hv : vs[n]? with
    | some v =>
      have hr : ∀ w, (execOp a.eval o).run P w = .ok (.value v) w := fun w => by
        unfold execOp
        simp only [ho, hx, Instr.extract, hv, Sem.run_bind, Sem.run_pure, Result.andThen_ok]
      refine ⟨v, .inl ⟨hw, hr⟩, ?_⟩
      rcases h with h | ⟨h, _⟩
      · unfold Oper.wp at h
        rw [hr, Oper.upon_value] at h
        exact h
      · exfalso
        unfold Oper.asks execOp at h
        simp only [ho, hx, Instr.extract, hv] at h
        exact absurd (show noRoomEvent ∈ (#[] : Array Event) from h.1) (by simp)
    | none =>
      exfalso
      rcases h with h | ⟨h, _⟩
      · unfold Oper.wp execOp at h
        simp [ho, hx, Instr.extract, hv, Oper.upon] at h
      · unfold Oper.asks execOp at h
        simp only [ho, hx, Instr.extract, hv] at h
        exact absurd (show noRoomEvent ∈ (#[] : Array Event) from h.1) (by simp)
  | _ =>
    exfalso
    rcases h with h | ⟨h, _⟩
    · unfold Oper.wp execOp at h
      simp [ho, hx, Instr.extract, Oper.upon] at h
    · unfold Oper.asks execOp at h
      simp only [ho, hx, Instr.extract] at h
      exact absurd (show noRoomEvent ∈ (#[] : Array Event) from h.1) (by simp)
/-- What an operation waits for has come up, and nothing else. -/
def depsOf (o : Oper) (n : Nat) : Array Bool := Array.ofFn (n := n) fun k => o.after.any fun e => Region.binds .any e && e.on == k.val
theorem depsOf_get {o : Oper} {n k : Nat} (h : k < n) : (depsOf o n).getD k true = o.after.any fun e => Region.binds .any e && e.on == k := by
  simp [depsOf, h]
/-- j takes a component; whatever it waits for, t waits for. -/
def lateB (t j : Nat) (l : List Oper) : Bool :=
  Region.noSelect l.toArray && t != j &&
  match l[j]?, l[t]? with
  | some oj, some ot => Region.free .any l.toArray (depsOf oj l.length) j && (match oj.op with | .extract _ _ => true | _ => false) && (match oj.guard with | none => true | _ => false) &&
      oj.after.all fun e => !Region.binds .any e || ot.after.any fun f => Region.binds .any f && f.on == e.on
  | _, _ => false
theorem wpAny_late {t j : Nat} {l : List Oper} (hB : lateB t j l = true) (hQ : ∀ c (a : Act) d v w, Q (.panic c) (a.put d v) w → Q (.panic c) a w) :
    ∀ (fuel : Nat) (listed : Array Bool) (a : Act) (w : World), listed.size = l.length → wpAny P .any (late t j l).toArray Q fuel listed a w → wpAny P .any l.toArray Q fuel listed a w := by
  unfold lateB at hB
  cases hj : l[j]? with
  | none => simp [hj] at hB
  | some oj =>
  cases ht : l[t]? with
  | none => simp [hj, ht] at hB
  | some ot =>
  simp only [hj, ht, Bool.and_eq_true, bne_iff_ne] at hB
  obtain ⟨⟨hs, hne⟩, ⟨⟨hfr, hop⟩, hgd⟩, hdep⟩ := hB
  obtain ⟨x, n, hop⟩ : ∃ x n, oj.op = .extract x n := by
    split at hop
    · exact ⟨_, _, by assumption⟩
    · cases hop
  have hgd : oj.guard = none := by
    split at hgd
    · assumption
    · cases hgd
  have hj' : l.toArray[j]? = some oj := by simpa using hj
  have hjl : j < l.length := (List.getElem?_eq_some_iff.1 hj).1
  -- where t may come up, j may, or has
  have hready : ∀ listed : Array Bool, listed.size = l.length → t ∈ Region.ready .any l.toArray listed → listed.getD j false = false → j ∈ Region.ready .any l.toArray listed := by
    intro listed hsz htr hjn
    obtain ⟨_, o, ho, hall⟩ := mem_ready.1 htr
    have : o = ot := by
      rw [List.getElem?_toArray, ht] at ho
      exact (Option.some.inj ho).symm
    subst this
    refine mem_ready.2 ⟨getD_in (by omega) hjn, oj, hj', fun e he hb => ?_⟩
    rw [Array.all_eq_true_iff_forall_mem] at hdep
    have h1 := hdep e he
    rw [hb] at h1
    simp only [Bool.not_true, Bool.false_or] at h1
    obtain ⟨f, hf, hf2⟩ := Array.any_eq_true'.1 h1
    simp only [Bool.and_eq_true, beq_iff_eq] at hf2
    rw [← hf2.2]
    exact hall f hf hf2.1
  have hfree : ∀ listed : Array Bool, j ∈ Region.ready .any l.toArray listed → ∀ k ok, l.toArray[k]? = some ok → k ≠ j → listed.getD k true = false → (∀ e ∈ ok.after, Region.binds .any e = true → e.on ≠ j) → oj.apart l.toArray ok = true := by
    intro listed hjr k ok hk hkj hun hno
    refine Region.free_spec hj' hfr k ok hk hkj ?_ hno
    have hlt : k < l.length := by simpa using (Array.getElem?_eq_some_iff.1 hk).1
    rw [depsOf_get hlt]
    cases hany : oj.after.any fun e => Region.binds .any e && e.on == k with
    | false => rfl
    | true =>
      exfalso
      obtain ⟨e, he, hb⟩ := Array.any_eq_true'.1 hany
      simp only [Bool.and_eq_true, beq_iff_eq] at hb
      obtain ⟨_, o, ho, hall⟩ := mem_ready.1 hjr
      have : o = oj := Option.some.inj (ho.symm.trans hj')
      subst this
      have h1 := hall e he hb.1
      rw [hb.2] at h1
      rcases Nat.lt_or_ge k listed.size with h' | h'
      · simp [h'] at h1 hun; rw [h1] at hun; cases hun
      · simp [Array.getElem?_eq_none h'] at h1
  intro fuel
  induction fuel with
  | zero =>
    intro listed a w hsz h
    refine ⟨?_, h.2⟩
    rw [List.eq_nil_iff_forall_not_mem]
    intro i hi
    have h1 : ∀ i, ¬ i ∈ Region.ready .any (late t j l).toArray listed := fun i => by rw [h.1]; simp
    by_cases hjn : listed.getD j false = false
    · by_cases hit : i = t
      · subst hit
        exact h1 j (late_ready.2 ⟨hready listed hsz hi hjn, fun e => absurd e.symm hne⟩)
      · exact h1 i (late_ready.2 ⟨hi, fun e => absurd e hit⟩)
    · exact h1 i (late_ready.2 ⟨hi, fun _ => by simpa using hjn⟩)
  | succ fuel ih =>
    intro listed a w hsz h
    by_cases hjr : j ∈ Region.ready .any l.toArray listed
    · have h2 := wpOp_late (h.2 j (late_ready.2 ⟨hjr, fun e => absurd e.symm hne⟩))
      obtain ⟨v, hy, hK⟩ := extract_yields hj' hop hgd h2
      exact wpAny_first hj' (Region.noSelect_spec hs) (fun c a w => hQ c a oj.dst v w) fuel listed a w (hfree listed hjr) hjr hy (ih _ _ _ (by simpa using hsz) hK)
    · have hin : ∀ i, i ∈ Region.ready .any l.toArray listed → i ∈ Region.ready .any (late t j l).toArray listed := fun i hi => late_ready.2 ⟨hi, fun e => by
        subst e
        cases hjn : listed.getD j false with
        | true => rfl
        | false => exact absurd (hready listed hsz hi hjn) hjr⟩
      refine ⟨fun h0 => h.1 ?_, fun i hi => wpOp_mono (fun a' w' h' => ih _ a' w' (by simpa using hsz) h') (wpOp_late (h.2 i (hin i hi)))⟩
      rw [List.eq_nil_iff_forall_not_mem]
      intro i hi
      have := (late_ready.1 hi).1
      rw [h0] at this
      cases this
/-- The whole region, its tuple's component taken ahead of the store. -/
theorem wp_region_late {id : Nat} (t j N1 : Nat) (lev al : List Nat) (ph : List (Nd × List Nat × List Nat)) {a : Act} {w : World} {l l' : List Oper} (hm : P.follows .mixedOrders = true) (hL : lateB t j l = true) (hl : l' = late t j l) (hB : flowB .any l'.toArray N1 lev al ph = true)
    (hQ : ∀ c (a : Act) d v w, Q (.panic c) (a.put d v) w → Q (.panic c) a w)
    (h : After P l'.toArray (fun a b => Below a.heap.size a b) w (fun _ => True) (fun pd' A' => Walk P l'.toArray (fun a b => Below a.heap.size a b) w (fun A w1 => wpList P l'.toArray Q (l'.drop N1) A w1) ph pd' A' (fun _ => True) (fun _ => True)) lev al [] a) : (Code.region id l.toArray true).wp P Q a w := by
  refine wp_region_any hm ?_
  have h0 : wpAny P .any l'.toArray Q l'.toArray.size (Array.replicate l'.toArray.size false) a w.drew := by
    have hR := rel_below
    obtain ⟨A, hlev, hal⟩ := h
    obtain ⟨g, hlB, haB, hpB, hcov⟩ := fgl_of hB
    have hle : N1 ≤ l'.length := by simpa using g.le
    have hlvl := g.level hlB
    have hrel : Below w.heap.size w w.drew := hR.of (Below.refl _ _).drew
    rw [← pick_eq] at hlev
    obtain ⟨r1, r2, r3⟩ := walk_rest (hlev w.drew hrel trivial)
    obtain ⟨pd', hK, hp1, hp2, hp3⟩ := hal.out
    have hno : ∀ j, (Array.replicate l'.length false).getD j false = false := fun j => getD_replicate_false _ _
    have hpa : ∀ p ∈ pd', p.1 ∈ al ∧ ∀ o, l'.toArray[p.1]? = some o → AlOK P l'.toArray (fun a b => Below a.heap.size a b) w A (fun _ => True) p.2.1 p.2.2 o := fun p hp => by
      rcases hp1 p hp with h | h
      · simp at h
      · exact h
    have hI : FInv (fun a b => Below a.heap.size a b) P .any l'.toArray N1 a w lev pd' A (fun _ => True) (fun _ => True) (Array.replicate l'.length false) := by
      refine ⟨fun j hj => (levB_mem hlB j hj).1, fun j hj => by simpa using (levB_mem hlB j hj).2.2, fun j hj o ho _ => ?_, fun p hp => (alB_at haB _ (hpa p hp).1).1, fun p hp => (alB_at haB _ (hpa p hp).1).2.2.2, fun p hp => (hpa p hp).2, fun d hd => ?_, r1, r2, fun _ _ _ _ _ => trivial, fun _ _ _ _ => trivial⟩
      · refine det_of_walk (fun oo hoo cs b => ?_) hlvl.2.1 hlvl.2.2 hlev o (List.mem_filterMap.2 ⟨j, hj, ho⟩)
        obtain ⟨j', _, hoj'⟩ := hlvl.1 oo hoo
        exact g.sel j' oo cs b hoj'
      · refine r3 d fun oo hoo he => ?_
        obtain ⟨j, hj, hoj⟩ := hlvl.1 oo hoo
        exact hd j hj (by rw [hoj]; exact he)
    have hA : FAt (fun a b => Below a.heap.size a b) l'.toArray a w lev pd' A (fun _ => True) (fun _ => True) (Array.replicate l'.length false) a w.drew := by
      refine ⟨hrel, trivial, trivial, r1.symm, r2.symm, fun j hj => ?_, fun j d _ hj => ?_, fun p _ _ hj => ?_, fun d _ => rfl⟩
      all_goals (rw [hno] at hj; cases hj)
    have := wpAny_flow hR (Q := Q) (a0 := a) g (fun w1 w2 b o _ h2 _ ho => by
      have hlt : b < w1.heap.size := (Array.getElem?_eq_some_iff.1 ho).1
      rw [h2.block b hlt]; exact ho) (fun _ h => h.size) N1 ph (Array.replicate l'.length false) a w.drew lev al pd' A (fun _ => True) (fun _ => True) (by simp) (fun t _ => hno _) (fun j o _ hj => by rw [hno] at hj; cases hj) (cnt_start N1 _ hle) hpB (fun j => by rw [hp3 j]; simp) hcov hK hI hA
    rw [show N1 + (l'.length - N1) = l'.toArray.size by simp; omega] at this
    simpa using this
  subst hl
  have h1 := wpAny_late (Q := Q) hL hQ _ _ _ _ (by simp [late_length]) h0
  simpa [late_length] using h1
end
end Go.Proofs.YtpinamdgbijjlaaGreatDoor
namespace Go.Proofs.YtpinamdgbijjlaaGreatDoor
set_option maxRecDepth 100000
open Go.RowKit
/-- The operation at t waits for the one at j, too. -/
def late_s : Nat → Nat → List Oper → List Oper
  | _, _, [] => []
  | 0, j, o :: l => { o with after := o.after.push { on := j, ground := .data } } :: l
  | t + 1, j, o :: l => o :: late_s t j l
def lateAt_s (j : Nat) (o : Oper) : Oper := { o with after := o.after.push { on := j, ground := .data } }
theorem late_get_s : ∀ (t j : Nat) (l : List Oper) (i : Nat), (late_s t j l)[i]? = (l[i]?).map fun o => if i = t then lateAt_s j o else o
  | _, _, [], i => by simp [late_s]
  | 0, j, o :: l, 0 => by simp [late_s, lateAt_s]
  | 0, j, o :: l, i + 1 => by simp [late_s]
  | t + 1, j, o :: l, 0 => by simp [late_s]
  | t + 1, j, o :: l, i + 1 => by simp [late_s, late_get_s t j l i]
theorem late_length_s : ∀ (t j : Nat) (l : List Oper), (late_s t j l).length = l.length
  | _, _, [] => by simp [late_s]
  | 0, _, _ :: _ => by simp [late_s]
  | t + 1, j, _ :: l => by simp [late_s, late_length_s t j l]
theorem late_dst_s (t j : Nat) (l : List Oper) (i : Nat) : ((late_s t j l).toArray[i]?).bind (·.dst) = (l.toArray[i]?).bind (·.dst) := by
  simp only [List.getElem?_toArray, late_get_s]
  cases l[i]? with
  | none => rfl
  | some o => by_cases h : i = t <;> simp [h, lateAt_s]
theorem late_yielded_s (t j : Nat) (l : List Oper) (x : Array Value) : yielded (late_s t j l).toArray x = yielded l.toArray x := by
  funext g
  unfold yielded
  rw [late_dst_s]
section
variable {P : Program} {Q : Exit → Act → World → Prop}
theorem wpOp_late_s {t j : Nat} {l : List Oper} {i : Nat} {K : Act → World → Prop} {a : Act} {w : World} (h : wpOp P (late_s t j l).toArray Q i K a w) : wpOp P l.toArray Q i K a w := by
  unfold wpOp at *
  rw [List.getElem?_toArray, late_get_s] at h
  rw [List.getElem?_toArray]
  cases hl : l[i]? with
  | none => rw [hl] at h; exact h
  | some o =>
    rw [hl] at h
    simp only [Option.map_some, late_yielded_s] at h ⊢
    by_cases hit : i = t
    · simp only [hit, if_true] at h
      exact h
    · simp only [hit, if_false] at h
      exact h
theorem late_ready_s {t j : Nat} {l : List Oper} {listed : Array Bool} {i : Nat} : i ∈ Region.ready .any (late_s t j l).toArray listed ↔ i ∈ Region.ready .any l.toArray listed ∧ (i = t → listed.getD j false = true) := by
  rw [mem_ready, mem_ready]
  simp only [List.getElem?_toArray, late_get_s]
  constructor
  · rintro ⟨h0, o', ho', hall⟩
    cases hl : l[i]? with
    | none => rw [hl] at ho'; cases ho'
    | some o =>
      rw [hl, Option.map_some, Option.some.injEq] at ho'
      subst ho'
      by_cases hit : i = t
      · rw [if_pos hit] at hall
        refine ⟨⟨h0, o, rfl, fun e he hb => hall e (by simp [lateAt_s, he]) hb⟩, fun _ => ?_⟩
        exact hall { on := j, ground := .data } (by simp [lateAt_s]) rfl
      · rw [if_neg hit] at hall
        exact ⟨⟨h0, o, rfl, hall⟩, fun h => absurd h hit⟩
  · rintro ⟨⟨h0, o, ho, hall⟩, hj⟩
    refine ⟨h0, _, by rw [ho]; rfl, fun e he hb => ?_⟩
    by_cases hit : i = t
    · simp only [if_pos hit] at he
      simp only [lateAt_s, Array.mem_push] at he
      rcases he with he | rfl
      · exact hall e he hb
      · exact hj hit
    · simp only [if_neg hit] at he
      exact hall e he hb
/-- What a component's taking out comes to hangs on no world. -/
theorem extract_yields_s {ops : Array Oper} {o : Oper} {i : Nat} {x : Operand} {n : Nat} (hi : ops[i]? = some o) (ho : o.op = .extract x n) (hg : o.guard = none) {K : Act → World → Prop} {a : Act} {w : World} (h : wpOp P ops Q i K a w) :
    ∃ v, Yields P ops o v a ∧ K (a.put o.dst v) w := by
  unfold wpOp at h
  simp only [hi] at h
  have hw : Region.wanted o (yielded ops a.tmps) = true := by unfold Region.wanted; rw [hg]
  rw [if_pos hw] at h
  cases hx : a.eval x with
  | tuple vs =>
    cases hv : vs[n]? with
    | some v =>
      have hr : ∀ w, (execOp a.eval o).run P w = .ok (.value v) w := fun w => by
        unfold execOp
        simp only [ho, hx, Instr.extract, hv, Sem.run_bind, Sem.run_pure, Result.andThen_ok]
      refine ⟨v, .inl ⟨hw, hr⟩, ?_⟩
      rcases h with h | ⟨h, _⟩
      · unfold Oper.wp at h
        rw [hr, Oper.upon_value] at h
        exact h
      · exfalso
        unfold Oper.asks execOp at h
        simp only [ho, hx, Instr.extract, hv] at h
        exact absurd (show noRoomEvent ∈ (#[] : Array Event) from h.1) (by simp)
    | none =>
      exfalso
      rcases h with h | ⟨h, _⟩
      · unfold Oper.wp execOp at h
        simp [ho, hx, Instr.extract, hv, Oper.upon] at h
      · unfold Oper.asks execOp at h
        simp only [ho, hx, Instr.extract, hv] at h
        exact absurd (show noRoomEvent ∈ (#[] : Array Event) from h.1) (by simp)
  | _ =>
    exfalso
    rcases h with h | ⟨h, _⟩
    · unfold Oper.wp execOp at h
      simp [ho, hx, Instr.extract, Oper.upon] at h
    · unfold Oper.asks execOp at h
      simp only [ho, hx, Instr.extract] at h
      exact absurd (show noRoomEvent ∈ (#[] : Array Event) from h.1) (by simp)
theorem move_yields_s {ops : Array Oper} {o : Oper} {i : Nat} {x : Operand} (hi : ops[i]? = some o) (ho : o.op = .move x) (hg : o.guard = none) {K : Act → World → Prop} {a : Act} {w : World} (h : wpOp P ops Q i K a w) :
    ∃ v, Yields P ops o v a ∧ K (a.put o.dst v) w := by
  unfold wpOp at h
  simp only [hi] at h
  have hw : Region.wanted o (yielded ops a.tmps) = true := by unfold Region.wanted; rw [hg]
  rw [if_pos hw] at h
  have hr : ∀ w, (execOp a.eval o).run P w = .ok (.value (a.eval x)) w := fun w => by
    unfold execOp
    simp only [ho, Sem.run_pure]
  refine ⟨a.eval x, .inl ⟨hw, hr⟩, ?_⟩
  rcases h with h | ⟨h, _⟩
  · unfold Oper.wp at h
    rw [hr, Oper.upon_value] at h
    exact h
  · exfalso
    unfold Oper.asks execOp at h
    simp only [ho] at h
    exact absurd (show noRoomEvent ∈ (#[] : Array Event) from h.1) (by simp)
theorem pure_yields_s {ops : Array Oper} {o : Oper} {i : Nat} (hi : ops[i]? = some o) (ho : (∃ x n, o.op = .extract x n) ∨ ∃ x, o.op = .move x) (hg : o.guard = none) {K : Act → World → Prop} {a : Act} {w : World} (h : wpOp P ops Q i K a w) :
    ∃ v, Yields P ops o v a ∧ K (a.put o.dst v) w := by
  rcases ho with ⟨x, n, ho⟩ | ⟨x, ho⟩
  · exact extract_yields_s hi ho hg h
  · exact move_yields_s hi ho hg h
/-- What an operation waits for has come up, and nothing else. -/
def depsOf_s (o : Oper) (n : Nat) : Array Bool := Array.ofFn (n := n) fun k => o.after.any fun e => Region.binds .any e && e.on == k.val
theorem depsOf_get_s {o : Oper} {n k : Nat} (h : k < n) : (depsOf_s o n).getD k true = o.after.any fun e => Region.binds .any e && e.on == k := by
  simp [depsOf_s, h]
/-- j takes a component; whatever it waits for, t waits for. -/
def lateB_s (t j : Nat) (l : List Oper) : Bool :=
  Region.noSelect l.toArray && t != j &&
  match l[j]?, l[t]? with
  | some oj, some ot => Region.free .any l.toArray (depsOf_s oj l.length) j && (match oj.op with | .extract _ _ => true | .move _ => true | _ => false) && (match oj.guard with | none => true | _ => false) &&
      oj.after.all fun e => !Region.binds .any e || ot.after.any fun f => Region.binds .any f && f.on == e.on
  | _, _ => false
theorem wpAny_late_s {t j : Nat} {l : List Oper} (hB : lateB_s t j l = true) (hQ : ∀ c (a : Act) d v w, Q (.panic c) (a.put d v) w → Q (.panic c) a w) :
    ∀ (fuel : Nat) (listed : Array Bool) (a : Act) (w : World), listed.size = l.length → wpAny P .any (late_s t j l).toArray Q fuel listed a w → wpAny P .any l.toArray Q fuel listed a w := by
  unfold lateB_s at hB
  cases hj : l[j]? with
  | none => simp [hj] at hB
  | some oj =>
  cases ht : l[t]? with
  | none => simp [hj, ht] at hB
  | some ot =>
  simp only [hj, ht, Bool.and_eq_true, bne_iff_ne] at hB
  obtain ⟨⟨hs, hne⟩, ⟨⟨hfr, hop⟩, hgd⟩, hdep⟩ := hB
  have hop : (∃ x n, oj.op = .extract x n) ∨ ∃ x, oj.op = .move x := by
    split at hop
    · exact .inl ⟨_, _, by assumption⟩
    · exact .inr ⟨_, by assumption⟩
    · cases hop
  have hgd : oj.guard = none := by
    split at hgd
    · assumption
    · cases hgd
  have hj' : l.toArray[j]? = some oj := by simpa using hj
  have hjl : j < l.length := (List.getElem?_eq_some_iff.1 hj).1
  -- where t may come up, j may, or has
  have hready : ∀ listed : Array Bool, listed.size = l.length → t ∈ Region.ready .any l.toArray listed → listed.getD j false = false → j ∈ Region.ready .any l.toArray listed := by
    intro listed hsz htr hjn
    obtain ⟨_, o, ho, hall⟩ := mem_ready.1 htr
    have : o = ot := by
      rw [List.getElem?_toArray, ht] at ho
      exact (Option.some.inj ho).symm
    subst this
    refine mem_ready.2 ⟨getD_in (by omega) hjn, oj, hj', fun e he hb => ?_⟩
    rw [Array.all_eq_true_iff_forall_mem] at hdep
    have h1 := hdep e he
    rw [hb] at h1
    simp only [Bool.not_true, Bool.false_or] at h1
    obtain ⟨f, hf, hf2⟩ := Array.any_eq_true'.1 h1
    simp only [Bool.and_eq_true, beq_iff_eq] at hf2
    rw [← hf2.2]
    exact hall f hf hf2.1
  have hfree : ∀ listed : Array Bool, j ∈ Region.ready .any l.toArray listed → ∀ k ok, l.toArray[k]? = some ok → k ≠ j → listed.getD k true = false → (∀ e ∈ ok.after, Region.binds .any e = true → e.on ≠ j) → oj.apart l.toArray ok = true := by
    intro listed hjr k ok hk hkj hun hno
    refine Region.free_spec hj' hfr k ok hk hkj ?_ hno
    have hlt : k < l.length := by simpa using (Array.getElem?_eq_some_iff.1 hk).1
    rw [depsOf_get_s hlt]
    cases hany : oj.after.any fun e => Region.binds .any e && e.on == k with
    | false => rfl
    | true =>
      exfalso
      obtain ⟨e, he, hb⟩ := Array.any_eq_true'.1 hany
      simp only [Bool.and_eq_true, beq_iff_eq] at hb
      obtain ⟨_, o, ho, hall⟩ := mem_ready.1 hjr
      have : o = oj := Option.some.inj (ho.symm.trans hj')
      subst this
      have h1 := hall e he hb.1
      rw [hb.2] at h1
      rcases Nat.lt_or_ge k listed.size with h' | h'
      · simp [h'] at h1 hun; rw [h1] at hun; cases hun
      · simp [Array.getElem?_eq_none h'] at h1
  intro fuel
  induction fuel with
  | zero =>
    intro listed a w hsz h
    refine ⟨?_, h.2⟩
    rw [List.eq_nil_iff_forall_not_mem]
    intro i hi
    have h1 : ∀ i, ¬ i ∈ Region.ready .any (late_s t j l).toArray listed := fun i => by rw [h.1]; simp
    by_cases hjn : listed.getD j false = false
    · by_cases hit : i = t
      · subst hit
        exact h1 j (late_ready_s.2 ⟨hready listed hsz hi hjn, fun e => absurd e.symm hne⟩)
      · exact h1 i (late_ready_s.2 ⟨hi, fun e => absurd e hit⟩)
    · exact h1 i (late_ready_s.2 ⟨hi, fun _ => by simpa using hjn⟩)
  | succ fuel ih =>
    intro listed a w hsz h
    by_cases hjr : j ∈ Region.ready .any l.toArray listed
    · have h2 := wpOp_late_s (h.2 j (late_ready_s.2 ⟨hjr, fun e => absurd e.symm hne⟩))
      obtain ⟨v, hy, hK⟩ := pure_yields_s hj' hop hgd h2
      exact wpAny_first hj' (Region.noSelect_spec hs) (fun c a w => hQ c a oj.dst v w) fuel listed a w (hfree listed hjr) hjr hy (ih _ _ _ (by simpa using hsz) hK)
    · have hin : ∀ i, i ∈ Region.ready .any l.toArray listed → i ∈ Region.ready .any (late_s t j l).toArray listed := fun i hi => late_ready_s.2 ⟨hi, fun e => by
        subst e
        cases hjn : listed.getD j false with
        | true => rfl
        | false => exact absurd (hready listed hsz hi hjn) hjr⟩
      refine ⟨fun h0 => h.1 ?_, fun i hi => wpOp_mono (fun a' w' h' => ih _ a' w' (by simpa using hsz) h') (wpOp_late_s (h.2 i (hin i hi)))⟩
      rw [List.eq_nil_iff_forall_not_mem]
      intro i hi
      have := (late_ready_s.1 hi).1
      rw [h0] at this
      cases this
/-- The whole region, its tuple's component taken ahead of the store. -/
theorem wp_region_late_s {id : Nat} (t j N1 : Nat) (lev al : List Nat) (ph : List (Nd × List Nat × List Nat)) {a : Act} {w : World} {l l' : List Oper} (hm : P.follows .mixedOrders = true) (hL : lateB_s t j l = true) (hl : l' = late_s t j l) (hB : flowB .any l'.toArray N1 lev al ph = true)
    (hQ : ∀ c (a : Act) d v w, Q (.panic c) (a.put d v) w → Q (.panic c) a w)
    (h : After P l'.toArray (fun a b => Below a.heap.size a b) w (fun _ => True) (fun pd' A' => Walk P l'.toArray (fun a b => Below a.heap.size a b) w (fun A w1 => wpList P l'.toArray Q (l'.drop N1) A w1) ph pd' A' (fun _ => True) (fun _ => True)) lev al [] a) : (Code.region id l.toArray true).wp P Q a w := by
  refine wp_region_any hm ?_
  have h0 : wpAny P .any l'.toArray Q l'.toArray.size (Array.replicate l'.toArray.size false) a w.drew := by
    have hR := rel_below
    obtain ⟨A, hlev, hal⟩ := h
    obtain ⟨g, hlB, haB, hpB, hcov⟩ := fgl_of hB
    have hle : N1 ≤ l'.length := by simpa using g.le
    have hlvl := g.level hlB
    have hrel : Below w.heap.size w w.drew := hR.of (Below.refl _ _).drew
    rw [← pick_eq] at hlev
    obtain ⟨r1, r2, r3⟩ := walk_rest (hlev w.drew hrel trivial)
    obtain ⟨pd', hK, hp1, hp2, hp3⟩ := hal.out
    have hno : ∀ j, (Array.replicate l'.length false).getD j false = false := fun j => getD_replicate_false _ _
    have hpa : ∀ p ∈ pd', p.1 ∈ al ∧ ∀ o, l'.toArray[p.1]? = some o → AlOK P l'.toArray (fun a b => Below a.heap.size a b) w A (fun _ => True) p.2.1 p.2.2 o := fun p hp => by
      rcases hp1 p hp with h | h
      · simp at h
      · exact h
    have hI : FInv (fun a b => Below a.heap.size a b) P .any l'.toArray N1 a w lev pd' A (fun _ => True) (fun _ => True) (Array.replicate l'.length false) := by
      refine ⟨fun j hj => (levB_mem hlB j hj).1, fun j hj => by simpa using (levB_mem hlB j hj).2.2, fun j hj o ho _ => ?_, fun p hp => (alB_at haB _ (hpa p hp).1).1, fun p hp => (alB_at haB _ (hpa p hp).1).2.2.2, fun p hp => (hpa p hp).2, fun d hd => ?_, r1, r2, fun _ _ _ _ _ => trivial, fun _ _ _ _ => trivial⟩
      · refine det_of_walk (fun oo hoo cs b => ?_) hlvl.2.1 hlvl.2.2 hlev o (List.mem_filterMap.2 ⟨j, hj, ho⟩)
        obtain ⟨j', _, hoj'⟩ := hlvl.1 oo hoo
        exact g.sel j' oo cs b hoj'
      · refine r3 d fun oo hoo he => ?_
        obtain ⟨j, hj, hoj⟩ := hlvl.1 oo hoo
        exact hd j hj (by rw [hoj]; exact he)
    have hA : FAt (fun a b => Below a.heap.size a b) l'.toArray a w lev pd' A (fun _ => True) (fun _ => True) (Array.replicate l'.length false) a w.drew := by
      refine ⟨hrel, trivial, trivial, r1.symm, r2.symm, fun j hj => ?_, fun j d _ hj => ?_, fun p _ _ hj => ?_, fun d _ => rfl⟩
      all_goals (rw [hno] at hj; cases hj)
    have := wpAny_flow hR (Q := Q) (a0 := a) g (fun w1 w2 b o _ h2 _ ho => by
      have hlt : b < w1.heap.size := (Array.getElem?_eq_some_iff.1 ho).1
      rw [h2.block b hlt]; exact ho) (fun _ h => h.size) N1 ph (Array.replicate l'.length false) a w.drew lev al pd' A (fun _ => True) (fun _ => True) (by simp) (fun t _ => hno _) (fun j o _ hj => by rw [hno] at hj; cases hj) (cnt_start N1 _ hle) hpB (fun j => by rw [hp3 j]; simp) hcov hK hI hA
    rw [show N1 + (l'.length - N1) = l'.toArray.size by simp; omega] at this
    simpa using this
  subst hl
  have h1 := wpAny_late_s (Q := Q) hL hQ _ _ _ _ (by simp [late_length_s]) h0
  simpa [late_length_s] using h1
end
end Go.Proofs.YtpinamdgbijjlaaGreatDoor
