/-
  A region that draws its order, and takes a value out of a tuple either ahead of a store or behind it: as good as ahead.
-/
import Derived.Test.YtmpgnpkodapidaaDNFlow
namespace Go.Proofs.Ytmpgnpkodapidaa
open Go.RowKit

/-- The operation at t waits for the one at j, too. -/
def late : Nat → Nat → List Oper → List Oper
  | _, _, [] => []
  | 0, j, o :: l => { o with after := o.after.push { on := j, ground := .data } } :: l
  | t + 1, j, o :: l => o :: late t j l

def lateAt (j : Nat) (o : Oper) : Oper := { o with after := o.after.push { on := j, ground := .data } }

set_option maxRecDepth 100000 in
theorem late_get : ∀ (t j : Nat) (l : List Oper) (i : Nat), (late t j l)[i]? = (l[i]?).map fun o => if i = t then lateAt j o else o
  | _, _, [], i => by simp [late]
  | 0, j, o :: l, 0 => by simp [late, lateAt]
  | 0, j, o :: l, i + 1 => by simp [late]
  | t + 1, j, o :: l, 0 => by simp [late]
  | t + 1, j, o :: l, i + 1 => by simp [late, late_get t j l i]

theorem late_length : ∀ (t j : Nat) (l : List Oper), (late t j l).length = l.length
  | _, _, [] => by simp [late]
  | 0, _, _ :: _ => by simp [late]
  | t + 1, j, _ :: l => by simp [late, late_length t j l]

theorem late_dst (t j : Nat) (l : List Oper) (i : Nat) : ((late t j l).toArray[i]?).bind (·.dst) = (l.toArray[i]?).bind (·.dst) := by
  simp only [List.getElem?_toArray, late_get]
  cases l[i]? with
  | none => rfl
  | some o => by_cases h : i = t <;> simp [h, lateAt]

theorem late_yielded (t j : Nat) (l : List Oper) (x : Array Value) : yielded (late t j l).toArray x = yielded l.toArray x := by
  funext g
  unfold yielded
  rw [late_dst]

section
variable {P : Program} {Q : Exit → Act → World → Prop}

theorem wpOp_late {t j : Nat} {l : List Oper} {i : Nat} {K : Act → World → Prop} {a : Act} {w : World} (h : wpOp P (late t j l).toArray Q i K a w) : wpOp P l.toArray Q i K a w := by
  unfold wpOp at *
  rw [List.getElem?_toArray, late_get] at h
  rw [List.getElem?_toArray]
  cases hl : l[i]? with
  | none => rw [hl] at h; exact h
  | some o =>
    rw [hl] at h
    simp only [Option.map_some, late_yielded] at h ⊢
    by_cases hit : i = t
    · simp only [hit, if_true] at h
      exact h
    · simp only [hit, if_false] at h
      exact h

theorem late_ready {t j : Nat} {l : List Oper} {listed : Array Bool} {i : Nat} : i ∈ Region.ready .any (late t j l).toArray listed ↔ i ∈ Region.ready .any l.toArray listed ∧ (i = t → listed.getD j false = true) := by
  rw [mem_ready, mem_ready]
  simp only [List.getElem?_toArray, late_get]
  constructor
  · rintro ⟨h0, o', ho', hall⟩
    cases hl : l[i]? with
    | none => rw [hl] at ho'; cases ho'
    | some o =>
      rw [hl, Option.map_some, Option.some.injEq] at ho'
      subst ho'
      by_cases hit : i = t
      · rw [if_pos hit] at hall
        refine ⟨⟨h0, o, rfl, fun e he hb => hall e (by simp [lateAt, he]) hb⟩, fun _ => ?_⟩
        exact hall { on := j, ground := .data } (by simp [lateAt]) rfl
      · rw [if_neg hit] at hall
        exact ⟨⟨h0, o, rfl, hall⟩, fun h => absurd h hit⟩
  · rintro ⟨⟨h0, o, ho, hall⟩, hj⟩
    refine ⟨h0, _, by rw [ho]; rfl, fun e he hb => ?_⟩
    by_cases hit : i = t
    · simp only [if_pos hit] at he
      simp only [lateAt, Array.mem_push] at he
      rcases he with he | rfl
      · exact hall e he hb
      · exact hj hit
    · simp only [if_neg hit] at he
      exact hall e he hb

/-- What a component's taking out comes to hangs on no world. -/
theorem extract_yields {ops : Array Oper} {o : Oper} {i : Nat} {x : Operand} {n : Nat} (hi : ops[i]? = some o) (ho : o.op = .extract x n) (hg : o.guard = none) {K : Act → World → Prop} {a : Act} {w : World} (h : wpOp P ops Q i K a w) :
    ∃ v, Yields P ops o v a ∧ K (a.put o.dst v) w := by
  unfold wpOp at h
  simp only [hi] at h
  have hw : Region.wanted o (yielded ops a.tmps) = true := by unfold Region.wanted; rw [hg]
  rw [if_pos hw] at h
  cases hx : a.eval x with
  | tuple vs =>
    cases hv : vs[n]? with
    | some v =>
      have hr : ∀ w, (execOp a.eval o).run P w = .ok (.value v) w := fun w => by
        unfold execOp
        simp only [ho, hx, Instr.extract, hv, Sem.run_bind, Sem.run_pure, Result.andThen_ok]
      refine ⟨v, .inl ⟨hw, hr⟩, ?_⟩
      rcases h with h | ⟨h, _⟩
      · unfold Oper.wp at h
        rw [hr, Oper.upon_value] at h
        exact h
      · exfalso
        unfold Oper.asks execOp at h
        simp only [ho, hx, Instr.extract, hv] at h
        exact absurd (show noRoomEvent ∈ (#[] : Array Event) from h.1) (by simp)
    | none =>
      exfalso
      rcases h with h | ⟨h, _⟩
      · unfold Oper.wp execOp at h
        simp [ho, hx, Instr.extract, hv, Oper.upon] at h
      · unfold Oper.asks execOp at h
        simp only [ho, hx, Instr.extract, hv] at h
        exact absurd (show noRoomEvent ∈ (#[] : Array Event) from h.1) (by simp)
  | _ =>
    exfalso
    rcases h with h | ⟨h, _⟩
    · unfold Oper.wp execOp at h
      simp [ho, hx, Instr.extract, Oper.upon] at h
    · unfold Oper.asks execOp at h
      simp only [ho, hx, Instr.extract] at h
      exact absurd (show noRoomEvent ∈ (#[] : Array Event) from h.1) (by simp)

theorem move_yields {ops : Array Oper} {o : Oper} {i : Nat} {x : Operand} (hi : ops[i]? = some o) (ho : o.op = .move x) (hg : o.guard = none) {K : Act → World → Prop} {a : Act} {w : World} (h : wpOp P ops Q i K a w) :
    ∃ v, Yields P ops o v a ∧ K (a.put o.dst v) w := by
  unfold wpOp at h
  simp only [hi] at h
  have hw : Region.wanted o (yielded ops a.tmps) = true := by unfold Region.wanted; rw [hg]
  rw [if_pos hw] at h
  have hr : ∀ w, (execOp a.eval o).run P w = .ok (.value (a.eval x)) w := fun w => by
    unfold execOp
    simp only [ho, Sem.run_pure]
  refine ⟨a.eval x, .inl ⟨hw, hr⟩, ?_⟩
  rcases h with h | ⟨h, _⟩
  · unfold Oper.wp at h
    rw [hr, Oper.upon_value] at h
    exact h
  · exfalso
    unfold Oper.asks execOp at h
    simp only [ho] at h
    exact absurd (show noRoomEvent ∈ (#[] : Array Event) from h.1) (by simp)
theorem pure_yields {ops : Array Oper} {o : Oper} {i : Nat} (hi : ops[i]? = some o) (ho : (∃ x n, o.op = .extract x n) ∨ ∃ x, o.op = .move x) (hg : o.guard = none) {K : Act → World → Prop} {a : Act} {w : World} (h : wpOp P ops Q i K a w) :
    ∃ v, Yields P ops o v a ∧ K (a.put o.dst v) w := by
  rcases ho with ⟨x, n, ho⟩ | ⟨x, ho⟩
  · exact extract_yields hi ho hg h
  · exact move_yields hi ho hg h
/-- What an operation waits for has come up, and nothing else. -/
def depsOf (o : Oper) (n : Nat) : Array Bool := Array.ofFn (n := n) fun k => o.after.any fun e => Region.binds .any e && e.on == k.val
theorem depsOf_get {o : Oper} {n k : Nat} (h : k < n) : (depsOf o n).getD k true = o.after.any fun e => Region.binds .any e && e.on == k := by
  simp [depsOf, h]

/-- j takes a component; whatever it waits for, t waits for. -/
def lateB (t j : Nat) (l : List Oper) : Bool :=
  Region.noSelect l.toArray && t != j &&
  match l[j]?, l[t]? with
  | some oj, some ot => Region.free .any l.toArray (depsOf oj l.length) j && (match oj.op with | .extract _ _ => true | .move _ => true | _ => false) && (match oj.guard with | none => true | _ => false) &&
      oj.after.all fun e => !Region.binds .any e || ot.after.any fun f => Region.binds .any f && f.on == e.on
  | _, _ => false

theorem wpAny_late {t j : Nat} {l : List Oper} (hB : lateB t j l = true) (hQ : ∀ c (a : Act) d v w, Q (.panic c) (a.put d v) w → Q (.panic c) a w) :
    ∀ (fuel : Nat) (listed : Array Bool) (a : Act) (w : World), listed.size = l.length → wpAny P .any (late t j l).toArray Q fuel listed a w → wpAny P .any l.toArray Q fuel listed a w := by
  unfold lateB at hB
  cases hj : l[j]? with
  | none => simp [hj] at hB
  | some oj =>
  cases ht : l[t]? with
  | none => simp [hj, ht] at hB
  | some ot =>
  simp only [hj, ht, Bool.and_eq_true, bne_iff_ne] at hB
  obtain ⟨⟨hs, hne⟩, ⟨⟨hfr, hop⟩, hgd⟩, hdep⟩ := hB
  have hop : (∃ x n, oj.op = .extract x n) ∨ ∃ x, oj.op = .move x := by
    split at hop
    · exact .inl ⟨_, _, by assumption⟩
    · exact .inr ⟨_, by assumption⟩
    · cases hop
  have hgd : oj.guard = none := by
    split at hgd
    · assumption
    · cases hgd
  have hj' : l.toArray[j]? = some oj := by simpa using hj
  have hjl : j < l.length := (List.getElem?_eq_some_iff.1 hj).1
  -- where t may come up, j may, or has
  have hready : ∀ listed : Array Bool, listed.size = l.length → t ∈ Region.ready .any l.toArray listed → listed.getD j false = false → j ∈ Region.ready .any l.toArray listed := by
    intro listed hsz htr hjn
    obtain ⟨_, o, ho, hall⟩ := mem_ready.1 htr
    have : o = ot := by
      rw [List.getElem?_toArray, ht] at ho
      exact (Option.some.inj ho).symm
    subst this
    refine mem_ready.2 ⟨getD_in (by omega) hjn, oj, hj', fun e he hb => ?_⟩
    rw [Array.all_eq_true_iff_forall_mem] at hdep
    have h1 := hdep e he
    rw [hb] at h1
    simp only [Bool.not_true, Bool.false_or] at h1
    obtain ⟨f, hf, hf2⟩ := Array.any_eq_true'.1 h1
    simp only [Bool.and_eq_true, beq_iff_eq] at hf2
    rw [← hf2.2]
    exact hall f hf hf2.1
  have hfree : ∀ listed : Array Bool, j ∈ Region.ready .any l.toArray listed → ∀ k ok, l.toArray[k]? = some ok → k ≠ j → listed.getD k true = false → (∀ e ∈ ok.after, Region.binds .any e = true → e.on ≠ j) → oj.apart l.toArray ok = true := by
    intro listed hjr k ok hk hkj hun hno
    refine Region.free_spec hj' hfr k ok hk hkj ?_ hno
    have hlt : k < l.length := by simpa using (Array.getElem?_eq_some_iff.1 hk).1
    rw [depsOf_get hlt]
    cases hany : oj.after.any fun e => Region.binds .any e && e.on == k with
    | false => rfl
    | true =>
      exfalso
      obtain ⟨e, he, hb⟩ := Array.any_eq_true'.1 hany
      simp only [Bool.and_eq_true, beq_iff_eq] at hb
      obtain ⟨_, o, ho, hall⟩ := mem_ready.1 hjr
      have : o = oj := Option.some.inj (ho.symm.trans hj')
      subst this
      have h1 := hall e he hb.1
      rw [hb.2] at h1
      rcases Nat.lt_or_ge k listed.size with h' | h'
      · simp [h'] at h1 hun; rw [h1] at hun; cases hun
      · simp [Array.getElem?_eq_none h'] at h1
  intro fuel
  induction fuel with
  | zero =>
    intro listed a w hsz h
    refine ⟨?_, h.2⟩
    rw [List.eq_nil_iff_forall_not_mem]
    intro i hi
    have h1 : ∀ i, ¬ i ∈ Region.ready .any (late t j l).toArray listed := fun i => by rw [h.1]; simp
    by_cases hjn : listed.getD j false = false
    · by_cases hit : i = t
      · subst hit
        exact h1 j (late_ready.2 ⟨hready listed hsz hi hjn, fun e => absurd e.symm hne⟩)
      · exact h1 i (late_ready.2 ⟨hi, fun e => absurd e hit⟩)
    · exact h1 i (late_ready.2 ⟨hi, fun _ => by simpa using hjn⟩)
  | succ fuel ih =>
    intro listed a w hsz h
    by_cases hjr : j ∈ Region.ready .any l.toArray listed
    · have h2 := wpOp_late (h.2 j (late_ready.2 ⟨hjr, fun e => absurd e.symm hne⟩))
      obtain ⟨v, hy, hK⟩ := pure_yields hj' hop hgd h2
      exact wpAny_first hj' (Region.noSelect_spec hs) (fun c a w => hQ c a oj.dst v w) fuel listed a w (hfree listed hjr) hjr hy (ih _ _ _ (by simpa using hsz) hK)
    · have hin : ∀ i, i ∈ Region.ready .any l.toArray listed → i ∈ Region.ready .any (late t j l).toArray listed := fun i hi => late_ready.2 ⟨hi, fun e => by
        subst e
        cases hjn : listed.getD j false with
        | true => rfl
        | false => exact absurd (hready listed hsz hi hjn) hjr⟩
      refine ⟨fun h0 => h.1 ?_, fun i hi => wpOp_mono (fun a' w' h' => ih _ a' w' (by simpa using hsz) h') (wpOp_late (h.2 i (hin i hi)))⟩
      rw [List.eq_nil_iff_forall_not_mem]
      intro i hi
      have := (late_ready.1 hi).1
      rw [h0] at this
      cases this

/-- The whole region, its tuple's component taken ahead of the store. -/
theorem wp_region_late {id : Nat} (t j N1 : Nat) (lev al : List Nat) (ph : List (Nd × List Nat × List Nat)) {a : Act} {w : World} {l l' : List Oper} (hm : P.follows .mixedOrders = true) (hL : lateB t j l = true) (hl : l' = late t j l) (hB : flowB .any l'.toArray N1 lev al ph = true)
    (hQ : ∀ c (a : Act) d v w, Q (.panic c) (a.put d v) w → Q (.panic c) a w)
    (h : After P l'.toArray (fun a b => Below a.heap.size a b) w (fun _ => True) (fun pd' A' => Walk P l'.toArray (fun a b => Below a.heap.size a b) w (fun A w1 => wpList P l'.toArray Q (l'.drop N1) A w1) ph pd' A' (fun _ => True) (fun _ => True)) lev al [] a) : (Code.region id l.toArray true).wp P Q a w := by
  refine wp_region_any hm ?_
  have h0 : wpAny P .any l'.toArray Q l'.toArray.size (Array.replicate l'.toArray.size false) a w.drew := by
    have hR := rel_below
    obtain ⟨A, hlev, hal⟩ := h
    obtain ⟨g, hlB, haB, hpB, hcov⟩ := fgl_of hB
    have hle : N1 ≤ l'.length := by simpa using g.le
    have hlvl := g.level hlB
    have hrel : Below w.heap.size w w.drew := hR.of (Below.refl _ _).drew
    rw [← pick_eq] at hlev
    obtain ⟨r1, r2, r3⟩ := walk_rest (hlev w.drew hrel trivial)
    obtain ⟨pd', hK, hp1, hp2, hp3⟩ := hal.out
    have hno : ∀ j, (Array.replicate l'.length false).getD j false = false := fun j => getD_replicate_false _ _
    have hpa : ∀ p ∈ pd', p.1 ∈ al ∧ ∀ o, l'.toArray[p.1]? = some o → AlOK P l'.toArray (fun a b => Below a.heap.size a b) w A (fun _ => True) p.2.1 p.2.2 o := fun p hp => by
      rcases hp1 p hp with h | h
      · simp at h
      · exact h
    have hI : FInv (fun a b => Below a.heap.size a b) P .any l'.toArray N1 a w lev pd' A (fun _ => True) (fun _ => True) (Array.replicate l'.length false) := by
      refine ⟨fun j hj => (levB_mem hlB j hj).1, fun j hj => by simpa using (levB_mem hlB j hj).2.2, fun j hj o ho _ => ?_, fun p hp => (alB_at haB _ (hpa p hp).1).1, fun p hp => (alB_at haB _ (hpa p hp).1).2.2.2, fun p hp => (hpa p hp).2, fun d hd => ?_, r1, r2, fun _ _ _ _ _ => trivial, fun _ _ _ _ => trivial⟩
      · refine det_of_walk (fun oo hoo cs b => ?_) hlvl.2.1 hlvl.2.2 hlev o (List.mem_filterMap.2 ⟨j, hj, ho⟩)
        obtain ⟨j', _, hoj'⟩ := hlvl.1 oo hoo
        exact g.sel j' oo cs b hoj'
      · refine r3 d fun oo hoo he => ?_
        obtain ⟨j, hj, hoj⟩ := hlvl.1 oo hoo
        exact hd j hj (by rw [hoj]; exact he)
    have hA : FAt (fun a b => Below a.heap.size a b) l'.toArray a w lev pd' A (fun _ => True) (fun _ => True) (Array.replicate l'.length false) a w.drew := by
      refine ⟨hrel, trivial, trivial, r1.symm, r2.symm, fun j hj => ?_, fun j d _ hj => ?_, fun p _ _ hj => ?_, fun d _ => rfl⟩
      all_goals (rw [hno] at hj; cases hj)
    have := wpAny_flow hR (Q := Q) (a0 := a) g (fun w1 w2 b o _ h2 _ ho => by
      have hlt : b < w1.heap.size := (Array.getElem?_eq_some_iff.1 ho).1
      rw [h2.block b hlt]; exact ho) (fun _ h => h.size) N1 ph (Array.replicate l'.length false) a w.drew lev al pd' A (fun _ => True) (fun _ => True) (by simp) (fun t _ => hno _) (fun j o _ hj => by rw [hno] at hj; cases hj) (cnt_start N1 _ hle) hpB (fun j => by rw [hp3 j]; simp) hcov hK hI hA
    rw [show N1 + (l'.length - N1) = l'.toArray.size by simp; omega] at this
    simpa using this
  subst hl
  have h1 := wpAny_late (Q := Q) hL hQ _ _ _ _ (by simp [late_length]) h0
  simpa [late_length] using h1

end
end Go.Proofs.Ytmpgnpkodapidaa
