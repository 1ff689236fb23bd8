/-
  A region that draws its order, parted by which of two operations comes first.
-/
import Derived.Test.YtjkfbeillmeomaaGreatDoorSZNLate2
import Derived.Test.YtjkfbeillmeomaaGreatDoorSZNFlowR
namespace Go.Proofs.YtjkfbeillmeomaaGreatDoor
set_option maxRecDepth 100000
open Go.RowKit
section
variable {P : Program} {Q : Exit → Act → World → Prop}
/-- Operations that never call. -/
def noCall (o : Oper) : Bool := match o.op with
  | .move _ | .nilCheck _ | .fieldAddr _ _ _ | .load _ _ | .extract _ _ | .alloc _ | .store _ _ _ | .assign _ => true
  | _ => false
def Stays (r : Result Next) : Prop := match r with
  | .ok (.enter _ _) _ => False
  | .ok (.row _ _) _ => False
  | _ => True
theorem stays_bind {α : Type} (m : Sem α) (f : α → Sem Next) (w : World) (hf : ∀ x w, Stays ((f x).run P w)) : Stays ((m >>= f).run P w) := by
  rw [Sem.run_bind]
  cases m.run P w with
  | ok a w' => exact hf a w'
  | halt _ _ => trivial
theorem stays_value (v : Value) (w : World) : Stays ((pure (Next.value v) : Sem Next).run P w) := by rw [Sem.run_pure]; trivial
theorem stays_skip (w : World) : Stays ((pure Next.skip : Sem Next).run P w) := by rw [Sem.run_pure]; trivial
theorem stays_rp (w : World) : Stays ((runtimePanic .nilDeref : Sem Next).run P w) := by
  unfold runtimePanic
  refine stays_bind _ _ w fun p w => ?_
  exact trivial
theorem noCall_stays {o : Oper} (h : noCall o = true) (ev : Operand → Value) (w : World) : Stays ((execOp ev o).run P w) := by
  unfold noCall at h
  unfold execOp
  split at h <;> (rename_i ho; simp only [ho])
  · exact stays_value _ w
  · repeat' split
    all_goals first
      | exact stays_rp _
      | exact stays_value _ _
      | (refine stays_bind _ _ _ fun _ _ => stays_bind _ _ _ fun _ _ => ?_
         split
         · exact stays_bind _ _ _ fun _ _ => stays_value _ _
         · exact stays_value _ _)
  · exact stays_bind _ _ w fun x w => stays_value _ _
  · exact stays_bind _ _ w fun x w => stays_value _ _
  · exact stays_bind _ _ w fun x w => stays_value _ _
  · exact stays_bind _ _ w fun x w => stays_value _ _
  · exact stays_bind _ _ w fun x w => stays_skip _
  · exact stays_value _ w
  · cases h
theorem wpOp_and {ops : Array Oper} {i : Nat} {K K' : Act → World → Prop} {a : Act} {w : World} (hno : ∀ o, ops[i]? = some o → noCall o = true) (h : wpOp P ops Q i K a w) (h' : wpOp P ops Q i K' a w) : wpOp P ops Q i (fun a w => K a w ∧ K' a w) a w := by
  unfold wpOp at h h' ⊢
  cases ho : ops[i]? with
  | none => rw [ho] at h h'; exact ⟨h, h'⟩
  | some o =>
    rw [ho] at h h'
    simp only at h h' ⊢
    split
    · rename_i hw
      rw [if_pos hw] at h h'
      rcases h with h | h
      · rcases h' with h' | h'
        · left
          have hs := noCall_stays (P := P) (hno o ho) a.eval w
          unfold Oper.wp at h h' ⊢
          generalize (execOp a.eval o).run P w = r at *
          match r, hs, h, h' with
          | .ok (.value v) w', _, h, h' => exact ⟨h, h'⟩
          | .ok .skip w', _, h, h' => exact ⟨h, h'⟩
          | .ok (.defer d) w', _, h, h' => exact ⟨h, h'⟩
          | .halt (.panic v) w', _, h, _ => exact h
          | .ok (.enter _ _) _, hs, _, _ => exact hs.elim
          | .ok (.row _ _) _, hs, _, _ => exact hs.elim
        · exact .inr h'
      · exact .inr h
    · rename_i hw
      rw [if_neg hw] at h h'
      exact ⟨h, h'⟩
theorem wpAny_met {t j : Nat} {l : List Oper} : ∀ (fuel : Nat) (listed : Array Bool) (a : Act) (w : World), listed.size = l.length → listed.getD j false = true → wpAny P .any (late t j l).toArray Q fuel listed a w → wpAny P .any l.toArray Q fuel listed a w := by
  intro fuel
  induction fuel with
  | zero =>
    intro listed a w hsz hj h
    refine ⟨?_, h.2⟩
    rw [List.eq_nil_iff_forall_not_mem]
    intro i hi
    have := late_ready (t := t) (j := j).2 ⟨hi, fun _ => hj⟩
    rw [h.1] at this
    cases this
  | succ fuel ih =>
    intro listed a w hsz hj h
    refine ⟨fun h0 => h.1 ?_, fun i hi => ?_⟩
    · rw [List.eq_nil_iff_forall_not_mem]
      intro i hi
      have := (late_ready.1 hi).1
      rw [h0] at this
      cases this
    · refine wpOp_mono (fun a' w' h' => ih _ a' w' (by simpa using hsz) ?_ h') (wpOp_late (h.2 i (late_ready.2 ⟨hi, fun _ => hj⟩)))
      exact getD_set_true hj
theorem wpAny_split {x y : Nat} {l : List Oper} (hxy : x ≠ y) (hno : ∀ i o, l.toArray[i]? = some o → i ≠ x → i ≠ y → noCall o = true) :
    ∀ (fuel : Nat) (listed : Array Bool) (a : Act) (w : World), listed.size = l.length → wpAny P .any (late y x l).toArray Q fuel listed a w → wpAny P .any (late x y l).toArray Q fuel listed a w → wpAny P .any l.toArray Q fuel listed a w := by
  intro fuel
  induction fuel with
  | zero =>
    intro listed a w hsz h1 h2
    refine ⟨?_, h1.2⟩
    rw [List.eq_nil_iff_forall_not_mem]
    intro i hi
    by_cases hiy : i = y
    · have := late_ready (t := x) (j := y).2 ⟨hi, fun e => absurd (e.symm.trans hiy) hxy⟩
      rw [h2.1] at this
      cases this
    · have := late_ready (t := y) (j := x).2 ⟨hi, fun e => absurd e hiy⟩
      rw [h1.1] at this
      cases this
  | succ fuel ih =>
    intro listed a w hsz h1 h2
    refine ⟨fun h0 => h1.1 ?_, fun i hi => ?_⟩
    · rw [List.eq_nil_iff_forall_not_mem]
      intro i hi
      have := (late_ready.1 hi).1
      rw [h0] at this
      cases this
    · have hil : i < listed.size := by
        have h3 := (mem_ready.1 hi).1
        rcases Nat.lt_or_ge i listed.size with h4 | h4
        · exact h4
        · simp [h4] at h3
      by_cases hix : i = x
      · subst hix
        refine wpOp_mono (fun a' w' h' => wpAny_met (t := y) (j := i) _ _ a' w' (by simpa using hsz) ?_ h') (wpOp_late (h1.2 i (late_ready.2 ⟨hi, fun e => absurd e hxy⟩)))
        simp [hil]
      · by_cases hiy : i = y
        · subst hiy
          refine wpOp_mono (fun a' w' h' => wpAny_met (t := x) (j := i) _ _ a' w' (by simpa using hsz) ?_ h') (wpOp_late (h2.2 i (late_ready.2 ⟨hi, fun e => absurd e hix⟩)))
          simp [hil]
        · have k1 := wpOp_late (h1.2 i (late_ready.2 ⟨hi, fun e => absurd e hiy⟩))
          have k2 := wpOp_late (h2.2 i (late_ready.2 ⟨hi, fun e => absurd e hix⟩))
          exact wpOp_mono (fun a' w' h' => ih _ a' w' (by simpa using hsz) h'.1 h'.2) (wpOp_and (fun o ho => hno i o ho hix hiy) k1 k2)
theorem flow_any (N1 : Nat) (lev al : List Nat) (ph : List (Nd × List Nat × List Nat)) {a : Act} {w : World} {l' : List Oper} (hB : flowB .any l'.toArray N1 lev al ph = true)
    (h : After P l'.toArray (fun a b => Below a.heap.size a b) w (fun _ => True) (fun pd' A' => Walk P l'.toArray (fun a b => Below a.heap.size a b) w (fun A w1 => wpList P l'.toArray Q (l'.drop N1) A w1) ph pd' A' (fun _ => True) (fun _ => True)) lev al [] a) : wpAny P .any l'.toArray Q l'.toArray.size (Array.replicate l'.toArray.size false) a w.drew := by
  have hR := rel_below
  obtain ⟨A, hlev, hal⟩ := h
  obtain ⟨g, hlB, haB, hpB, hcov⟩ := fgl_of hB
  have hle : N1 ≤ l'.length := by simpa using g.le
  have hlvl := g.level hlB
  have hrel : Below w.heap.size w w.drew := hR.of (Below.refl _ _).drew
  rw [← pick_eq] at hlev
  obtain ⟨r1, r2, r3⟩ := walk_rest (hlev w.drew hrel trivial)
  obtain ⟨pd', hK, hp1, hp2, hp3⟩ := hal.out
  have hno : ∀ j, (Array.replicate l'.length false).getD j false = false := fun j => getD_replicate_false _ _
  have hpa : ∀ p ∈ pd', p.1 ∈ al ∧ ∀ o, l'.toArray[p.1]? = some o → AlOK P l'.toArray (fun a b => Below a.heap.size a b) w A (fun _ => True) p.2.1 p.2.2 o := fun p hp => by
    rcases hp1 p hp with h | h
    · simp at h
    · exact h
  have hI : FInv (fun a b => Below a.heap.size a b) P .any l'.toArray N1 a w lev pd' A (fun _ => True) (fun _ => True) (Array.replicate l'.length false) := by
    refine ⟨fun j hj => (levB_mem hlB j hj).1, fun j hj => by simpa using (levB_mem hlB j hj).2.2, fun j hj o ho _ => ?_, fun p hp => (alB_at haB _ (hpa p hp).1).1, fun p hp => (alB_at haB _ (hpa p hp).1).2.2.2, fun p hp => (hpa p hp).2, fun d hd => ?_, r1, r2, fun _ _ _ _ _ => trivial, fun _ _ _ _ => trivial⟩
    · refine det_of_walk (fun oo hoo cs b => ?_) hlvl.2.1 hlvl.2.2 hlev o (List.mem_filterMap.2 ⟨j, hj, ho⟩)
      obtain ⟨j', _, hoj'⟩ := hlvl.1 oo hoo
      exact g.sel j' oo cs b hoj'
    · refine r3 d fun oo hoo he => ?_
      obtain ⟨j, hj, hoj⟩ := hlvl.1 oo hoo
      exact hd j hj (by rw [hoj]; exact he)
  have hA : FAt (fun a b => Below a.heap.size a b) l'.toArray a w lev pd' A (fun _ => True) (fun _ => True) (Array.replicate l'.length false) a w.drew := by
    refine ⟨hrel, trivial, trivial, r1.symm, r2.symm, fun j hj => ?_, fun j d _ hj => ?_, fun p _ _ hj => ?_, fun d _ => rfl⟩
    all_goals (rw [hno] at hj; cases hj)
  have := wpAny_flow hR (Q := Q) (a0 := a) g (fun w1 w2 b o _ h2 _ ho => by
    have hlt : b < w1.heap.size := (Array.getElem?_eq_some_iff.1 ho).1
    rw [h2.block b hlt]; exact ho) (fun _ h => h.size) N1 ph (Array.replicate l'.length false) a w.drew lev al pd' A (fun _ => True) (fun _ => True) (by simp) (fun t _ => hno _) (fun j o _ hj => by rw [hno] at hj; cases hj) (cnt_start N1 _ hle) hpB (fun j => by rw [hp3 j]; simp) hcov hK hI hA
  rw [show N1 + (l'.length - N1) = l'.toArray.size by simp; omega] at this
  simpa using this
namespace FlowR
theorem flow_any {rk : Nat → Nat} (N1 : Nat) (lev al : List Nat) (ph : List (Nd × List Nat × List Nat)) {a : Act} {w : World} {l' : List Oper} (hB : flowB rk .any l'.toArray N1 lev al ph = true)
    (h : After P l'.toArray (fun a b => Below a.heap.size a b) w (fun _ => True) (fun pd' A' => Walk P l'.toArray (fun a b => Below a.heap.size a b) w (fun A w1 => wpList P l'.toArray Q (l'.drop N1) A w1) ph pd' A' (fun _ => True) (fun _ => True)) lev al [] a) : wpAny P .any l'.toArray Q l'.toArray.size (Array.replicate l'.toArray.size false) a w.drew := by
  have hR := rel_below
  obtain ⟨A, hlev, hal⟩ := h
  obtain ⟨g, hlB, haB, hpB, hcov⟩ := fgl_of hB
  have hle : N1 ≤ l'.length := by simpa using g.le
  have hlvl := g.level hlB
  have hrel : Below w.heap.size w w.drew := hR.of (Below.refl _ _).drew
  rw [← pick_eq] at hlev
  obtain ⟨r1, r2, r3⟩ := walk_rest (hlev w.drew hrel trivial)
  obtain ⟨pd', hK, hp1, hp2, hp3⟩ := hal.out
  have hno : ∀ j, (Array.replicate l'.length false).getD j false = false := fun j => getD_replicate_false _ _
  have hpa : ∀ p ∈ pd', p.1 ∈ al ∧ ∀ o, l'.toArray[p.1]? = some o → AlOK P l'.toArray (fun a b => Below a.heap.size a b) w A (fun _ => True) p.2.1 p.2.2 o := fun p hp => by
    rcases hp1 p hp with h | h
    · simp at h
    · exact h
  have hI : FInv (fun a b => Below a.heap.size a b) P .any l'.toArray N1 a w lev pd' A (fun _ => True) (fun _ => True) (Array.replicate l'.length false) := by
    refine ⟨fun j hj => (levB_mem hlB j hj).1, fun j hj => by simpa using (levB_mem hlB j hj).2.2, fun j hj o ho _ => ?_, fun p hp => (alB_at haB _ (hpa p hp).1).1, fun p hp => (alB_at haB _ (hpa p hp).1).2.2.2, fun p hp => (hpa p hp).2, fun d hd => ?_, r1, r2, fun _ _ _ _ _ => trivial, fun _ _ _ _ => trivial⟩
    · refine det_of_walk (fun oo hoo cs b => ?_) hlvl.2.1 hlvl.2.2 hlev o (List.mem_filterMap.2 ⟨j, hj, ho⟩)
      obtain ⟨j', _, hoj'⟩ := hlvl.1 oo hoo
      exact g.sel j' oo cs b hoj'
    · refine r3 d fun oo hoo he => ?_
      obtain ⟨j, hj, hoj⟩ := hlvl.1 oo hoo
      exact hd j hj (by rw [hoj]; exact he)
  have hA : FAt (fun a b => Below a.heap.size a b) l'.toArray a w lev pd' A (fun _ => True) (fun _ => True) (Array.replicate l'.length false) a w.drew := by
    refine ⟨hrel, trivial, trivial, r1.symm, r2.symm, fun j hj => ?_, fun j d _ hj => ?_, fun p _ _ hj => ?_, fun d _ => rfl⟩
    all_goals (rw [hno] at hj; cases hj)
  have := wpAny_flow hR (Q := Q) (a0 := a) g (fun w1 w2 b o _ h2 _ ho => by
    have hlt : b < w1.heap.size := (Array.getElem?_eq_some_iff.1 ho).1
    rw [h2.block b hlt]; exact ho) (fun _ h => h.size) N1 ph (Array.replicate l'.length false) a w.drew lev al pd' A (fun _ => True) (fun _ => True) (by simp) (fun t _ => hno _) (fun j o _ hj => by rw [hno] at hj; cases hj) (cnt_start N1 _ hle) hpB (fun j => by rw [hp3 j]; simp) hcov hK hI hA
  rw [show N1 + (l'.length - N1) = l'.toArray.size by simp; omega] at this
  simpa using this
end FlowR
theorem wp_region_split {id : Nat} (t j t2 j2 x y N1 : Nat) (lev1 al1 : List Nat) (ph1 : List (Nd × List Nat × List Nat)) (lev2 al2 : List Nat) (ph2 : List (FlowR.Nd × List Nat × List Nat)) {a : Act} {w : World} {l l' l1 l2 : List Oper} (hm : P.follows .mixedOrders = true) (hL : lateB t j l = true) (hL2 : lateB t2 j2 (late t j l) = true) (hl : l' = late t2 j2 (late t j l)) (hl1 : l1 = late y x l') (hl2 : l2 = late x y l') (hxy : x ≠ y)
    (hno : ((List.range l'.length).all fun i => i == x || i == y || match l'[i]? with | some o => noCall o | none => true) = true) (hB1 : flowB .any l1.toArray N1 lev1 al1 ph1 = true) (hB2 : FlowR.flowB (FlowR.swap x y) .any l2.toArray N1 lev2 al2 ph2 = true)
    (hQ : ∀ c (a : Act) d v w, Q (.panic c) (a.put d v) w → Q (.panic c) a w)
    (h1 : After P l1.toArray (fun a b => Below a.heap.size a b) w (fun _ => True) (fun pd' A' => Walk P l1.toArray (fun a b => Below a.heap.size a b) w (fun A w1 => wpList P l1.toArray Q (l1.drop N1) A w1) ph1 pd' A' (fun _ => True) (fun _ => True)) lev1 al1 [] a)
    (h2 : FlowR.After P l2.toArray (fun a b => Below a.heap.size a b) w (fun _ => True) (fun pd' A' => FlowR.Walk P l2.toArray (fun a b => Below a.heap.size a b) w (fun A w1 => wpList P l2.toArray Q (l2.drop N1) A w1) ph2 pd' A' (fun _ => True) (fun _ => True)) lev2 al2 [] a) : (Code.region id l.toArray true).wp P Q a w := by
  refine wp_region_any hm ?_
  have k1 := flow_any N1 lev1 al1 ph1 hB1 h1
  have k2 := FlowR.flow_any N1 lev2 al2 ph2 hB2 h2
  subst hl1 hl2
  have hno' : ∀ i o, l'.toArray[i]? = some o → i ≠ x → i ≠ y → noCall o = true := fun i o ho hx hy => by
    have ho' : l'[i]? = some o := by simpa using ho
    have hi : i < l'.length := (List.getElem?_eq_some_iff.1 ho').1
    have h3 := List.all_eq_true.1 hno i (by simpa using hi)
    rw [ho'] at h3
    simpa [hx, hy] using h3
  simp only [List.size_toArray, late_length] at k1 k2
  have k0 := wpAny_split (Q := Q) hxy hno' _ _ _ _ (by simp) k1 k2
  subst hl
  simp only [late_length] at k0
  have q1 := wpAny_late (Q := Q) hL2 hQ _ _ _ _ (by simp [late_length]) k0
  have q2 := wpAny_late (Q := Q) hL hQ _ _ _ _ (by simp) q1
  simpa using q2
end
end Go.Proofs.YtjkfbeillmeomaaGreatDoor
