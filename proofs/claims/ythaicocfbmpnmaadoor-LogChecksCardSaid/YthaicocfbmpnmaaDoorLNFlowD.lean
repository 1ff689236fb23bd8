/-
  A region that draws its order, in which several blocks are made: each is another one.
-/
import Derived.Test.YthaicocfbmpnmaaDoorLNLate
namespace Go.Proofs.YthaicocfbmpnmaaDoor
open Go.RowKit
section
variable {P : Program} {ops : Array Oper} {md : Region.Mode}

/-- The walk, with the blocks that it has met. -/
def WalkD (P : Program) (ops : Array Oper) (R : World → World → Prop) (w : World) (Fin : Act → World → Prop) : List (Nd × List Nat × List Nat) → Pend → List Nat → Act → (World → Prop) → (World → Prop) → Prop
  | [], _, _, A, F, G => ∀ w1, R w w1 → F w1 → G w1 → Fin A w1
  | (.c j, lv, al) :: ph, pd, ks, A, F, G => ∃ o, ops[j]? = some o ∧ ∃ Fact Gact : Value → World → Prop, (∀ v w' w'', R w w' → Fact v w' → R w' w'' → Fact v w'') ∧ (∀ v w' w'', Gact v w' → Below w'.heap.size w' w'' → Gact v w'') ∧
      (∀ w1, R w w1 → F w1 → G w1 → NdOK P ops R A w1 (fun v w2 => Fact v w2 ∧ Gact v w2) o) ∧
      ∀ v w0, R w w0 → F w0 → Fact v w0 → After P ops R w (fun w1 => F w1 ∧ Fact v w1) (fun pd' A' => WalkD P ops R w Fin ph pd' ks A' (fun w1 => F w1 ∧ Fact v w1) (Gact v)) lv al pd (A.put o.dst v)
  | (.b j, lv, al) :: ph, pd, ks, A, F, G => ∃ o, ops[j]? = some o ∧ ∃ mk obj, (j, mk, obj) ∈ pd ∧
      ∀ b w0, R w w0 → F w0 → w.heap.size ≤ b → b ∉ ks → w0.heap[b]? = some obj → After P ops R w (fun w1 => F w1 ∧ w1.heap[b]? = some obj) (fun pd' A' => WalkD P ops R w Fin ph pd' (b :: ks) A' (fun w1 => F w1 ∧ w1.heap[b]? = some obj) G) lv al pd (A.put o.dst (mk b))

/-- The blocks of the operations that have come up are unlike. -/
structure DI (ops : Array Oper) (w : World) (from_ : List Nat) (pd : Pend) (listed : Array Bool) (a' : Act) (w' : World) (ks : List Nat) (β : Nat → Nat) : Prop where
  dl : ∀ p ∈ pd, p.1 ∈ from_ → listed.getD p.1 false = true
  lt : ∀ p ∈ pd, listed.getD p.1 false = true → β p.1 < w'.heap.size
  on : ∀ p ∈ pd, p.1 ∉ from_ → listed.getD p.1 false = true → w.heap.size ≤ β p.1 ∧ w'.heap[β p.1]? = some p.2.2 ∧ ∀ d, (ops[p.1]?).bind (·.dst) = some d → a'.tmps[d]? = slotV a'.tmps.size d (p.2.1 (β p.1))
  inj : ∀ p ∈ pd, ∀ q ∈ pd, listed.getD p.1 false = true → listed.getD q.1 false = true → p.1 ≠ q.1 → β p.1 ≠ β q.1
  kn : ∀ k ∈ ks, ∃ p ∈ pd, p.1 ∈ from_ ∧ β p.1 = k

theorem DI.step {w w' w'' : World} {from_ : List Nat} {pd : Pend} {listed listed' : Array Bool} {a' a'' : Act} {ks : List Nat} {β : Nat → Nat} {i : Nat} (h : DI ops w from_ pd listed a' w' ks β) (hni : ∀ p ∈ pd, p.1 ≠ i)
    (hset : ∀ j, listed'.getD j false = true → j = i ∨ listed.getD j false = true) (hset2 : ∀ j, listed.getD j false = true → listed'.getD j false = true) (hsz : a''.tmps.size = a'.tmps.size)
    (hput : ∀ p ∈ pd, ∀ d, (ops[p.1]?).bind (·.dst) = some d → a''.tmps[d]? = a'.tmps[d]?) (hm : w'.heap.size ≤ w''.heap.size) (hb : ∀ b o, w.heap.size ≤ b → w'.heap[b]? = some o → w''.heap[b]? = some o) : DI ops w from_ pd listed' a'' w'' ks β := by
  have hl : ∀ p ∈ pd, listed'.getD p.1 false = true → listed.getD p.1 false = true := fun p hp hj => (hset _ hj).resolve_left (hni p hp)
  refine ⟨fun p hp hf => hset2 _ (h.dl p hp hf), fun p hp hj => Nat.lt_of_lt_of_le (h.lt p hp (hl p hp hj)) hm, fun p hp hf hj => ?_, fun p hp q hq h1 h2 => h.inj p hp q hq (hl p hp h1) (hl q hq h2), h.kn⟩
  obtain ⟨h1, h2, h3⟩ := h.on p hp hf (hl p hp hj)
  refine ⟨h1, hb _ _ h1 h2, fun d hd => ?_⟩
  rw [hput p hp d hd, hsz]
  exact h3 d hd
theorem DI.enters {w w' : World} {from_ from2 : List Nat} {pd pd2 : Pend} {listed : Array Bool} {a' : Act} {ks ks2 : List Nat} {β : Nat → Nat} (h : DI ops w from_ pd listed a' w' ks β) (hp : ∀ p ∈ pd2, p ∈ pd ∨ (listed.getD p.1 false = false ∧ p.1 ∉ from2))
    (hf : ∀ k ∈ from_, k ∈ from2) (hdl : ∀ p ∈ pd, p.1 ∈ from2 → listed.getD p.1 false = true) (hks : ∀ k ∈ ks2, ∃ p ∈ pd2, p.1 ∈ from2 ∧ β p.1 = k) : DI ops w from2 pd2 listed a' w' ks2 β := by
  have hin : ∀ p ∈ pd2, listed.getD p.1 false = true → p ∈ pd := fun p hpp hl => by
    rcases hp p hpp with h | h
    · exact h
    · rw [h.1] at hl; cases hl
  refine ⟨fun p hpp hfp => ?_, fun p hpp hl => h.lt p (hin p hpp hl) hl, fun p hpp hfp hl => h.on p (hin p hpp hl) (fun k => hfp (hf _ k)) hl, fun p hpp q hq h1 h2 => h.inj p (hin p hpp h1) q (hin q hq h2) h1 h2, hks⟩
  rcases hp p hpp with h | h
  · exact hdl p h hfp
  · exact absurd hfp h.2

set_option maxRecDepth 100000 in
theorem advance_d {R : World → World → Prop} (_hR : Rel R) {N1 : Nat} {l : List Oper} {a0 a' A : Act} {w w' : World} {Fin : Act → World → Prop} (g : Fg md l.toArray N1)
    (hRb : ∀ w1 w2 b o, R w w1 → R w1 w2 → w.heap.size ≤ b → w1.heap[b]? = some o → w2.heap[b]? = some o) (_hRs : ∀ w1, R w w1 → w.heap.size ≤ w1.heap.size)
    {j : Nat} {lv al : List Nat} {ph : List (Nd × List Nat × List Nat)} {from_ pend : List Nat} {pd : Pend} {F G : World → Prop} {listed : Array Bool} {ks : List Nat} {β : Nat → Nat} {C : Prop}
    (hpe : ∀ j, (∃ p ∈ pd, p.1 = j) ↔ j ∈ pend) (hph : fB md l.toArray N1 from_ pend ((.b j, lv, al) :: ph) = true) (hcov : ∀ i, i < N1 → i ∈ from_ ∨ i ∈ pend ∨ i ∈ intro_ ((.b j, lv, al) :: ph))
    (hlex : WalkD P l.toArray R w Fin ((.b j, lv, al) :: ph) pd ks A F G) (hI : FInv R P md l.toArray N1 a0 w from_ pd A F G listed) (hA : FAt R l.toArray a0 w from_ pd A F G listed a' w') (hlj : listed.getD j false = true) (hD : DI l.toArray w from_ pd listed a' w' ks β)
    (next : ∀ (from2 pend2 : List Nat) (pd2 : Pend) (A2 : Act) (F2 G2 : World → Prop) (ks2 : List Nat), fB md l.toArray N1 from2 pend2 ph = true → (∀ j, (∃ p ∈ pd2, p.1 = j) ↔ j ∈ pend2) → (∀ i, i < N1 → i ∈ from2 ∨ i ∈ pend2 ∨ i ∈ intro_ ph) →
      WalkD P l.toArray R w Fin ph pd2 ks2 A2 F2 G2 → FInv R P md l.toArray N1 a0 w from2 pd2 A2 F2 G2 listed → FAt R l.toArray a0 w from2 pd2 A2 F2 G2 listed a' w' → DI l.toArray w from2 pd2 listed a' w' ks2 β → C) : C := by
  simp only [fB, Bool.and_eq_true, Bool.not_eq_true'] at hph
  obtain ⟨⟨⟨⟨⟨⟨h3, h2⟩, h5⟩, h6⟩, h7⟩, h8⟩, h9⟩ := hph
  have hjf : j ∉ from_ := by simpa using h2
  obtain ⟨o, ho, mk, obj, hmem, hnext⟩ := hlex
  obtain ⟨hb, hheap, hslot⟩ := hD.on _ hmem hjf hlj
  have hbk : β j ∉ ks := fun hk => by
    obtain ⟨p, hp, hpf, he⟩ := hD.kn _ hk
    have hne : p.1 ≠ j := fun e => hjf (e ▸ hpf)
    exact hD.inj p hp _ hmem (hD.dl p hp hpf) hlj hne he
  generalize hbe : β j = b at *
  obtain ⟨A', hq, hal⟩ := hnext b w' hA.rel hA.fact hb hbk hheap
  obtain ⟨pd', hK, hp1, hp2, hp3⟩ := hal.out
  have hE := enter (o := o) (v := mk b) (F2 := fun w1 => F w1 ∧ w1.heap[b]? = some obj) (G2 := G) (lv := lv) (al := al) (pd' := pd') g hI (hI.plt _ hmem) hjf (hI.plooks _ hmem) ho hlj hA.rel ⟨hA.fact, hheap⟩ hA.gact (fun _ h => h.1)
    (fun w1 w2 hr h hr2 => ⟨hI.stab _ _ hr h.1 hr2, hRb _ _ _ _ hr hr2 hb h.2⟩) hI.gstab hA.sz hA.df (fun i hi => .inr (hA.sub i hi)) hA.on (fun d hd => hslot d (by rw [ho]; exact hd)) (fun p hp _ => hA.onp p hp) hA.off hq h5
    (fun k hk p hp hpk => by
      have := List.all_eq_true.1 h6 k hk
      have h2 : k ∉ pend := by simpa using this
      exact h2 ((hpe k).1 ⟨p, hp, hpk⟩))
    (fun k hk => by
      obtain ⟨q1, q2, q3, q4⟩ := alB_at h7 k hk
      exact ⟨q1, q2, fun p hp hpk => q3 ((hpe k).1 ⟨p, hp, hpk⟩), q4⟩) hp1 hp2
  have hal0 : ∀ k ∈ al, listed.getD k false = false ∧ k ∉ from_ ++ [j] ++ lv := fun k hk => by
    obtain ⟨q1, q2, q3, q4⟩ := alB_at h7 k hk
    refine ⟨?_, q2⟩
    cases h : listed.getD k false
    · rfl
    · exfalso
      rcases hA.sub k h with h | h
      · exact q2 (by simp [h])
      · exact q3 ((hpe k).1 h)
  refine next _ _ pd' A' _ G _ h9 (fun i => ?_) (fun i hi => ?_) hK hE.1 hE.2 (hD.enters (fun p hp => (hp1 p hp).imp id fun h => hal0 _ h.1) (fun k hk => by simp [hk]) (fun p hp hpf => ?_) (fun k hk => ?_))
  · rw [hp3 i, hpe i, List.mem_append]
  · have := hcov i hi
    simp only [intro_, List.mem_append, List.mem_singleton] at this ⊢
    rcases this with h | h | (h | h) | h <;> simp [h]
  · have hpf : p.1 ∈ from_ ∨ p.1 = j ∨ p.1 ∈ lv := by simpa [or_assoc] using hpf
    rcases hpf with h | h | h
    · exact hD.dl p hp h
    · rw [h]; exact hlj
    · exfalso
      have := List.all_eq_true.1 h6 _ h
      have h2 : p.1 ∉ pend := by simpa using this
      exact h2 ((hpe _).1 ⟨p, hp, rfl⟩)
  · rcases List.mem_cons.1 hk with rfl | hk
    · exact ⟨_, hp2 _ hmem, by simp, hbe⟩
    · obtain ⟨p, hp, hpf, he⟩ := hD.kn _ hk
      exact ⟨p, hp2 p hp, by simp [hpf], he⟩

set_option maxRecDepth 100000 in
theorem flow_stepd {R : World → World → Prop} (hR : Rel R) {N1 : Nat} {Q : Exit → Act → World → Prop} {l : List Oper} {a0 a' A : Act} {w w' : World} {Fin : Act → World → Prop} (g : Fg md l.toArray N1)
    (hRb : ∀ w1 w2 b o, R w w1 → R w1 w2 → w.heap.size ≤ b → w1.heap[b]? = some o → w2.heap[b]? = some o) (hRs : ∀ w1, R w w1 → w.heap.size ≤ w1.heap.size) (hRm : ∀ w1 w2, R w1 w2 → w1.heap.size ≤ w2.heap.size)
    {k : Nat} {ph : List (Nd × List Nat × List Nat)} {from_ pend : List Nat} {pd : Pend} {F G : World → Prop} {listed : Array Bool} {ks : List Nat} {β : Nat → Nat}
    (hs : listed.size = l.length) (ht : ∀ t, N1 ≤ t → listed.getD t false = false) (hcl : ∀ j o, l.toArray[j]? = some o → listed.getD j false = true → ∀ e ∈ o.after, Region.binds md e = true → listed.getD e.on false = true) (hc : cnt N1 listed = k + 1) (hph : fB md l.toArray N1 from_ pend ph = true) (hpe : ∀ j, (∃ p ∈ pd, p.1 = j) ↔ j ∈ pend) (hcov : ∀ i, i < N1 → i ∈ from_ ∨ i ∈ pend ∨ i ∈ intro_ ph)
    (hlex : WalkD P l.toArray R w Fin ph pd ks A F G) (hI : FInv R P md l.toArray N1 a0 w from_ pd A F G listed) (hA : FAt R l.toArray a0 w from_ pd A F G listed a' w') (hD : DI l.toArray w from_ pd listed a' w' ks β)
    (hb : ∀ j lv al ph', ph = (.b j, lv, al) :: ph' → listed.getD j false = false)
    (ih : ∀ (ph : List (Nd × List Nat × List Nat)) (listed : Array Bool) (a' : Act) (w' : World) (from_ pend : List Nat) (pd : Pend) (A : Act) (F G : World → Prop) (ks : List Nat) (β : Nat → Nat), listed.size = l.length → (∀ t, N1 ≤ t → listed.getD t false = false) → (∀ j o, l.toArray[j]? = some o → listed.getD j false = true → ∀ e ∈ o.after, Region.binds md e = true → listed.getD e.on false = true) → cnt N1 listed = k →
      fB md l.toArray N1 from_ pend ph = true → (∀ j, (∃ p ∈ pd, p.1 = j) ↔ j ∈ pend) → (∀ i, i < N1 → i ∈ from_ ∨ i ∈ pend ∨ i ∈ intro_ ph) → WalkD P l.toArray R w Fin ph pd ks A F G →
      FInv R P md l.toArray N1 a0 w from_ pd A F G listed → FAt R l.toArray a0 w from_ pd A F G listed a' w' → DI l.toArray w from_ pd listed a' w' ks β → wpAny P md l.toArray Q (k + (l.length - N1)) listed a' w') : wpAny P md l.toArray Q (k + 1 + (l.length - N1)) listed a' w' := by
  have hle3 : N1 ≤ l.length := by simpa using g.le
  obtain ⟨i0, hi0, hu0⟩ := cnt_succ hc
  rw [show k + 1 + (l.length - N1) = (k + (l.length - N1)) + 1 by omega]
  refine ⟨fun h0 => ?_, fun i hi => ?_⟩
  · obtain ⟨j, hj⟩ := ready_of g.down (listed := listed) (by simpa using hs) i0 (by simp; omega) hu0
    rw [h0] at hj; cases hj
  obtain ⟨hiu, o, ho, hdeps⟩ := mem_ready.1 hi
  have ho' : l[i]? = some o := by simpa using ho
  have hil : i < l.length := (List.getElem?_eq_some_iff.1 ho').1
  have hi1 : i < N1 := by
    rcases Nat.lt_or_ge i N1 with h | h
    · exact h
    · have hdir : ∀ j, Region.waitsFor md l.toArray i j = true → listed.getD j false = true := fun j hwf => by
        obtain ⟨oj, hoj, e, he, hb, hon⟩ := Region.waitsFor_spec hwf
        have : oj = o := Option.some.inj (hoj.symm.trans ho)
        subst this
        have := hdeps e he hb
        rwa [hon] at this
      have hstep : ∀ j j', listed.getD j false = true → Region.waitsFor md l.toArray j j' = true → listed.getD j' false = true := fun j j' hj hwf2 => by
        obtain ⟨oj, hoj, e, he, hb, hon⟩ := Region.waitsFor_spec hwf2
        have := hcl j oj hoj hj e he hb
        rwa [hon] at this
      have := waitB_listed hstep 5 i i0 hdir (g.tail i i0 (by simpa using hil) h hi0)
      rw [hu0] at this; cases this
  have hfn : listed.getD i false = false := getD_both hiu
  have hcnt := cnt_set hi1 (by omega) hfn
  have hseti : (listed.setIfInBounds i true).getD i false = true := by simp [hs, hil]
  have hset : ∀ j, (listed.setIfInBounds i true).getD j false = true → j = i ∨ listed.getD j false = true := fun j hj => by
    by_cases h : j = i
    · exact .inl h
    · right; rw [getD_set_ne false (Ne.symm h)] at hj; exact hj
  have hset2 : ∀ j, listed.getD j false = true → (listed.setIfInBounds i true).getD j false = true := fun j hj => by
    by_cases h : j = i
    · subst h; exact hseti
    · rw [getD_set_ne false (Ne.symm h)]; exact hj
  have hset3 : ∀ j, (listed.setIfInBounds i true).getD j false = false → listed.getD j false = false := fun j hj => by
    cases h : listed.getD j false
    · rfl
    · rw [hset2 j h] at hj; cases hj
  have htail' : ∀ t, N1 ≤ t → (listed.setIfInBounds i true).getD t false = false := fun t htt => by rw [getD_set_ne false (by omega)]; exact ht t htt
  have hcl' : ∀ j o', l.toArray[j]? = some o' → (listed.setIfInBounds i true).getD j false = true → ∀ e ∈ o'.after, Region.binds md e = true → (listed.setIfInBounds i true).getD e.on false = true := fun j o' hj hl e he hb => by
    rcases hset j hl with rfl | hl
    · have : o' = o := Option.some.inj (hj.symm.trans ho)
      subst this
      exact hset2 _ (hdeps e he hb)
    · exact hset2 _ (hcl j o' hj hl e he hb)
  have hdone : ∀ kk, Region.waitsFor md l.toArray i kk = true → listed.getD kk false = true := fun kk hwf => by
    obtain ⟨oj, hoj, e, he, hb, hon⟩ := Region.waitsFor_spec hwf
    have : oj = o := Option.some.inj (hoj.symm.trans ho)
    subst this
    have := hdeps e he hb
    rwa [hon] at this
  -- slots of the others stay
  have hput : ∀ (v : Value) (d : Tmp) (j : Nat), j < N1 → j ≠ i → (l.toArray[j]?).bind (·.dst) = some d → (a'.put o.dst v).tmps[d]? = a'.tmps[d]? := fun v d j hj hne hjd =>
    put_get_ne _ _ _ _ fun he => g.apart j i hj hi1 hne d hjd (by rw [ho]; exact he)
  by_cases hif : i ∈ from_
  · -- an operation whose value is known
    have hsame := fsame_of hI hA (hI.looks i hif) ho hdeps
    obtain ⟨v, hy, hputv⟩ := hI.det i hif o ho hfn w' hA.rel hA.fact a' hA.sz hsame
    refine wpOp_of_qOp (C := fun w'' => ∃ x : Ext w', w'' = x.at_) (K := fun a'' => a'' = a'.put o.dst v) ⟨⟨w', Below.refl _ _⟩, rfl⟩ ?_ (hy.qOp ho rfl)
    rintro a'' w'' ⟨x, rfl⟩ rfl
    have hrx := hR.of x.same
    rw [hputv a' hA.sz]
    refine ih ph _ _ _ from_ pend pd A F G ks β (by simpa using hs) htail' hcl' (by omega) hph hpe hcov hlex ?_ ?_ (hD.step (i := i) (fun p hp he => by
      have := hD.dl p hp (by rw [he]; exact hif)
      rw [he, hfn] at this; cases this) hset hset2 (by rw [put_size]) (fun p hp d hd => hput _ d p.1 (hI.plt p hp) (fun he => by
      have := hD.dl p hp (by rw [he]; exact hif)
      rw [he, hfn] at this; cases this) hd) (hRm _ _ hrx) (fun b o hb ho => hRb _ _ _ _ hA.rel hrx hb ho))
    · exact ⟨hI.lt, hI.looks, fun j hj oj hoj hl => hI.det j hj oj hoj (hset3 j hl), hI.plt, hI.plooks, hI.pok, hI.old, hI.sz, hI.df, hI.stab, hI.gstab⟩
    · refine ⟨hR.trans hA.rel hrx, hI.stab _ _ hA.rel hA.fact hrx, hI.gstab _ _ hA.gact x.same, by rw [put_size]; exact hA.sz, by rw [put_defers]; exact hA.df, fun j hj => ?_, fun j d hjf hj hjd => ?_, fun p hp hpf hj => ?_, fun d hd => ?_⟩
      · rcases hset j hj with rfl | h
        · exact .inl hif
        · exact hA.sub j h
      · by_cases hod : o.dst = some d
        · rw [hod]; exact put_get_self a' A d hA.sz
        · rw [put_get_ne _ _ _ _ hod]
          rcases hset j hj with rfl | h
          · rw [ho] at hjd; exact absurd hjd hod
          · exact hA.on j d hjf h hjd
      · have hne : p.1 ≠ i := fun h => hpf (h ▸ hif)
        have hjl : listed.getD p.1 false = true := (hset _ hj).resolve_left hne
        obtain ⟨b, hb1, hb2, hb3⟩ := hA.onp p hp hpf hjl
        refine ⟨b, hb1, hRb _ _ _ _ hA.rel hrx hb1 hb2, fun d hd => ?_⟩
        rw [hput _ d p.1 (hI.plt p hp) hne hd, put_size]
        exact hb3 d hd
      · have hod : o.dst ≠ some d := fun he => hd i hseti (by rw [ho]; exact he)
        rw [put_get_ne _ _ _ _ hod]
        exact hA.off d fun j hj => hd j (hset2 j hj)
  · by_cases hip : ∃ p ∈ pd, p.1 = i
    · -- a block that is made
      obtain ⟨p, hp, rfl⟩ := hip
      have hsame := fsame_of hI hA (hI.plooks p hp) ho hdeps
      obtain ⟨hwant, hrun⟩ := hI.pok p hp o ho
      have hrun := hrun w' hA.rel hA.fact
      unfold wpOp
      simp only [ho]
      rw [if_pos (by rw [hsame.wanted]; exact hwant)]
      left
      unfold Oper.wp
      rw [hsame.exec (fun cs b => g.sel p.1 o cs b ho), hrun, Oper.upon_value]
      have hbel : Below w'.heap.size w' (w'.alloc p.2.2) := (Below.refl _ _).alloc (Nat.le_refl _) _
      have hrx := hR.of hbel
      have hnewb : (w'.alloc p.2.2).heap[w'.heap.size]? = some p.2.2 := by
        show (w'.heap.push _)[w'.heap.size]? = _
        simp
      have hDn : DI l.toArray w from_ pd (listed.setIfInBounds p.1 true) (a'.put o.dst (p.2.1 w'.heap.size)) (w'.alloc p.2.2) ks (fun x => if x = p.1 then w'.heap.size else β x) := by
        have hl : ∀ q ∈ pd, q.1 ≠ p.1 → (listed.setIfInBounds p.1 true).getD q.1 false = true → listed.getD q.1 false = true := fun q hq hne hj => (hset _ hj).resolve_left hne
        refine ⟨fun q hq hf => hset2 _ (hD.dl q hq hf), fun q hq hj => ?_, fun q hq hqf hj => ?_, fun q hq r hr h1 h2 hne => ?_, fun k hk => ?_⟩
        · show (if q.1 = p.1 then w'.heap.size else β q.1) < (w'.heap.push _).size
          rw [Array.size_push]
          split
          · omega
          · rename_i hne
            have := hD.lt q hq (hl q hq hne hj); omega
        · by_cases hqp : q.1 = p.1
          · obtain ⟨_, hrun2⟩ := hI.pok q hq o (by rw [hqp]; exact ho)
            have hrun2 := hrun2 w' hA.rel hA.fact
            rw [← hsame.exec (fun cs b => g.sel p.1 o cs b ho)] at hrun hrun2
            rw [hrun] at hrun2
            simp only [Result.ok.injEq, Next.value.injEq] at hrun2
            obtain ⟨e1, e2⟩ := hrun2
            have e3 : p.2.2 = q.2.2 := by
              have := congrArg (fun x : World => x.heap[w'.heap.size]?) e2
              rw [hnewb, show (w'.alloc q.2.2).heap[w'.heap.size]? = some q.2.2 by show (w'.heap.push _)[w'.heap.size]? = _; simp] at this
              exact Option.some.inj this
            simp only [hqp, if_true]
            refine ⟨hRs _ hA.rel, by rw [hnewb, e3], fun d hd => ?_⟩
            rw [ho] at hd
            have hd : o.dst = some d := hd
            rw [hd, put_slotV, put_size, e1]
          · simp only [hqp, if_false]
            obtain ⟨hb1, hb2, hb3⟩ := hD.on q hq hqf (hl q hq hqp hj)
            refine ⟨hb1, hRb _ _ _ _ hA.rel hrx hb1 hb2, fun d hd => ?_⟩
            rw [hput _ d q.1 (hI.plt q hq) hqp hd, put_size]
            exact hb3 d hd
        · by_cases hqp : q.1 = p.1
          · have hrp : r.1 ≠ p.1 := fun h => hne (hqp.trans h.symm)
            simp only [hqp, if_true, hrp, if_false]
            have := hD.lt r hr (hl r hr hrp h2); omega
          · simp only [hqp, if_false]
            by_cases hrp : r.1 = p.1
            · simp only [hrp, if_true]
              have := hD.lt q hq (hl q hq hqp h1); omega
            · simp only [hrp, if_false]
              exact hD.inj q hq r hr (hl q hq hqp h1) (hl r hr hrp h2) hne
        · obtain ⟨q, hq, hqf, he⟩ := hD.kn k hk
          exact ⟨q, hq, hqf, by simp only [show q.1 ≠ p.1 from fun h => hif (h ▸ hqf), if_false]; exact he⟩
      refine ih ph _ _ _ from_ pend pd A F G ks _ (by simpa using hs) htail' hcl' (by omega) hph hpe hcov hlex ?_ ?_ hDn
      · exact ⟨hI.lt, hI.looks, fun j hj oj hoj hl => hI.det j hj oj hoj (hset3 j hl), hI.plt, hI.plooks, hI.pok, hI.old, hI.sz, hI.df, hI.stab, hI.gstab⟩
      · refine ⟨hR.trans hA.rel hrx, hI.stab _ _ hA.rel hA.fact hrx, hI.gstab _ _ hA.gact hbel, by rw [put_size]; exact hA.sz, by rw [put_defers]; exact hA.df, fun j hj => ?_, fun j d hjf hj hjd => ?_, fun q hq hqf hj => ?_, fun d hd => ?_⟩
        · rcases hset j hj with rfl | h
          · exact .inr ⟨p, hp, rfl⟩
          · exact hA.sub j h
        · have hne : j ≠ p.1 := fun h => hif (h ▸ hjf)
          rw [hput _ d j (hI.lt j hjf) hne hjd]
          exact hA.on j d hjf ((hset j hj).resolve_left hne) hjd
        · by_cases hqp : q.1 = p.1
          · obtain ⟨_, hrun2⟩ := hI.pok q hq o (by rw [hqp]; exact ho)
            have hrun2 := hrun2 w' hA.rel hA.fact
            rw [← hsame.exec (fun cs b => g.sel p.1 o cs b ho)] at hrun hrun2
            rw [hrun] at hrun2
            simp only [Result.ok.injEq, Next.value.injEq] at hrun2
            obtain ⟨e1, e2⟩ := hrun2
            have e3 : p.2.2 = q.2.2 := by
              have := congrArg (fun x : World => x.heap[w'.heap.size]?) e2
              rw [hnewb, show (w'.alloc q.2.2).heap[w'.heap.size]? = some q.2.2 by show (w'.heap.push _)[w'.heap.size]? = _; simp] at this
              exact Option.some.inj this
            refine ⟨w'.heap.size, hRs _ hA.rel, by rw [hnewb, e3], fun d hd => ?_⟩
            rw [hqp, ho] at hd
            have hd : o.dst = some d := hd
            rw [hd, put_slotV, put_size, e1]
          · have hjl : listed.getD q.1 false = true := (hset _ hj).resolve_left hqp
            obtain ⟨b, hb1, hb2, hb3⟩ := hA.onp q hq hqf hjl
            refine ⟨b, hb1, hRb _ _ _ _ hA.rel hrx hb1 hb2, fun d hd => ?_⟩
            rw [hput _ d q.1 (hI.plt q hq) hqp hd, put_size]
            exact hb3 d hd
        · have hod : o.dst ≠ some d := fun he => hd p.1 hseti (by rw [ho]; exact he)
          rw [put_get_ne _ _ _ _ hod]
          exact hA.off d fun j hj => hd j (hset2 j hj)
    · -- a call in its turn
      have hint : i ∈ intro_ ph := (hcov i hi1).resolve_left hif |>.resolve_left fun h => hip ((hpe i).2 h)
      have hoff := fB_off _ _ _ hph
      have hun : ∀ kk ∈ intro_ ph, listed.getD kk false = false := fun kk hk => by
        cases h : listed.getD kk false
        · rfl
        · exfalso
          rcases hA.sub kk h with h | h
          · exact (hoff kk hk).1 h
          · exact (hoff kk hk).2 ((hpe kk).1 h)
      cases ph with
      | nil => simp [intro_] at hint
      | cons x ph =>
      obtain ⟨nd, lv, al⟩ := x
      cases nd with
      | b j =>
        exfalso
        have huj := hb j lv al ph rfl
        simp only [fB, Bool.and_eq_true, Bool.not_eq_true'] at hph
        obtain ⟨⟨⟨⟨⟨⟨h3, h2⟩, h5⟩, h6⟩, h7⟩, h8⟩, h9⟩ := hph
        obtain ⟨kk, hk, hwf⟩ := waitB_at h8 i (by simpa [intro_] using hint)
        have := hdone kk hwf
        rcases hk with rfl | hk
        · rw [huj] at this; cases this
        · rw [hun kk (by simpa [intro_] using hk)] at this; cases this
      | c j =>
      have hph0 := hph
      simp only [fB, Bool.and_eq_true, decide_eq_true_eq, Bool.not_eq_true'] at hph0
      obtain ⟨⟨⟨⟨⟨⟨⟨⟨h1, h2⟩, h3⟩, h4⟩, h5⟩, h6⟩, h7⟩, h8⟩, h9⟩ := hph0
      have hij : i = j := by
        simp only [intro_, List.mem_cons] at hint
        rcases hint with h | h
        · exact h
        · exfalso
          obtain ⟨kk, hk, hwf⟩ := waitB_at h8 i h
          have := hdone kk hwf
          rw [hun kk (by simpa [intro_] using hk)] at this
          cases this
      subst hij
      obtain ⟨o2, ho2, Fact, Gact, hstab, hgstab, hnd, hnext⟩ := hlex
      have : o2 = o := Option.some.inj (ho2.symm.trans ho)
      subst this
      have hsame := fsame_of hI hA h4 ho hdeps
      have key : ∀ v w2, R w' w2 → (Fact v w2 ∧ Gact v w2) → wpAny P md l.toArray Q (k + (l.length - N1)) (listed.setIfInBounds i true) (a'.put o2.dst v) w2 := by
        intro v w2 hb2 hfg2
        obtain ⟨hf2, hg2⟩ := hfg2
        have hrel := hR.trans hA.rel hb2
        have hF' := hI.stab _ _ hA.rel hA.fact hb2
        obtain ⟨A', hq, hal⟩ := hnext v w2 hrel hF' hf2
        obtain ⟨pd', hK, hp1, hp2, hp3⟩ := hal.out
        have hI2 : FInv R P md l.toArray N1 a0 w from_ pd A F G (listed.setIfInBounds i true) := ⟨hI.lt, hI.looks, fun j hj oj hoj hl => hI.det j hj oj hoj (hset3 j hl), hI.plt, hI.plooks, hI.pok, hI.old, hI.sz, hI.df, hI.stab, hI.gstab⟩
        have hE := enter (o := o2) (v := v) (F2 := fun w1 => F w1 ∧ Fact v w1) (G2 := Gact v) (lv := lv) (al := al) (pd' := pd') (a' := a'.put o2.dst v) (w' := w2) g hI2 hi1 hif h4 ho hseti hrel ⟨hF', hf2⟩ hg2 (fun _ h => h.1)
          (fun w1 w2 hr h hr2 => ⟨hI.stab _ _ hr h.1 hr2, hstab _ _ _ hr h.2 hr2⟩) (fun w1 w2 => hgstab _ w1 w2) (by rw [put_size]; exact hA.sz) (by rw [put_defers]; exact hA.df)
          (fun kk hk => (hset kk hk).imp id (hA.sub kk))
          (fun kk d hkf hk hkd => by
            have hne : kk ≠ i := fun h => hif (h ▸ hkf)
            rw [hput _ d kk (hI.lt kk hkf) hne hkd]
            exact hA.on kk d hkf ((hset kk hk).resolve_left hne) hkd)
          (fun d hd => by rw [hd, put_slotV, put_size])
          (fun p hp hne hpf hl => by
            obtain ⟨b, hb1, hb2', hb3⟩ := hA.onp p hp hpf ((hset _ hl).resolve_left hne)
            refine ⟨b, hb1, hRb _ _ _ _ hA.rel hb2 hb1 hb2', fun d hd => ?_⟩
            rw [hput _ d p.1 (hI.plt p hp) hne hd, put_size]
            exact hb3 d hd)
          (fun d hd => by
            have hod : o2.dst ≠ some d := fun he => hd i hseti (by rw [ho]; exact he)
            rw [put_get_ne _ _ _ _ hod]
            exact hA.off d fun j hj => hd j (hset2 j hj))
          hq h5
          (fun kk hk p hp hpk => by
            have := List.all_eq_true.1 h6 kk hk
            have h2 : kk ∉ pend := by simpa using this
            exact h2 ((hpe kk).1 ⟨p, hp, hpk⟩))
          (fun kk hk => by
            obtain ⟨q1, q2, q3, q4⟩ := alB_at h7 kk hk
            exact ⟨q1, q2, fun p hp hpk => q3 ((hpe kk).1 ⟨p, hp, hpk⟩), q4⟩) hp1 hp2
        have hD2 : DI l.toArray w from_ pd (listed.setIfInBounds i true) (a'.put o2.dst v) w2 ks β := hD.step (i := i) (fun p hp he => hip ⟨p, hp, he⟩) hset hset2 (by rw [put_size]) (fun p hp d hd => hput _ d p.1 (hI.plt p hp) (fun he => hip ⟨p, hp, he⟩) hd) (hRm _ _ hb2) (fun b o hb ho => hRb _ _ _ _ hA.rel hb2 hb ho)
        have hDn := hD2.enters (from2 := from_ ++ [i] ++ lv) (pd2 := pd') (ks2 := ks) (fun p hp => (hp1 p hp).imp id fun h => by
          obtain ⟨q1, q2, q3, q4⟩ := alB_at h7 _ h.1
          refine ⟨?_, q2⟩
          cases hl : (listed.setIfInBounds i true).getD p.1 false
          · rfl
          · exfalso
            rcases hset _ hl with h | h
            · exact q2 (by simp [h])
            · rcases hA.sub _ h with h | h
              · exact q2 (by simp [h])
              · exact q3 ((hpe _).1 h)) (fun k hk => by simp [hk]) (fun p hp hpf => by
          have hpf : p.1 ∈ from_ ∨ p.1 = i ∨ p.1 ∈ lv := by simpa [or_assoc] using hpf
          rcases hpf with h | h | h
          · exact hset2 _ (hD.dl p hp h)
          · exact absurd ⟨p, hp, h⟩ hip
          · exfalso
            have := List.all_eq_true.1 h6 _ h
            have h2 : p.1 ∉ pend := by simpa using this
            exact h2 ((hpe _).1 ⟨p, hp, rfl⟩)) (fun k hk => by
          obtain ⟨p, hp, hpf, he⟩ := hD.kn k hk
          exact ⟨p, hp2 p hp, by simp [hpf], he⟩)
        refine ih ph _ _ _ _ _ pd' A' _ _ ks β (by simpa using hs) htail' hcl' (by omega) h9 (fun kk => ?_) (fun kk hk => ?_) hK hE.1 hE.2 hDn
        · rw [hp3 kk, hpe kk, List.mem_append]
        · have := hcov kk hk
          simp only [intro_, List.mem_append, List.mem_cons] at this ⊢
          rcases this with h | h | h | (h | h) | h <;> simp [h]
      obtain ⟨hwant, hrun⟩ := hnd w' hA.rel hA.fact hA.gact
      unfold wpOp
      simp only [ho]
      rw [if_pos (by rw [hsame.wanted]; exact hwant)]
      left
      unfold Oper.wp
      rw [hsame.exec (fun cs b => g.sel i o2 cs b ho)]
      rcases hrun with ⟨v, w2, hr, hb2, hf2⟩ | ⟨f, args, hr, hcall⟩
      · rw [hr, Oper.upon_value]
        exact key v w2 hb2 hf2
      · rw [hr, Oper.upon_enter]
        refine hcall.mono fun e w2 h => ?_
        obtain ⟨v, rfl, hb2, hf2⟩ := h
        exact key v w2 hb2 hf2

set_option maxRecDepth 100000 in
theorem wpAny_flowd {R : World → World → Prop} (hR : Rel R) {N1 : Nat} {Q : Exit → Act → World → Prop} {l : List Oper} {a0 : Act} {w : World} (g : Fg md l.toArray N1)
    (hRb : ∀ w1 w2 b o, R w w1 → R w1 w2 → w.heap.size ≤ b → w1.heap[b]? = some o → w2.heap[b]? = some o) (hRs : ∀ w1, R w w1 → w.heap.size ≤ w1.heap.size) (hRm : ∀ w1 w2, R w1 w2 → w1.heap.size ≤ w2.heap.size) :
    ∀ (k : Nat) (ph : List (Nd × List Nat × List Nat)) (listed : Array Bool) (a' : Act) (w' : World) (from_ pend : List Nat) (pd : Pend) (A : Act) (F G : World → Prop) (ks : List Nat) (β : Nat → Nat), listed.size = l.length → (∀ t, N1 ≤ t → listed.getD t false = false) → (∀ j o, l.toArray[j]? = some o → listed.getD j false = true → ∀ e ∈ o.after, Region.binds md e = true → listed.getD e.on false = true) → cnt N1 listed = k →
      fB md l.toArray N1 from_ pend ph = true → (∀ j, (∃ p ∈ pd, p.1 = j) ↔ j ∈ pend) → (∀ i, i < N1 → i ∈ from_ ∨ i ∈ pend ∨ i ∈ intro_ ph) → WalkD P l.toArray R w (fun A w1 => wpList P l.toArray Q (l.drop N1) A w1) ph pd ks A F G →
      FInv R P md l.toArray N1 a0 w from_ pd A F G listed → FAt R l.toArray a0 w from_ pd A F G listed a' w' → DI l.toArray w from_ pd listed a' w' ks β → wpAny P md l.toArray Q (k + (l.length - N1)) listed a' w' := by
  have hle3 : N1 ≤ l.length := by simpa using g.le
  intro k
  induction k with
  | zero =>
    intro ph
    induction ph with
    | nil =>
      intro listed a' w' from_ pend pd A F G ks β hs ht hcl hc hph hpe hcov hlex hI hA hD
      have hall := cnt_zero hc
      have hfull : listed = full l.length N1 := full_eq hs hall ht
      have hseq := g.seq
      have hdl : (l.drop N1).length = l.length - N1 := by simp
      have hbound : ∀ j ∈ pend, j ∈ from_ := fun j hj => by
        simp only [fB, List.all_eq_true] at hph
        simpa using hph j hj
      have haA : a' = A := by
        have e : a'.tmps = A.tmps := by
          apply Array.ext_getElem?
          intro d
          by_cases h : ∃ j, listed.getD j false = true ∧ ((l.toArray)[j]?).bind (·.dst) = some d
          · obtain ⟨j, h1, h2⟩ := h
            have hjf : j ∈ from_ := (hA.sub j h1).elim id fun ⟨p, hp, hpj⟩ => hbound j ((hpe j).1 ⟨p, hp, hpj⟩)
            exact hA.on j d hjf h1 h2
          · rw [hA.off d (fun j hj hjd => h ⟨j, hj, hjd⟩), hI.old d (fun k hk hkd => h ⟨k, hall k (hI.lt k hk), hkd⟩)]
        have e2 := hA.df
        cases a'; cases A
        simp only at e e2
        rw [e, e2]
      subst haA
      rw [Nat.zero_add, ← hdl]
      exact wpAny_of_seq (l.drop N1) N1 listed a' w' (fun j => by simp [List.getElem?_drop]) (by rw [hdl, hfull]; simpa using hseq) (hlex w' hA.rel hA.fact hA.gact)
    | cons x ph ihp =>
      intro listed a' w' from_ pend pd A F G ks β hs ht hcl hc hph hpe hcov hlex hI hA hD
      have hall := cnt_zero hc
      obtain ⟨nd, lv, al⟩ := x
      cases nd with
      | c j =>
        exfalso
        simp only [fB, Bool.and_eq_true, decide_eq_true_eq, Bool.not_eq_true'] at hph
        obtain ⟨⟨⟨⟨⟨⟨⟨⟨h1, h2⟩, h3⟩, h4⟩, h5⟩, h6⟩, h7⟩, h8⟩, h9⟩ := hph
        rcases hA.sub j (hall j h1) with h | ⟨p, hp, hpj⟩
        · have : j ∉ from_ := by simpa using h2
          exact this h
        · have : j ∉ pend := by simpa using h3
          exact this ((hpe j).1 ⟨p, hp, hpj⟩)
      | b j => exact advance_d hR g hRb hRs hpe hph hcov hlex hI hA (hD := hD) (hlj := by
          simp only [fB, Bool.and_eq_true, Bool.not_eq_true'] at hph
          have hj : j ∈ pend := by simpa using hph.1.1.1.1.1.1
          obtain ⟨p, hp, rfl⟩ := (hpe j).2 hj
          exact hall _ (hI.plt p hp)) (next := fun from2 pend2 pd2 A2 F2 G2 ks2 q1 q2 q3 q4 q5 q6 q7 => ihp listed a' w' from2 pend2 pd2 A2 F2 G2 ks2 β hs ht hcl hc q1 q2 q3 q4 q5 q6 q7)
  | succ k ih =>
    intro ph
    induction ph with
    | nil =>
      intro listed a' w' from_ pend pd A F G ks β hs ht hcl hc hph hpe hcov hlex hI hA hD
      exact flow_stepd hR g hRb hRs hRm hs ht hcl hc hph hpe hcov hlex hI hA hD (fun j lv al ph' h => by cases h) fun ph2 listed2 a2 w2 from2 pend2 pd2 A2 F2 G2 ks2 β2 => ih ph2 listed2 a2 w2 from2 pend2 pd2 A2 F2 G2 ks2 β2
    | cons x ph ihp =>
      intro listed a' w' from_ pend pd A F G ks β hs ht hcl hc hph hpe hcov hlex hI hA hD
      obtain ⟨nd, lv, al⟩ := x
      cases nd with
      | c j => exact flow_stepd hR g hRb hRs hRm hs ht hcl hc hph hpe hcov hlex hI hA hD (fun j lv al ph' h => by cases h) fun ph2 listed2 a2 w2 from2 pend2 pd2 A2 F2 G2 ks2 β2 => ih ph2 listed2 a2 w2 from2 pend2 pd2 A2 F2 G2 ks2 β2
      | b j =>
        cases hlj : listed.getD j false with
        | true => exact advance_d hR g hRb hRs hpe hph hcov hlex hI hA hlj hD fun from2 pend2 pd2 A2 F2 G2 ks2 q1 q2 q3 q4 q5 q6 q7 => ihp listed a' w' from2 pend2 pd2 A2 F2 G2 ks2 β hs ht hcl hc q1 q2 q3 q4 q5 q6 q7
        | false => exact flow_stepd hR g hRb hRs hRm hs ht hcl hc hph hpe hcov hlex hI hA hD (fun j2 lv2 al2 ph' h => by cases h; exact hlj) fun ph2 listed2 a2 w2 from2 pend2 pd2 A2 F2 G2 ks2 β2 => ih ph2 listed2 a2 w2 from2 pend2 pd2 A2 F2 G2 ks2 β2

variable {Q : Exit → Act → World → Prop}
set_option maxRecDepth 100000 in
theorem wp_region_late2d {id : Nat} (t j t2 j2 N1 : Nat) (lev al : List Nat) (ph : List (Nd × List Nat × List Nat)) {a : Act} {w : World} {l l' : List Oper} (hm : P.follows .mixedOrders = true) (hL : lateB t j l = true) (hL2 : lateB t2 j2 (late t j l) = true) (hl : l' = late t2 j2 (late t j l)) (hB : flowB .any l'.toArray N1 lev al ph = true)
    (hQ : ∀ c (a : Act) d v w, Q (.panic c) (a.put d v) w → Q (.panic c) a w)
    (h : After P l'.toArray (fun a b => Below a.heap.size a b) w (fun _ => True) (fun pd' A' => WalkD P l'.toArray (fun a b => Below a.heap.size a b) w (fun A w1 => wpList P l'.toArray Q (l'.drop N1) A w1) ph pd' [] A' (fun _ => True) (fun _ => True)) lev al [] a) : (Code.region id l.toArray true).wp P Q a w := by
  refine wp_region_any hm ?_
  have h0 : wpAny P .any l'.toArray Q l'.toArray.size (Array.replicate l'.toArray.size false) a w.drew := by
    have hR := rel_below
    obtain ⟨A, hlev, hal⟩ := h
    obtain ⟨g, hlB, haB, hpB, hcov⟩ := fgl_of hB
    have hle : N1 ≤ l'.length := by simpa using g.le
    have hlvl := g.level hlB
    have hrel : Below w.heap.size w w.drew := hR.of (Below.refl _ _).drew
    rw [← pick_eq] at hlev
    obtain ⟨r1, r2, r3⟩ := walk_rest (hlev w.drew hrel trivial)
    obtain ⟨pd', hK, hp1, hp2, hp3⟩ := hal.out
    have hno : ∀ j, (Array.replicate l'.length false).getD j false = false := fun j => getD_replicate_false _ _
    have hpa : ∀ p ∈ pd', p.1 ∈ al ∧ ∀ o, l'.toArray[p.1]? = some o → AlOK P l'.toArray (fun a b => Below a.heap.size a b) w A (fun _ => True) p.2.1 p.2.2 o := fun p hp => by
      rcases hp1 p hp with h | h
      · simp at h
      · exact h
    have hI : FInv (fun a b => Below a.heap.size a b) P .any l'.toArray N1 a w lev pd' A (fun _ => True) (fun _ => True) (Array.replicate l'.length false) := by
      refine ⟨fun j hj => (levB_mem hlB j hj).1, fun j hj => by simpa using (levB_mem hlB j hj).2.2, fun j hj o ho _ => ?_, fun p hp => (alB_at haB _ (hpa p hp).1).1, fun p hp => (alB_at haB _ (hpa p hp).1).2.2.2, fun p hp => (hpa p hp).2, fun d hd => ?_, r1, r2, fun _ _ _ _ _ => trivial, fun _ _ _ _ => trivial⟩
      · refine det_of_walk (fun oo hoo cs b => ?_) hlvl.2.1 hlvl.2.2 hlev o (List.mem_filterMap.2 ⟨j, hj, ho⟩)
        obtain ⟨j', _, hoj'⟩ := hlvl.1 oo hoo
        exact g.sel j' oo cs b hoj'
      · refine r3 d fun oo hoo he => ?_
        obtain ⟨j, hj, hoj⟩ := hlvl.1 oo hoo
        exact hd j hj (by rw [hoj]; exact he)
    have hA : FAt (fun a b => Below a.heap.size a b) l'.toArray a w lev pd' A (fun _ => True) (fun _ => True) (Array.replicate l'.length false) a w.drew := by
      refine ⟨hrel, trivial, trivial, r1.symm, r2.symm, fun j hj => ?_, fun j d _ hj => ?_, fun p _ _ hj => ?_, fun d _ => rfl⟩
      all_goals (rw [hno] at hj; cases hj)
    have := wpAny_flowd hR (Q := Q) (a0 := a) g (fun w1 w2 b o _ h2 _ ho => by
      have hlt : b < w1.heap.size := (Array.getElem?_eq_some_iff.1 ho).1
      rw [h2.block b hlt]; exact ho) (fun _ h => h.size) (fun _ _ h => h.size) N1 ph (Array.replicate l'.length false) a w.drew lev al pd' A (fun _ => True) (fun _ => True) [] (fun _ => 0) (by simp) (fun t _ => hno _) (fun j o _ hj => by rw [hno] at hj; cases hj) (cnt_start N1 _ hle) hpB (fun j => by rw [hp3 j]; simp) hcov hK hI hA ⟨fun p hp hf => absurd hf (alB_at haB _ (hpa p hp).1).2.1, fun p _ hj => (by rw [hno] at hj; cases hj), fun p _ _ hj => (by rw [hno] at hj; cases hj), fun p _ q _ hj => (by rw [hno] at hj; cases hj), fun k hk => (by cases hk)⟩
    rw [show N1 + (l'.length - N1) = l'.toArray.size by simp; omega] at this
    simpa using this
  subst hl
  have h1 := wpAny_late (Q := Q) hL2 hQ _ _ _ _ (by simp [late_length]) h0
  have h2 := wpAny_late (Q := Q) hL hQ _ _ _ _ (by simp [late_length]) h1
  simpa [late_length] using h2
set_option maxRecDepth 100000 in
theorem wp_region_flowd {id : Nat} (N1 : Nat) (lev al : List Nat) (ph : List (Nd × List Nat × List Nat)) {a : Act} {w : World} {l : List Oper} (hm : P.follows .mixedOrders = true) (hB : flowB .any l.toArray N1 lev al ph = true)
    (h : After P l.toArray (fun a b => Below a.heap.size a b) w (fun _ => True) (fun pd' A' => WalkD P l.toArray (fun a b => Below a.heap.size a b) w (fun A w1 => wpList P l.toArray Q (l.drop N1) A w1) ph pd' [] A' (fun _ => True) (fun _ => True)) lev al [] a) : (Code.region id l.toArray true).wp P Q a w := by
  refine wp_region_any hm ?_
  have h0 : wpAny P .any l.toArray Q l.toArray.size (Array.replicate l.toArray.size false) a w.drew := by
    have hR := rel_below
    obtain ⟨A, hlev, hal⟩ := h
    obtain ⟨g, hlB, haB, hpB, hcov⟩ := fgl_of hB
    have hle : N1 ≤ l.length := by simpa using g.le
    have hlvl := g.level hlB
    have hrel : Below w.heap.size w w.drew := hR.of (Below.refl _ _).drew
    rw [← pick_eq] at hlev
    obtain ⟨r1, r2, r3⟩ := walk_rest (hlev w.drew hrel trivial)
    obtain ⟨pd', hK, hp1, hp2, hp3⟩ := hal.out
    have hno : ∀ j, (Array.replicate l.length false).getD j false = false := fun j => getD_replicate_false _ _
    have hpa : ∀ p ∈ pd', p.1 ∈ al ∧ ∀ o, l.toArray[p.1]? = some o → AlOK P l.toArray (fun a b => Below a.heap.size a b) w A (fun _ => True) p.2.1 p.2.2 o := fun p hp => by
      rcases hp1 p hp with h | h
      · simp at h
      · exact h
    have hI : FInv (fun a b => Below a.heap.size a b) P .any l.toArray N1 a w lev pd' A (fun _ => True) (fun _ => True) (Array.replicate l.length false) := by
      refine ⟨fun j hj => (levB_mem hlB j hj).1, fun j hj => by simpa using (levB_mem hlB j hj).2.2, fun j hj o ho _ => ?_, fun p hp => (alB_at haB _ (hpa p hp).1).1, fun p hp => (alB_at haB _ (hpa p hp).1).2.2.2, fun p hp => (hpa p hp).2, fun d hd => ?_, r1, r2, fun _ _ _ _ _ => trivial, fun _ _ _ _ => trivial⟩
      · refine det_of_walk (fun oo hoo cs b => ?_) hlvl.2.1 hlvl.2.2 hlev o (List.mem_filterMap.2 ⟨j, hj, ho⟩)
        obtain ⟨j', _, hoj'⟩ := hlvl.1 oo hoo
        exact g.sel j' oo cs b hoj'
      · refine r3 d fun oo hoo he => ?_
        obtain ⟨j, hj, hoj⟩ := hlvl.1 oo hoo
        exact hd j hj (by rw [hoj]; exact he)
    have hA : FAt (fun a b => Below a.heap.size a b) l.toArray a w lev pd' A (fun _ => True) (fun _ => True) (Array.replicate l.length false) a w.drew := by
      refine ⟨hrel, trivial, trivial, r1.symm, r2.symm, fun j hj => ?_, fun j d _ hj => ?_, fun p _ _ hj => ?_, fun d _ => rfl⟩
      all_goals (rw [hno] at hj; cases hj)
    have := wpAny_flowd hR (Q := Q) (a0 := a) g (fun w1 w2 b o _ h2 _ ho => by
      have hlt : b < w1.heap.size := (Array.getElem?_eq_some_iff.1 ho).1
      rw [h2.block b hlt]; exact ho) (fun _ h => h.size) (fun _ _ h => h.size) N1 ph (Array.replicate l.length false) a w.drew lev al pd' A (fun _ => True) (fun _ => True) [] (fun _ => 0) (by simp) (fun t _ => hno _) (fun j o _ hj => by rw [hno] at hj; cases hj) (cnt_start N1 _ hle) hpB (fun j => by rw [hp3 j]; simp) hcov hK hI hA ⟨fun p hp hf => absurd hf (alB_at haB _ (hpa p hp).1).2.1, fun p _ hj => (by rw [hno] at hj; cases hj), fun p _ _ hj => (by rw [hno] at hj; cases hj), fun p _ q _ hj => (by rw [hno] at hj; cases hj), fun k hk => (by cases hk)⟩
    rw [show N1 + (l.length - N1) = l.toArray.size by simp; omega] at this
    simpa using this
  simpa using h0

set_option maxRecDepth 100000 in
theorem WalkD.call {w : World} {Fin : Act → World → Prop} {j : Nat} {lv al : List Nat} {ph : List (Nd × List Nat × List Nat)} {pd : Pend} {ks : List Nat} {A : Act} {F G : World → Prop} {l : List Oper} {o : Oper} (ho : l[j]? = some o) (f : FuncId) (args : Array Value) (Fact : Value → World → Prop)
    (hstab : ∀ v w' w'', Fact v w' → Below w'.heap.size w' w'' → Fact v w'') (hw : Region.wanted o (yielded l.toArray A.tmps) = true)
    (hnd : ∀ w1, Below w.heap.size w w1 → F w1 → (execOp A.eval o).run P w1 = .ok (.enter f args) w1 ∧ Calls P f args w1 fun e w2 => ∃ v, e = .returned v ∧ Below w1.heap.size w1 w2 ∧ Fact v w2)
    (hnext : ∀ v w0, Below w.heap.size w w0 → F w0 → Fact v w0 → After P l.toArray (fun a b => Below a.heap.size a b) w (fun w1 => F w1 ∧ Fact v w1) (fun pd' A' => WalkD P l.toArray (fun a b => Below a.heap.size a b) w Fin ph pd' ks A' (fun w1 => F w1 ∧ Fact v w1) (fun _ => True)) lv al pd (A.put o.dst v)) :
    WalkD P l.toArray (fun a b => Below a.heap.size a b) w Fin ((.c j, lv, al) :: ph) pd ks A F G :=
  ⟨o, by simpa using ho, Fact, fun _ _ => True, fun v w' w'' _ h k => hstab v w' w'' h k, fun _ _ _ _ _ => trivial, fun w1 hb hF _ => ⟨hw, .inr ⟨f, args, (hnd w1 hb hF).1, (hnd w1 hb hF).2.mono fun _ _ ⟨v, h1, h2, h3⟩ => ⟨v, h1, h2, h3, trivial⟩⟩⟩, hnext⟩

set_option maxRecDepth 100000 in
theorem WalkD.blk {R : World → World → Prop} {w : World} {Fin : Act → World → Prop} {j : Nat} {lv al : List Nat} {ph : List (Nd × List Nat × List Nat)} {pd : Pend} {ks : List Nat} {A : Act} {F G : World → Prop} {l : List Oper} {o : Oper} (ho : l[j]? = some o) (mk : Nat → Value) (obj : Obj) (hmem : (j, mk, obj) ∈ pd)
    (hnext : ∀ b w0, R w w0 → F w0 → w.heap.size ≤ b → b ∉ ks → w0.heap[b]? = some obj → After P l.toArray R w (fun w1 => F w1 ∧ w1.heap[b]? = some obj) (fun pd' A' => WalkD P l.toArray R w Fin ph pd' (b :: ks) A' (fun w1 => F w1 ∧ w1.heap[b]? = some obj) G) lv al pd (A.put o.dst (mk b))) :
    WalkD P l.toArray R w Fin ((.b j, lv, al) :: ph) pd ks A F G := ⟨o, by simpa using ho, mk, obj, hmem, hnext⟩

set_option maxRecDepth 100000 in
theorem WalkD.fin {l : List Oper} {R : World → World → Prop} {w : World} {Fin : Act → World → Prop} {pd : Pend} {ks : List Nat} {A : Act} {F G : World → Prop} (h : ∀ w1, R w w1 → F w1 → G w1 → Fin A w1) : WalkD P l.toArray R w Fin [] pd ks A F G := h
end
end Go.Proofs.YthaicocfbmpnmaaDoor
